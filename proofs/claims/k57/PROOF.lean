import PyProof.Rows.All
import Wide.All
import OpenK.AllK
import Wide.FinOn
import Lean
import PyProof.EqAt
import PyProof.EqKinds
import PyProof.TupleCall
import PySem.Str
import PySem.Builtin.Int.W1All
import PyProof.NeKinds
import PyProof.ZipIter
import PyProof.SumWalkG
import PyProof.MinMaxWalk
import PyProof.WalksMore
import PyProof.SeqI3
import PyProof.WalkInts
import PyProof.Rows.CallKwBuiltin
import PyProof.Rows.Tup
import PyProof.CollectIter
import PyProof.EnumMake
import PyProof.TupleOfSeq
import PyProof.ListNew
import PyProof.ReprLoop
import PyProof.StationsW
import PyProof.ExcClass3
import PyProof.Rows.CatchBare
import OpenK.KOwn
import KE.KIsAll
import PyProof.NsDelKeeps
import PyProof.RulesAs
import PyProof.ExcArgsOwn
import PyProof.ListRange
import KE.RegKIsAll
import KE.KRevIter
import PyProof.Rows.SortRuns
import KE.KSortTup
import PyProof.DictWalks
import KE.KDictList
import PyProof.ExcBaseAll.ValueError
import PySem.Challenge.RW_hourhaul_k57_calendars_made
set_option Elab.async false
set_option linter.all false
set_option maxRecDepth 100000
set_option genSizeOf false
set_option compiler.extract_closed false
set_option bootstrap.genMatcherCode false
open List(replicate getElem?_set_ne getElem?_set_self size_toArray all_eq_true mem_cons getElem?_map mem_map length_map map_cons lookup_cons getElem?_append_left mem_cons_of_mem length_cons getElem_mem mem_append_right mem_of_getElem? length_append not_mem_nil mem_cons_self mem_append foldl length_set replicate_succ filterMap_cons length_take all_cons mem_singleton nodup_cons flatten_cons map_nil getD append_nil of_mem_zip nil_append forIn_cons forIn_nil any_cons map)
open PySem.W(mg_none_of mg_of keepIn methodObj kitx_dict)
open Nat(le_refl ne_of_lt lt_of_lt_of_le le_trans lt_irrefl zero_le le_of_lt)
open PySem.Heap(lt_size get?_push_of_some get?_push_size size_push SameBut)
open PySem.Builtin.SmallTypes(nextOf ownedTupleIsFree ownedTupleHandOut)
open Bool(and_eq_true or_eq_true false_eq_true)
open PySem.Builtin.Tuple(tupleExact tupleItemsOf)
open Option(map_eq_some_iff bind_some getD_none)
open PySem.Builtin.Slice(slicePlaces sliceAdjust sliceApplied)
open PySem.Builtin.List(listTooLong)
open Array(length_toList toList)
open PySem.F(slot_tuple_add entry_tuple_add args_tuple_add_2 slot_tuple_mul plainAttrs_list)
open PySem.SeqAt.EqAt(int_str str_int)
open PySem.SeqAt.RcAt(lists_lengths)
open PySem.SeqAt.RcNeAt(none_int none_str bool_int bool_str int_none int_bool int_int int_list str_none str_bool str_str str_list list_int list_str)
theorem mq{h:PySem.Heap}{o b:PySem.Obj}{a:PySem.Addr}(e:h.get? a=some o):(h.push b).get? a=some o:=PySem.Heap.get?_push_of_some _ e
theorem gw{b:Type}{l:List b}{i:Nat}{a:b}(h:l[i]?=some a):∃h:i<l.length,l[i]=a:=List.getElem?_eq_some_iff.mp h
theorem eX{b:Type}{l:List b}{i j:Nat}{a:b}(h:j≠i):(l.set i a)[j]?=l[j]?:=List.getElem?_set_ne (Ne.symm h)
theorem Jo{n:Nat}:0<=n:=Nat.zero_le n
theorem dH{n:Nat}:n<=n:=Nat.le_refl n
section
namespace L2
open PySem PySem.Spec PyProof.Rows
variable{w:World}{h:Heap}{t' i:Nat}{M:Model}{A:Around}{s:Shared}{pos:Pos}{pins:List (Addr×Obj)}{K:PySem.W.Frag}{tg:Expr}{op:CmpOp}{us:List Value}
noncomputable abbrev Key:=Sum Int Str
noncomputable def Dg:Key->Value->Bool|.inl k,v=>Value.isInt k v|.inr x,v=>Value.isStrOf x v
noncomputable def Qz(w:World):Key->Int|.inl k=>hashInt k|.inr x=>hashStr w x
theorem bJ:∀{k:Key}{v:Value},Dg k v=true->(∃i t,k=Sum.inl i/\v=Value.int i t)\/(∃x t,k=Sum.inr x/\v=Value.str x t)|.inl i,v,h=>by obtain⟨t,e⟩:=Value.isInt_shape (k:=i) (v:=v) h;exact .inl ⟨i,t,rfl,e⟩|.inr x,v,h=>by obtain⟨t,e⟩:=Value.isStrOf_shape (x:=x) (v:=v) h;exact .inr ⟨x,t,rfl,e⟩
theorem Hr(a b:Int):decide ((Sum.inl a:Key)=Sum.inl b)=(a==b):=by
 by_cases e:a=b;.subst e;simp
 .have h:¬(Sum.inl a:Key)=Sum.inl b:=λq=>e (Sum.inl.inj q);rw[decide_eq_false h];exact(beq_eq_false_iff_ne.mpr e).symm
theorem Ew(a b:Str):decide ((Sum.inr a:Key)=Sum.inr b)=decide (a=b):=by
 by_cases e:a=b;.subst e;simp
 .have h:¬(Sum.inr a:Key)=Sum.inr b:=λq=>e (Sum.inr.inj q);rw[decide_eq_false h,decide_eq_false e]
theorem Eg(a:Int)(b:Str):decide ((Sum.inl a:Key)=Sum.inr b)=false:=decide_eq_false (λq=>nomatch q)
theorem FZ(a:Str)(b:Int):decide ((Sum.inr a:Key)=Sum.inl b)=false:=decide_eq_false (λq=>nomatch q)
noncomputable def tD(prog:Program)(w:World):PySem.KeyKind prog w Key where
 is:=Dg;hash:=Qz w;inj:=λv a b g f=>by
  rcases bJ g with⟨i,t,rfl,rfl⟩|⟨x,t,rfl,rfl⟩
  . rcases bJ f with⟨j,u,rfl,e⟩|⟨y,u,rfl,e⟩;.injection e with e1 _;rw[e1]
    .exact nomatch e
  . rcases bJ f with⟨j,u,rfl,e⟩|⟨y,u,rfl,e⟩;.exact nomatch e
    .injection e with e1 _;rw[e1]
 byValue:=λk v h=>by rcases bJ h with⟨i,t,rfl,rfl⟩|⟨x,t,rfl,rfl⟩<;>rfl
 pyHash:=λc h=>by
  rcases bJ c with⟨i,t,rfl,rfl⟩|⟨x,t,rfl,rfl⟩;.exact wpAny_pyHash_int h
  .exact wpAny_pyHash_str h
 eqBool:=λl c h=>by
  rcases bJ l with⟨i,t,rfl,rfl⟩|⟨x,t,rfl,rfl⟩
  . rcases bJ c with⟨j,u,rfl,rfl⟩|⟨y,u,rfl,rfl⟩;.rw[Hr]at h;exact wpAny_eqBool_int h
    .rw[Eg]at h;exact int_str i t y u _ _ _ _ h
  . rcases bJ c with⟨j,u,rfl,rfl⟩|⟨y,u,rfl,rfl⟩;.rw[FZ]at h;exact str_int x t j u _ _ _ _ h
    .rw[Ew]at h;exact wpAny_eqBool_str h
 «strs»:=λk x t v h=>by
  rcases bJ h with⟨i,u,rfl,e⟩|⟨y,u,rfl,e⟩;.exact nomatch e
  .injection e with e1 _;subst e1;cases v<;>rfl
inductive V where|non|bl(b:Bool)|int(i:Int)|str(x:Str)|Ua(b:Array UInt8)|flt(b:UInt64)|ref(a:Addr)|ty(n:String)deriving DecidableEq
def RelV:V->Value->Prop|.non,u=>u=Value.none|.bl b,u=>u=Value.bool b|.int i,u=>∃t,u=Value.int i t|.str x,u=>∃t,u=Value.str x t|.Ua b,u=>∃t,u=Value.bytes b t|.flt b,u=>∃t,u=Value.float b t|.ref a,u=>u=Value.ref a|.ty n,u=>u=Value.type n
abbrev Vals:List V->List Value->Prop:=Paired RelV
theorem Vals.length{xs:List V}{us:List Value}(r:Vals xs us):xs.length=us.length:=Paired.length r
theorem Vals.get:∀{xs:List V}{us:List Value}{i:Nat}{x:V},Vals xs us->xs[i]?=some x->∃u,us[i]?=some u/\RelV x u|_,_,_,_,.nil,e=>by simp at e|_,_,0,_,.cons r _,e=>by simp at e;subst e;exact⟨_,rfl,r⟩|_,_,i+1,x,.cons _ t,e=>by obtain⟨u,h1,a⟩:=Vals.get (i:=i) (x:=x) t (by simpa using e);exact⟨u,by simpa using h1,a⟩
theorem Vals.set{x:V}{u:Value}(r:RelV x u):∀{xs:List V}{us:List Value}(i:Nat),Vals xs us->Vals (xs.set i x) (us.set i u)|_,_,_,.nil=>.nil|_,_,0,.cons _ t=>.cons r t|_,_,i+1,.cons q t=>.cons q (Vals.set r i t)
theorem Vals.append:∀{xs ys:List V}{us a:List Value},Vals xs us->Vals ys a->Vals (xs++ys) (us++a)|_,_,_,_,.nil,s=>s|_,_,_,_,.cons r t,s=>.cons r (Vals.append t s)
theorem Vals.take:∀{xs:List V}{us:List Value}(n:Nat),Vals xs us->Vals (xs.take n) (us.take n)|_,_,0,_=>.nil|_,_,_+1,.nil=>.nil|_,_,n+1,.cons r t=>.cons r (Vals.take n t)
theorem Vals.drop:∀{xs:List V}{us:List Value}(n:Nat),Vals xs us->Vals (xs.drop n) (us.drop n)|_,_,0,r=>r|_,_,_+1,.nil=>.nil|_,_,n+1,.cons _ t=>Vals.drop n t
def K5:Option V->Option Value->Prop|some v,some u=>RelV v u|none,none=>True|_,_=>False
def KV{a:Type}:List (a×V)->List (a×Value)->Prop:=Paired λ(p:a×V)(q:a×Value)=>p.1=q.1/\RelV p.2 q.2
noncomputable def kV:Key->V|.inl i=>.int i|.inr x=>.str x
inductive HO where|lst(xs:List V)|tup(xs:List V)|dK(kvs:List (Key×V))|dT(kvs:List (List Key×V))|set(S:Int->Bool)(n:Nat)|ins(C dx:Addr)(fs:List (Str×V))|own(x:Addr)|xd(fs:List (Str×V))|met(f x:Addr)|vH(lo hi:Int)|dI(o:Obj)(u:HO)|Ig(ps:Array Value)|ext(φ:Heap->Prop)
noncomputable abbrev Hp:=Addr->Option HO
variable{H:Hp}
noncomputable def upd(H:Hp)(a:Addr)(o:HO):Hp:=λb=>if b=a then some o else H b
theorem aO{a:Addr}{o:HO}:upd H a o a=some o:=by unfold upd;rw[if_pos rfl]
theorem aD{a b:Addr}{o:HO}(h:b≠a):upd H a o b=H b:=by unfold upd;rw[if_neg h]
theorem dZ{a b:Addr}{o:HO}(h:H a=some o)(h':H b=none):a≠b:=by intro e;subst e;rw[h]at h';cases h'
section
variable(P:Program)(w:World)
def cG(H:Hp)(h:Heap)(a:Addr):HO->Prop|.lst xs=>xs.length<=sizeLine/\∃(b:List Value)(n:Nat),Vals xs b/\h.get? a=some {cls:=.type "list",data:=.seq b.toArray n}|.tup xs=>xs.length<=sizeLine/\∃b:List Value,Vals xs b/\IsTup h a b.toArray|.dK c=>c.length<=sizeLine/\(a==sysModules)=false/\∃k,KV c k/\h.DictOf (tD P w) a k|.dT c=>c.length<=sizeLine/\(a==sysModules)=false/\∃xs:List (List Key×Addr×Value),Paired (λ(p:List Key×V)(q:List Key×Addr×Value)=>p.1=q.1/\H q.2.1=some (.tup (p.1.map kV))/\RelV p.2 q.2.2) c xs/\∃o l r,h.get? a=some o/\o.ExactDict/\o.data=.dict l r/\l.toList=xs.map (entryOfKey (tupleKind (tD P w)))/\(xs.map (·.1)).Nodup|.set S n=>h.SetOf (intKind P w) a S n|.ins C g fs=>H g=some (.own a)/\fs.length<=1000/\g≠a/\h.get? a=some (PySem.W.instObj C g)/\∃e,h.Ns1 g e/\(∀f,K5 (fs.lookup f) (e f))/\PySem.Within e (fs.map (·.1))|.own _=>∃o,h.get? a=some o|.xd fs=>∃e,h.Ns1 a e/\∀f,K5 (fs.lookup f) (e f)|.vH lo hi=>∃t u v,h.get? a=some {cls:=.type "range",data:=.fields #[.int lo t,.int hi u,.int 1 v]}|.dI o u=>h.get? a=some o/\cG H h a u|.Ig ps=>h.get? a=some {cls:=.none,data:=.fields ps}|.met f x=>h.get? a=some (methodObj (.ref f) (.ref x))|.ext j=>j h/\(∃o,h.get? a=some o)/\∀h1 m:Heap,j h1->(∀o,h1.get? a=some o->m.get? a=some o)->j m
def mj(H:Hp)(h:Heap):Prop:=∀a o,H a=some o->cG P w H h a o
end
section
variable{P:Program}{w:World}{H H':Hp}{h h':Heap}{a:Addr}{o:HO}
theorem cG.lt(x:cG P w H h a o):a<h.objs.size:=by cases o with|lst xs=>obtain⟨_,_,_,_,e⟩:=x;exact lt_size e|tup xs=>obtain⟨_,_,_,p⟩:=x;exact p.lt|dK b=>obtain⟨_,_,_,_,o,_,_,e,_⟩:=x;exact lt_size e|dT b=>obtain⟨_,_,_,_,o,_,_,e,_⟩:=x;exact lt_size e|set S n=>obtain⟨o,_,_,_,e,_⟩:=x;exact lt_size e|ins C c fs=>obtain⟨_,_,_,e,_⟩:=x;exact lt_size e|own y=>obtain⟨_,e⟩:=x;exact lt_size e|xd fs=>obtain⟨_,⟨_,_,_,e,_⟩,_⟩:=x;exact lt_size e|vH lo hi=>obtain⟨_,_,_,e⟩:=x;exact lt_size e|dI g u=>obtain⟨e,_⟩:=x;exact lt_size e|Ig ps=>exact lt_size (show h.get? a=some _ from x)|met f y=>exact lt_size (show h.get? a=some _ from x)|ext j=>obtain⟨_,⟨_,e⟩,_⟩:=x;exact lt_size e
theorem Paired.Mh{g j:Type}{F G:g->j->Prop}:∀{c:List g}{e:List j},Paired F c e->(∀a b,F a b->G a b)->Paired G c e|_,_,.nil,_=>.nil|_,_,.cons r t,f=>.cons (f _ _ r) (Paired.Mh t f)
theorem cG.stay(x:cG P w H h a o)(k:∀b u,(b=a\/H b=some (.own a))->h.get? b=some u->h'.get? b=some u)(ho:∀b,H b=some (.own a)->H' b=some (.own a))(G:∀b xs,H b=some (.tup xs)->H' b=some (.tup xs)):cG P w H' h' a o:=by induction o with|lst xs=>obtain⟨z,m,n,r,e⟩:=x;exact⟨z,m,n,r,k _ _ (.inl rfl) e⟩|tup xs=>obtain⟨z,m,r,g,e,c⟩:=x;exact⟨z,m,r,g,k _ _ (.inl rfl) e,c⟩|dK B=>obtain⟨z,y,I,r,g,j,l,e,c⟩:=x;exact⟨z,y,I,r,g,j,l,k _ _ (.inl rfl) e,c⟩|dT B=>obtain⟨z,y,xs,r,g,j,l,e,c⟩:=x;exact⟨z,y,xs,Paired.Mh r λp q z=>⟨z.1,G _ _ z.2.1,z.2.2⟩,g,j,l,k _ _ (.inl rfl) e,c⟩|set S n=>obtain⟨g,j,l,t,e,c⟩:=x;exact⟨g,j,l,t,k _ _ (.inl rfl) e,c⟩|ins C N fs=>obtain⟨d,z,ne,e,E,⟨F,j,l,J,c⟩,r⟩:=x;exact⟨ho _ d,z,ne,k _ _ (.inl rfl) e,E,⟨F,j,l,k _ _ (.inr d) J,c⟩,r⟩|own y=>obtain⟨g,e⟩:=x;exact⟨g,k _ _ (.inl rfl) e⟩|xd fs=>obtain⟨E,⟨F,j,l,e,c⟩,r⟩:=x;exact⟨E,⟨F,j,l,k _ _ (.inl rfl) e,c⟩,r⟩|vH lo hi=>obtain⟨t,u,v,e⟩:=x;exact⟨t,u,v,k _ _ (.inl rfl) e⟩|dI g u L=>obtain⟨e,q⟩:=x;exact⟨k _ _ (.inl rfl) e,L q⟩|Ig ps=>have e:h.get? a=some {cls:=.none,data:=.fields ps}:=x;show h'.get? a=some {cls:=.none,data:=.fields ps};exact k a _ (.inl rfl) e|met f y=>have e:h.get? a=some (methodObj (.ref f) (.ref y)):=x;show h'.get? a=some (methodObj (.ref f) (.ref y));exact k a _ (.inl rfl) e|ext O=>obtain⟨p,⟨o,e⟩,st⟩:=x;exact⟨st _ _ p λo q=>k _ _ (.inl rfl) q,⟨o,k _ _ (.inl rfl) e⟩,st⟩
theorem mj.lt(x:mj P w H h)(e:H a=some o):a<h.objs.size:=(x a o e).lt
theorem mj.fresh(x:mj P w H h)(e:h.objs.size<=a):H a=none:=by cases q:H a with|none=>rfl|some u=>exact absurd (lt_of_lt_of_le (x.lt q) e) (lt_irrefl _)
theorem mj.kept(x:mj P w H h)(k:∀b u,h.get? b=some u->h'.get? b=some u):mj P w H h':=λa o e=>(x a o e).stay (λb u _ q=>k b u q) (λ_ q=>q) λ_ _ q=>q
theorem mj.laid(x:mj P w H h)(k:∀b u,h.get? b=some u->h'.get? b=some u)(j:h.objs.size<=a)(new:cG P w (upd H a o) h' a o):mj P w (upd H a o) h':=λb u e=>by
 have f:=x.fresh j;by_cases g:b=a;.subst g;rw[aO]at e;cases e;exact new
 .rw[aD g]at e;exact(x b u e).stay (λc v _ q=>k c v q) (λc q=>by rw[aD (dZ q f)];exact q) λc xs q=>by rw[aD (dZ q f)];exact q
end
def Rd(H:Hp)(a:Addr)(u:HO):Prop:=H a=some u\/∃o,H a=some (.dI o u)
theorem Rd.ok{P:Program}{a:Addr}{u:HO}(r:Rd H a u)(x:mj P w H h):cG P w H h a u:=by
 rcases r with r|⟨o,r⟩;.exact x a u r
 .obtain⟨_,q⟩:=x a _ r;exact q
def Om:Option HO->Prop|some (.lst _)=>True|some (.dK _)=>True|some (.dT _)=>True|some (.set _ _)=>True|some (.ins _ _ _)=>True|some (.ext _)=>True|_=>False
section
variable{P:Program}{w:World}{H:Hp}{h h':Heap}{x e:Addr}{o':HO}
theorem mj.write(ok:mj P w H h)(f:Om (H x))(he:e=x\/H e=some (.own x))(k:∀b u,b≠e->h.get? b=some u->h'.get? b=some u)(j:∃u,h'.get? e=some u)(new:cG P w (upd H x o') h' x o'):mj P w (upd H x o') h':=λb u q=>by
 have l:∀c y,H c=some (.own y)->c≠x:=λc y r z=>by subst z;rw[r]at f;exact f
 have n:∀c xs,H c=some (.tup xs)->c≠x:=λc xs r z=>by subst z;rw[r]at f;exact f
 by_cases g:b=x;.subst g;rw[aO]at q;cases q;exact new
 . rw[aD g]at q;by_cases a:b=e
   . have m:H b=some (.own x):=by
      rcases he with z|z;.exact absurd (a.trans z) g
      .rw[a];exact z
     rw[q]at m;cases m;obtain⟨v,o⟩:=j;exact⟨v,by rw[a];exact o⟩
   . refine(ok b u q).stay (λc v hc r=>k c v ?_ r) (λc r=>by rw[aD (l c b r)];exact r) λc xs r=>by rw[aD (n c xs r)];exact r
     rcases hc with rfl|hc;.exact a
     . rintro rfl;rcases he with z|z;.exact l c b hc z
       .rw[hc]at z;cases z;exact g rfl
end
structure Un(fs ex:List Addr)(H H':Hp)(h h':Heap):Prop where
 keep:∀b o,h.get? b=some o->H b=none->b∉fs->b∉ex->h'.get? b=some o
 slot:∀b o,h.get? b=some o->H b=none->b∈fs->b∉ex->∃sl,h'.get? b=some {o with slots:=sl}free:∀b o,h.get? b=some o->H b=none->b∉ex->H' b=none
 there:∀b o,h.get? b=some o->b∉ex->∃o',h'.get? b=some o'
 tups:∀b xs,H b=some (.tup xs)->H' b=some (.tup xs)lV:∀b o u,H b=some (.dI o u)->H' b=some (.dI o u)oR:∀b ps,H b=some (.Ig ps)->∃more,H' b=some (.Ig (ps++more))
section
variable{fs fs' ex ex':List Addr}{H H1 H2:Hp}{h h1 h2 h':Heap}{a x e:Addr}{o:HO}
theorem Un.any(u:Un fs ex H H1 h h1){b:Addr}{c:Obj}(q:h.get? b=some c)(n:H b=none)(f:b∉ex):∃j,h1.get? b=some {c with slots:=j}:=by
 by_cases g:b∈fs;.exact u.slot b c q n g f
 .exact⟨c.slots,u.keep b c q n g f⟩
theorem Un.kept(k:∀b u,h.get? b=some u->h'.get? b=some u):Un fs ex H H h h':=⟨λb c q _ _ _=>k b c q,λb c q _ _ _=>⟨c.slots,k b c q⟩,λ_ _ _ n _=>n,λb c q _=>⟨c,k b c q⟩,λ_ _ q=>q,λ_ _ _ q=>q,λ_ ps q=>⟨#[],by rw[q];simp⟩⟩
theorem Un.refl:Un fs ex H H h h:=Un.kept λ_ _ q=>q
theorem Un.laid(k:∀b u,h.get? b=some u->h'.get? b=some u)(f:h.objs.size<=a)(c:H a=none):Un fs ex H (upd H a o) h h' where
 keep:=λb u q _ _ _=>k b u q;slot:=λb u q _ _ _=>⟨u.slots,k b u q⟩;free:=λb u q n _=>by rw[aD (ne_of_lt (lt_of_lt_of_le (lt_size q) f))];exact n
 there:=λb u q _=>⟨u,k b u q⟩;tups:=λb xs q=>by rw[aD (dZ q c)];exact q
 lV:=λb u xs q=>by rw[aD (dZ q c)];exact q
 oR:=λb ps q=>⟨#[],by rw[aD (dZ q c),q];simp⟩
theorem Un.write(f:Om (H x))(he:e=x\/H e=some (.own x))(k:∀b u,b≠e->h.get? b=some u->h'.get? b=some u)(g:∃u,h'.get? e=some u):Un fs ex H (upd H x o) h h':=by
 have l:∀b,H b=none->b≠x:=λb n z=>by subst z;rw[n]at f;exact f
 have m:∀b,H b=none->b≠e:=λb n z=>by
  subst z;rcases he with r|r;.exact l b n r
  .rw[n]at r;cases r
 have j:∀b u,H b=some u->¬ Om (some u)->b≠x:=λb u q p z=>by subst z;rw[q]at f;exact p f
 refine⟨λb u q n _ _=>k b u (m b n) q,λb u q n _ _=>⟨u.slots,k b u (m b n) q⟩,λb u q n _=>by rw[aD (l b n)];exact n,λb u q _=>?_,λb xs q=>by rw[aD (j b _ q λz=>z)];exact q,λb u xs q=>by rw[aD (j b _ q λz=>z)];exact q,λb ps q=>⟨#[],by rw[aD (j b _ q λz=>z),q];simp⟩⟩;by_cases c:b=e;.subst c;exact g
 .exact⟨u,k b u c q⟩
end
noncomputable def Qg(h:Heap)(H:Hp):List Addr:=(List.range h.objs.size).filter λa=>(H a).isSome
noncomputable def nH(h:Heap)(H:Hp):Heap:=PySem.W.hideAll h (Qg h H)
theorem uP(h:Heap)(H:Hp):(nH h H).objs.size=h.objs.size:=PySem.W.hideAll_size _ _
theorem wN{b:Addr}{o:Obj}(e:h.get? b=some o)(n:H b=none):(nH h H).get? b=some o:=PySem.W.hideAll_get _ e λa=>by have q:(H b).isSome=true:=(List.mem_filter.mp a).2;rw[n]at q;simp at q
theorem yW{b:Addr}{o:Obj}(e:(nH h H).get? b=some o):h.get? b=some o/\H b=none:=by have a:h.get? b=some o:=PySem.W.of_hideAll (Qg h H) e;refine⟨a,?_⟩;cases q:H b with|none=>rfl|some x=>have c:b∈Qg h H:=List.mem_filter.mpr ⟨List.mem_range.mpr (lt_size a),by simp[q]⟩;have z:(nH h H).get? b=none:=PySem.W.hideAll_none (Qg h H) c;rw[z]at e;cases e
structure Mod(K:PySem.W.Frag)(mg:Str->Option Value)(base:Heap):Prop where
 Uc:K.In base
 glob:base.Ns mainGlobals mg
 blt:∃mb,base.Ns builtinsNs mb/\∀x:Str,x≠"__name__"->mb x=bootBuiltins x
 nolimit:base.NoLimit
structure Cx where
 prog:Program
 w:World
 K:PySem.W.Frag
 mg:Str->Option Value
 base:Heap
 A:Around
 N:List Str
 s₀:Shared
 H₀:Hp
 env:Env
 outer:List Env
 stack:List Env
 ex:List Addr
 fn:Str->Bool
 calm:Bool
 pn:List (Addr×Obj)xe:Value->Shared->Prop
variable{X:Cx}
noncomputable def frs(l:List Env):List Addr:=l.filterMap (·.frame)
noncomputable abbrev Cx.fs(X:Cx):List Addr:=frs X.outer
def vG(a:Scope)(x:Str):Prop:=a.names.lookup x=some .local\/a.names.lookup x=some .cell\/a.names.lookup x=some .free
def Loc(a:Scope)(x:Str):Prop:=a.names.lookup x=some .local\/a.names.lookup x=some .cell
def Look(env:Env)(h:Heap)(m:Str->Option Value)(x:Str)(u:Value):Prop:=(env.kindOf x=some .local/\m x=some u)\/((env.kindOf x=some .cell\/env.kindOf x=some .free)/\∃c,env.cells.lookup x=some c/\h.IsCell c (some u))
structure Cx.Ok(X:Cx):Prop where
 mod:Mod X.K X.mg X.base
 kind:X.env.scope.kind=.function
 glob:X.env.globals=mainGlobals
 blt:X.env.builtins=builtinsNs
 above:X.s₀.heap.objs.size<=X.env.locals
 inj:∀x y c,X.env.cells.lookup x=some c->X.env.cells.lookup y=some c->x=y
 has:∀x,(X.env.kindOf x=some .cell\/X.env.kindOf x=some .free)->∃c,X.env.cells.lookup x=some c
 cab:∀x c,X.fn x=true->X.env.cells.lookup x=some c->X.s₀.heap.objs.size<=c
 hd:X.calm=true->X.A.handled=none
 frames:X.A.frames=some X.stack
 Qk:X.stack=X.outer\/(X.stack=X.env::X.outer/\X.env.frame=some X.env.locals)VV:∀b∈X.ex,b≠X.env.locals/\∀x c,X.env.cells.lookup x=some c->c≠b
 bs:∀b o,X.base.get? b=some o->X.s₀.heap.get? b=some o/\X.H₀ b=none
 Dt:X.base.objs.size<=X.s₀.heap.objs.size
 yz:∀b o,X.base.get? b=some o->b∉X.ex
 BJ:∀b∈X.ex,b∉X.fs
 lG:X.s₀.heap.FunFrames X.base X.outer
 Kc:∀b∈X.fs,X.H₀ b=none
structure Inv(X:Cx)(pins:List (Addr×Obj))(σ:List (Option V))(H:Hp)(s:Shared):Prop where
 ok:X.Ok
 os:s.os=X.s₀.os
 bare:AllBare s.gens
 base:Un X.fs X.ex X.H₀ H X.s₀.heap s.heap
 loc:∃m,s.heap.Ns X.env.locals m/\∀(i:Nat)(x:Str)(v:V),X.N[i]?=some x->σ[i]?=some (some v)->vG X.env.scope x->∃u,RelV v u/\Look X.env s.heap m x u
 cell:∀x c,X.env.cells.lookup x=some c->∃v,s.heap.IsCell c v
 free:H X.env.locals=none
 gV:∀x c,X.env.cells.lookup x=some c->H c=none
 pin:∀p∈X.pn++pins,s.heap.get? p.1=some p.2/\H p.1=none/\p.1≠X.env.locals/\p.1∉X.fs/\∀v,p.2.data≠.cell v
 hok:mj X.prog X.w H s.heap
 len:σ.length=X.N.length
section
variable{X:Cx}{pins:List (Addr×Obj)}{σ:List (Option V)}{H H':Hp}{s:Shared}{h':Heap}
theorem Cx.Ok.Tz(ok:X.Ok){b:Addr}{o:Obj}(e:X.base.get? b=some o):b∉X.fs:=λa=>by have:=(ok.lG.mem a).1;rw[e]at this;cases this
theorem Inv.bs(I:Inv X pins σ H s):∀b o,X.base.get? b=some o->s.heap.get? b=some o/\H b=none:=λb o e=>⟨I.base.keep b o (I.ok.bs b o e).1 (I.ok.bs b o e).2 (I.ok.Tz e) (I.ok.yz b o e),I.base.free b o (I.ok.bs b o e).1 (I.ok.bs b o e).2 (I.ok.yz b o e)⟩
theorem Inv.bk(I:Inv X pins σ H s):∀b o,X.base.get? b=some o->s.heap.get? b=some o:=λb o e=>(I.bs b o e).1
theorem Inv.mod(I:Inv X pins σ H s):Mod X.K X.mg X.base:=I.ok.mod
theorem Inv.Cg(I:Inv X pins σ H s):X.K.In s.heap:=I.ok.mod.Uc.keeps I.bk
theorem Inv.lt(I:Inv X pins σ H s):X.env.locals<s.heap.objs.size:=let⟨_,hn,_⟩:=I.loc;hn.lt
theorem Inv.sz(I:Inv X pins σ H s):X.s₀.heap.objs.size<=s.heap.objs.size:=le_trans I.ok.above (le_of_lt I.lt)
theorem Inv.Rh(I:Inv X pins σ H s){a:Addr}(h:s.heap.objs.size<=a):a∉X.fs:=λb=>by obtain⟨_,o,ho,_⟩:=I.ok.lG.mem b;exact absurd (lt_of_lt_of_le (lt_size ho) (le_trans I.sz h)) (lt_irrefl _)
theorem Inv.Hz(I:Inv X pins σ H s):∀x c,X.env.cells.lookup x=some c->c≠X.env.locals:=λx c e z=>by obtain⟨v,o,ho,hd⟩:=I.cell x c e;obtain⟨m,⟨f,g,j,a,b,_⟩,_⟩:=I.loc;rw[z,a]at ho;cases ho;rw[b]at hd;cases hd
theorem Inv.lG(I:Inv X pins σ H s):s.heap.FunFrames X.base X.outer:=by
 have all:∀(l:List Env),(∀b∈frs l,b∈X.fs)->X.s₀.heap.FunFrames X.base l->s.heap.FunFrames X.base l:=by intro l;induction l with|nil=>intro _ _;trivial|cons env r g=>intro hs j;obtain⟨k,⟨L,o,a,m,ho,hd⟩,hr⟩:=j;have c:L∈X.fs:=hs L (by unfold frs;rw[filterMap_cons,a];exact mem_cons_self);obtain⟨n,e⟩:=I.base.slot L o ho (I.ok.Kc L c) c λz=>I.ok.BJ L z c;exact⟨k,⟨L,_,a,m,e,hd⟩,g (λb f=>hs b (by unfold frs;rw[filterMap_cons,a];exact mem_cons_of_mem _ f)) hr⟩
 exact all X.outer (λ_ f=>f) I.ok.lG
theorem Inv.stack(I:Inv X pins σ H s):s.heap.FunFrames X.base X.stack:=by
 rcases I.ok.Qk with e|⟨e,a⟩;.rw[e];exact I.lG
 .rw[e];obtain⟨m,b,_⟩:=I.loc;refine .cons (by rw[I.ok.kind];decide) a b ?_ I.lG;exact Heap.get?_none_of_le (le_trans I.ok.Dt I.ok.above)
theorem Inv.oF(I:Inv X pins σ H s):∀b∈frs X.stack,b∈X.env.locals::X.fs:=λb a=>by
 rcases I.ok.Qk with e|⟨e,c⟩;.rw[e]at a;exact mem_cons_of_mem _ a
 .rw[e]at a;unfold frs at a;rw[filterMap_cons,c]at a;exact a
theorem Inv.uf(I:Inv X pins σ H s):∀b∈frs X.stack,H b=none:=λb hb=>by
 rcases mem_cons.mp (I.oF b hb)with e|hb;.rw[e];exact I.free
 .obtain⟨_,o,ho,_⟩:=I.ok.lG.mem hb;exact I.base.free b o ho (I.ok.Kc b hb) λz=>I.ok.BJ b z hb
theorem Inv.step{g':Array GenState}{d':Drawn}{ch:List Addr}(I:Inv X pins σ H s)(f:∀b∈ch,(b∈X.ex\/X.s₀.heap.objs.size<=b)/\b≠X.env.locals/\(∀x c,X.env.cells.lookup x=some c->c≠b)/\∀p∈X.pn++pins,p.1≠b)(keep:∀b o,b≠X.env.locals->b∉X.fs->b∉ch->s.heap.get? b=some o->H b=none->h'.get? b=some o)(slot:∀b o,b≠X.env.locals->b∈X.fs->b∉ch->s.heap.get? b=some o->H b=none->∃F,h'.get? b=some {o with slots:=F})(free:∀b o,b∉ch->s.heap.get? b=some o->H b=none->H' b=none)(there:∀b o,b∉ch->s.heap.get? b=some o->∃y,h'.get? b=some y)(tups:∀b xs,H b=some (.tup xs)->H' b=some (.tup xs))(lV:∀b o u,H b=some (.dI o u)->H' b=some (.dI o u))(oR:∀b ps,H b=some (.Ig ps)->∃more,H' b=some (.Ig (ps++more)))(ns:∀m,s.heap.Ns X.env.locals m->h'.Ns X.env.locals m)(hok:mj X.prog X.w H' h')(O:AllBare g'):Inv X pins σ H' {s with heap:=h',gens:=g',drawn:=d',toks:=t'}:=by
 have J:∀b o,X.s₀.heap.get? b=some o->b≠X.env.locals:=λb o e=>ne_of_lt (lt_of_lt_of_le (lt_size e) I.ok.above);have E:∀b o,X.s₀.heap.get? b=some o->b∉X.ex->b∉ch:=λb o e a t=>by
  rcases(f b t).1 with z|z;.exact a z
  .exact absurd (lt_of_lt_of_le (lt_size e) z) (lt_irrefl _)
 have g:∀x c,X.env.cells.lookup x=some c->∀v,s.heap.IsCell c v->h'.IsCell c v:=λx c e v⟨o,ho,hd⟩=>by
  have B:c∉ch:=λz=>(f c z).2.2.1 x c e rfl;by_cases hc:c∈X.fs;.obtain⟨F,q⟩:=slot c o (I.Hz x c e) hc B ho (I.gV x c e);exact⟨_,q,hd⟩
  .exact⟨o,keep c o (I.Hz x c e) hc B ho (I.gV x c e),hd⟩
 refine⟨I.ok,I.os,O,⟨λb o e n t a=>?_,λb o e n t a=>?_,λb o e n a=>?_,λb o e a=>?_,λb xs e=>tups b xs (I.base.tups b xs e),λb o xs e=>lV b o xs (I.base.lV b o xs e),λb ps e=>?_⟩,?_,λx c e=>?_,?_,λx c e=>?_,λp L=>?_,hok,I.len⟩;.exact keep b o (J b o e) t (E b o e a) (I.base.keep b o e n t a) (I.base.free b o e n a)
 .obtain⟨F,j⟩:=I.base.slot b o e n t a;obtain⟨G,C⟩:=slot b _ (J b o e) t (E b o e a) j (I.base.free b o e n a);exact⟨G,C⟩
 .obtain⟨y,j⟩:=I.base.there b o e a;exact free b y (E b o e a) j (I.base.free b o e n a)
 .obtain⟨y,j⟩:=I.base.there b o e a;exact there b y (E b o e a) j
 .obtain⟨m1,j⟩:=I.base.oR b ps e;obtain⟨Q,C⟩:=oR b _ j;exact⟨m1++Q,by rw[C,Array.append_assoc]⟩
 . obtain⟨m,U,W⟩:=I.loc;refine⟨m,ns m U,λi x v j C Y=>?_⟩;obtain⟨u,r,l⟩:=W i x v j C Y;refine⟨u,r,?_⟩;rcases l with l|⟨k,c,e,z⟩;.exact .inl l
   .exact .inr ⟨k,c,e,g x c e _ z⟩
 .obtain⟨v,z⟩:=I.cell x c e;exact⟨v,g x c e v z⟩
 .obtain⟨m,⟨o,_,_,ho,_⟩,_⟩:=I.loc;exact free _ o (λz=>(f _ z).2.1 rfl) ho I.free
 .obtain⟨v,o,ho,hd⟩:=I.cell x c e;exact free c o (λz=>(f c z).2.2.1 x c e rfl) ho (I.gV x c e)
 .obtain⟨e,n,ne,N,d⟩:=I.pin p L;have B:p.1∉ch:=λz=>(f p.1 z).2.2.2 p L rfl;exact⟨keep p.1 p.2 ne N B e n,free p.1 p.2 B e n,ne,N,d⟩
theorem Inv.un(I:Inv X pins σ H s)(u:Un X.fs [] H H' s.heap h')(hok:mj X.prog X.w H' h'):Inv X pins σ H' {s with heap:=h',toks:=t'}:=by obtain⟨m,⟨o,p,q,ho,r⟩,_⟩:=id I.loc;obtain⟨t,j⟩:=u.any ho I.free (by simp);exact I.step (g':=s.gens) (d':=s.drawn) (ch:=[]) (λ_ z=>nomatch z) (λb o _ c _ e n=>u.keep b o e n c (by simp)) (λb o _ c _ e n=>u.slot b o e n c (by simp)) (λb o _ e n=>u.free b o e n (by simp)) (λb o _ e=>u.there b o e (by simp)) u.tups u.lV u.oR (λv k=>by obtain⟨x,f,g,a,l⟩:=k;rw[ho]at a;cases a;exact⟨_,f,g,j,l⟩) hok I.bare
theorem Inv.call{g':Array GenState}{d':Drawn}{ch:List Addr}(I:Inv X pins σ H s)(u:Un (frs X.stack) ch H H' s.heap h')(hok:mj X.prog X.w H' h')(l:AllBare g')(a:∀b∈ch,(b∈X.ex\/X.s₀.heap.objs.size<=b)/\b≠X.env.locals/\(∀x c,X.env.cells.lookup x=some c->c≠b)/\∀p∈X.pn++pins,p.1≠b):Inv X pins σ H' {s with heap:=h',gens:=g',drawn:=d',toks:=t'}:=by obtain⟨m,⟨o,y,B,ho,r⟩,_⟩:=id I.loc;obtain⟨C,g⟩:=u.any ho I.free λz=>(a _ z).2.1 rfl;exact I.step (ch:=ch) a (λb o g q hc e n=>u.keep b o e n (λz=>(mem_cons.mp (I.oF b z)).elim g q) hc) (λb o _ _ hc e n=>u.any e n hc) (λb o hc e n=>u.free b o e n hc) (λb o hc e=>u.there b o e hc) u.tups u.lV u.oR (λE t=>by obtain⟨F,j,k,f,v⟩:=t;rw[ho]at f;cases f;exact⟨_,j,k,g,v⟩) hok l
theorem Inv.turned{a:Addr}(I:Inv X pins σ H s)(k:∀b o,b≠a->s.heap.get? b=some o->h'.get? b=some o)(j:H a=none)(f:a≠X.env.locals)(h1:a∈X.ex\/X.s₀.heap.objs.size<=a)(l:∀x c,X.env.cells.lookup x=some c->c≠a)(t:∀p∈X.pn++pins,p.1≠a):Inv X pins σ H {s with heap:=h',toks:=t'}:=by
 have g:∀b u,H b=some u->b≠a:=λb u e z=>by rw[z,j]at e;cases e
 refine I.step (g':=s.gens) (d':=s.drawn) (ch:=[a]) (λb y=>?_) (λb o _ _ hc e _=>k b o (λz=>hc (by simp[z])) e) (λb o _ _ hc e _=>⟨o.slots,k b o (λz=>hc (by simp[z])) e⟩) (λ_ _ _ _ n=>n) (λb o hc e=>⟨o,k b o (λz=>hc (by simp[z])) e⟩) (λ_ _ e=>e) (λ_ _ _ e=>e) (λb ps e=>⟨#[],by rw[e];simp⟩) (λm B=>?_) (λb u e=>?_) I.bare
 . have e:b=a:=by simpa using y
   subst e;exact⟨h1,f,l,t⟩
 .obtain⟨o,C,E,ho,r⟩:=B;exact⟨o,C,E,k _ o (Ne.symm f) ho,r⟩
 . refine(I.hok b u e).stay (λc v hc q=>k c v ?_ q) (λ_ q=>q) λ_ _ q=>q;rcases hc with z|z;.rw[z];exact g b u e
   .exact g c _ z
theorem Inv.tok(I:Inv X pins σ H s)(t:Nat):Inv X pins σ H {s with toks:=t}:=I.un (h':=s.heap) (t':=t) Un.refl I.hok
theorem Inv.kept{t':Nat}(I:Inv X pins σ H s)(k:∀b u,s.heap.get? b=some u->h'.get? b=some u):Inv X pins σ H {s with heap:=h',toks:=t'}:=I.un (Un.kept k) (I.hok.kept k)
theorem Inv.laid{a:Addr}{o:HO}{t':Nat}(I:Inv X pins σ H s)(k:∀b u,s.heap.get? b=some u->h'.get? b=some u)(c:s.heap.objs.size<=a)(new:cG X.prog X.w (upd H a o) h' a o):Inv X pins σ (upd H a o) {s with heap:=h',toks:=t'}:=I.un (Un.laid k c (I.hok.fresh c)) (I.hok.laid k c new)
theorem Inv.write{x e:Addr}{o:HO}{t':Nat}(I:Inv X pins σ H s)(c:Om (H x))(he:e=x\/H e=some (.own x))(k:∀b u,b≠e->s.heap.get? b=some u->h'.get? b=some u)(a:∃u,h'.get? e=some u)(new:cG X.prog X.w (upd H x o) h' x o):Inv X pins σ (upd H x o) {s with heap:=h',toks:=t'}:=I.un (Un.write c he k a) (I.hok.write c he k a new)
theorem Inv.tW{a:List (Addr×Obj)}(I:Inv X pins σ H s)(h:∀p∈a,s.heap.get? p.1=some p.2/\H p.1=none/\p.1≠X.env.locals/\p.1∉X.fs/\∀v,p.2.data≠.cell v):Inv X a σ H s:=⟨I.ok,I.os,I.bare,I.base,I.loc,I.cell,I.free,I.gV,λp b=>(mem_append.mp b).elim (λz=>I.pin p (List.mem_append_left _ z)) (h p),I.hok,I.len⟩
theorem pG{N:List Str}(c:N.Nodup){j:Nat}{x:Str}(a:N[i]?=some x)(b:N[j]?=some x):i=j:=by obtain⟨h1,e⟩:=gw a;obtain⟨g,f⟩:=gw b;exact(List.getElem_inj c).mp (e.trans f.symm)
theorem mW{E:Value->Shared->Prop}{x:Str}{v:V}{u:Value}{Q:Unit->Shared->Prop}(I:Inv X pins σ H s)(hN:X.N.Nodup)(hi:X.N[i]?=some x)(l:Loc X.env.scope x)(r:RelV v u)(h:∀s',Inv X pins (σ.set i (some v)) H s'->(∃a,SameBut a s.heap s'.heap/\(a=X.env.locals\/X.env.cells.lookup x=some a))->Q () s')(hf:X.fn x=true\/X.env.scope.names.lookup x=some .local:=by first|exact .inl rfl|exact .inr rfl|assumption):wpAny M A (storeName X.env x u) Q E s:=by
 obtain⟨m,hn,hl⟩:=id I.loc;have L:(X.env.scope.kind==.class||(X.env.scope.kind==.module&&X.env.locals !=X.env.globals))=false:=by rw[I.ok.kind];rfl
 have C:i<σ.length:=by rw[I.len];exact(gw hi).1
 have Hz:=I.Hz;have f:∀{a:Addr}{h':Heap},(∃o,s.heap.get? a=some o/\H a=none)->SameBut a s.heap h'->mj X.prog X.w H h':=λ{a h'}ha hs b ob e=>by
  obtain⟨_,_,t⟩:=ha;refine(I.hok b ob e).stay (λc Y hc q=>(hs.2 c ?_).trans q) (λ_ q=>q) λ_ _ q=>q;rintro rfl;rcases hc with rfl|hc;.rw[t]at e;cases e
  .rw[t]at hc;cases hc
 rcases l with hk|hk
 . refine wpAny_storeName_local hk hn (λh' ab hs=>?_) L;obtain⟨oL,_,_,ac,_⟩:=id hn;refine h _ ⟨I.ok,I.os,I.bare,⟨λb o e n F l=>?_,λb o e n F l=>?_,I.base.free,λb o e l=>?_,I.base.tups,I.base.lV,I.base.oR⟩,⟨_,ab,λj y v' g B e3=>?_⟩,λy c e=>?_,I.free,I.gV,λp hp=>?_,f ⟨oL,ac,I.free⟩ hs,by simpa using I.len⟩ ⟨_,hs,.inl rfl⟩;.exact(hs.2 b (ne_of_lt (lt_of_lt_of_le (lt_size e) I.ok.above))).trans (I.base.keep b o e n F l)
   .obtain⟨sl,g⟩:=I.base.slot b o e n F l;exact⟨sl,(hs.2 b (ne_of_lt (lt_of_lt_of_le (lt_size e) I.ok.above))).trans g⟩
   .obtain⟨o',g⟩:=I.base.there b o e l;exact⟨o',(hs.2 b (ne_of_lt (lt_of_lt_of_le (lt_size e) I.ok.above))).trans g⟩
   . by_cases G:j=i;.subst G;rw[hi]at g;cases g;rw[getElem?_set_self C]at B;cases B;exact⟨u,r,.inl ⟨hk,by simp⟩⟩
     . rw[eX G]at B;obtain⟨u',r',q⟩:=hl j y v' g B e3;refine⟨u',r',?_⟩;rcases q with⟨k,e⟩|⟨k,c,e,z⟩;.refine .inl ⟨k,?_⟩;have:y≠x:=λe=>G (pG hN g (e▸hi));simp[this,e]
       .exact .inr ⟨k,c,e,z.sameBut hs (Hz y c e)⟩
   .obtain⟨Y,z⟩:=I.cell y c e;exact⟨Y,z.sameBut hs (Hz y c e)⟩
   .obtain⟨e,n,ne,nf,d⟩:=I.pin p hp;exact⟨(hs.2 p.1 ne).trans e,n,ne,nf,d⟩
 . have J:X.fn x=true:=by
    rcases hf with z|z;.exact z
    .rw[z]at hk;cases hk
   obtain⟨c,hc⟩:=I.ok.has x (.inl hk);obtain⟨Y,z⟩:=I.cell x c hc;refine wpAny_storeName_cell I.ok.kind hk hc z (λh' O hs=>?_);obtain⟨oc,U,Ud⟩:=id z;refine h {s with heap:=h'} ⟨I.ok,I.os,I.bare,⟨λb o e n F l=>?_,λb o e n F l=>?_,I.base.free,λb o e l=>?_,I.base.tups,I.base.lV,I.base.oR⟩,⟨m,hn.sameBut hs (Ne.symm (Hz x c hc)),λj y v' g B e3=>?_⟩,λy Z e=>?_,I.free,I.gV,λp hp=>?_,f ⟨oc,U,I.gV x c hc⟩ hs,by simpa using I.len⟩ ⟨c,hs,.inr hc⟩;.exact(hs.2 b (ne_of_lt (lt_of_lt_of_le (lt_size e) (I.ok.cab x c J hc)))).trans (I.base.keep b o e n F l)
   .obtain⟨sl,g⟩:=I.base.slot b o e n F l;exact⟨sl,(hs.2 b (ne_of_lt (lt_of_lt_of_le (lt_size e) (I.ok.cab x c J hc)))).trans g⟩
   .obtain⟨o',g⟩:=I.base.there b o e l;exact⟨o',(hs.2 b (ne_of_lt (lt_of_lt_of_le (lt_size e) (I.ok.cab x c J hc)))).trans g⟩
   . by_cases G:j=i;.subst G;rw[hi]at g;cases g;rw[getElem?_set_self C]at B;cases B;exact⟨u,r,.inr ⟨.inl hk,c,hc,O⟩⟩
     . rw[eX G]at B;obtain⟨u',r',q⟩:=hl j y v' g B e3;refine⟨u',r',?_⟩;rcases q with q|⟨k,Z,e,z'⟩;.exact .inl q
       .refine .inr ⟨k,Z,e,z'.sameBut hs ?_⟩;rintro rfl;exact G (pG hN g (I.ok.inj _ _ _ e hc▸hi))
   . by_cases W:Z=c;.subst W;exact⟨_,O⟩
     .obtain⟨w2,z2⟩:=I.cell y Z e;exact⟨w2,z2.sameBut hs W⟩
   .obtain⟨e,n,ne,nf,d⟩:=I.pin p hp;refine⟨(hs.2 p.1 ?_).trans e,n,ne,nf,d⟩;intro q;rw[q,U]at e;have q':oc=p.2:=Option.some.inj e;exact d Y (by rw[<-q'];exact Ud)
theorem pU{E:Value->Shared->Prop}{x:Str}{v:V}{u:Value}{Q:Unit->Shared->Prop}(I:Inv X pins σ H s)(b:X.N.Nodup)(hi:X.N[i]?=some x)(c:Loc X.env.scope x)(r:RelV v u)(h:∀a,Inv X pins (σ.set i (some v)) H a->Q () a)(e:X.fn x=true\/X.env.scope.names.lookup x=some .local:=by first|exact .inl rfl|exact .inr rfl|assumption):wpAny M A (storeName X.env x u) Q E s:=mW I b hi c r (λa f _=>h a f) e
end
abbrev XK:=Value->Option Addr->Hp->Prop
noncomputable abbrev St:=List (Option V)
abbrev VK:=V->Hp->Prop
abbrev TE:=St->Hp->VK->Prop
abbrev TT:=St->Hp->(Bool->Hp->Prop)->Prop
abbrev TA:=St->Hp->(List V->Hp->Prop)->Prop
structure Ends where
 nx:St->Hp->Prop
 rt:VK
 bk:St->Hp->Prop:=λ_ _=>False
 ct:St->Hp->Prop:=λ_ _=>False
abbrev TS:=Ends->St->Hp->Prop
inductive EP(X:Cx)(pins:List (Addr×Obj))(σ:St)(Q:VK)(u:Value)(s':Shared):Prop where|mk(v:V)(H':Hp)(q0:Inv X pins σ H' s')(q1:RelV v u)(q2:Q v H')
def TP(X:Cx)(pins:List (Addr×Obj))(c:St)(Q:Bool->Hp->Prop)(b:Bool)(e:Shared):Prop:=∃a,Inv X pins c a e/\Q b a
inductive AP(X:Cx)(pins:List (Addr×Obj))(σ:St)(Q:List V->Hp->Prop)(us:List Value)(s':Shared):Prop where|mk(vs:List V)(H':Hp)(q0:Inv X pins σ H' s')(q1:Vals vs us)(q2:Q vs H')
def SP(X:Cx)(pins:List (Addr×Obj))(D:Ends)(f:Flow)(c:Shared):Prop:=match f with|.next=>∃a b,Inv X pins a b c/\D.nx a b|.brk=>∃a b,Inv X pins a b c/\D.bk a b|.cont=>∃a b,Inv X pins a b c/\D.ct a b|.ret u=>∃v a b,Inv X pins a b c/\RelV v u/\D.rt v b
def PE(X:Cx)(e:Expr)(t:TE):Prop:=∀(pins:List (Addr×Obj))(s:Shared)(a:St)(H:Hp)(Q:VK),Inv X pins a H s->t a H Q->wpAny (model X.prog X.w) X.A (eval e X.env) (EP X pins a Q) X.xe s
def PT(X:Cx)(e:Expr)(t:TT):Prop:=∀(pins:List (Addr×Obj))(s:Shared)(a:St)(H:Hp)(Q:Bool->Hp->Prop),Inv X pins a H s->t a H Q->wpAny (model X.prog X.w) X.A (isTrue e X.env (eval e X.env)) (TP X pins a Q) X.xe s
def PW(X:Cx)(e:Expr)(t:TT):Prop:=∀(a:Sem Value)(pins:List (Addr×Obj))(s:Shared)(b:St)(H:Hp)(Q:Bool->Hp->Prop),Inv X pins b H s->t b H Q->wpAny (model X.prog X.w) X.A (isTrue e X.env a) (TP X pins b Q) X.xe s
theorem PW.pt{e:Expr}{t:TT}(h:PW X e t):PT X e t:=h _
def PA(X:Cx)(b:List Expr)(t:TA):Prop:=∀(pos:Pos)(pins:List (Addr×Obj))(s:Shared)(a:St)(H:Hp)(Q:List V->Hp->Prop),Inv X pins a H s->t a H Q->wpAny (model X.prog X.w) X.A (spliced (backTo pos (starEach b X.env))) (AP X pins a Q) X.xe s
def PS(X:Cx)(st:Stmt)(t:TS):Prop:=∀(pins:List (Addr×Obj))(s:Shared)(a:St)(H:Hp)(D:Ends),Inv X pins a H s->t D a H->wpAny (model X.prog X.w) X.A (exec st X.env) (SP X pins D) X.xe s
def lY(X:Cx)(st:List Stmt)(t:TS):Prop:=∀(pins:List (Addr×Obj))(s:Shared)(a:St)(H:Hp)(D:Ends),Inv X pins a H s->t D a H->wpAny (model X.prog X.w) X.A (execs st X.env) (SP X pins D) X.xe s
theorem cY{b:Type}{t:Sem b}{Q c:b->Shared->Prop}{E:Value->Shared->Prop}(h:wpAny M A t Q E s)(e:∀a s,Q a s->c a s):wpAny M A t c E s:=wpAny_mono h e λ_ _ x=>x
section
variable{X:Cx}
def jL(i:Nat):TE:=λa H Q=>∃v,a[i]?=some (some v)/\Q v H
def tC(v:V):TE:=λ_ H Q=>Q v H
theorem gQ{x:Str}(f:X.N[i]?=some x)(g:vG X.env.scope x)(hd:(x==("__debug__":Str))=false:=by decide)(b:(x==("__classdict__":Str))=false:=by decide):PE X (.Name x pos) (jL i):=by
 intro pins s j H Q I h;obtain⟨v,e,h⟩:=h;obtain⟨m,k,n⟩:=I.loc;obtain⟨u,r,l⟩:=n i x v f e g;have fin:EP X pins j Q u s:=⟨v,H,I,r,h⟩;rcases l with⟨hk,o⟩|⟨hk,c,hc,a⟩;.exact wpAny_Name (wpAny_loadName_local I.ok.kind hk k o fin) hd
 . rcases hk with hk|hk;.exact wpAny_Name (wpAny_loadName_cell I.ok.kind hk hc a fin) hd
   .exact wpAny_Name (wpAny_loadName_free I.ok.kind hk hc a fin b) hd
theorem Gx{i j pos}:PE X (.Constant (.int i) j pos) (tC (.int i)):=λ_ _ _ H _ I h=>wpAny_Constant_int ⟨.int i,H,I.tok _,⟨_,rfl⟩,h⟩
theorem Ku{b j pos}:PE X (.Constant (.bool b) j pos) (tC (.bl b)):=λ_ _ _ H _ I h=>Constant_bool ⟨.bl b,H,I,rfl,h⟩
theorem Hf{j pos}:PE X (.Constant .none j pos) (tC .non):=λ_ _ _ H _ I h=>Constant_none ⟨.non,H,I,rfl,h⟩
def Gl(X:Cx)(x:Str):Prop:=X.env.kindOf x=some .globalImplicit
theorem tV{E:Value->Shared->Prop}{a:St}{x:Str}{u:Value}{Q:Value->Shared->Prop}(I:Inv X pins a H s)(b:Gl X x)(c:X.mg x=some u)(h:Q u s)(hd:(x==("__debug__":Str))=false:=by decide):wpAny (model X.prog X.w) X.A (eval (.Name x pos) X.env) Q E s:=Calls.Name_function_global I.ok.kind b (Calls.loadGlobal_global (by rw[I.ok.glob];exact I.mod.glob.keeps I.bk) c h) hd
theorem lU{E:Value->Shared->Prop}{a:St}{x:Str}{u:Value}{Q:Value->Shared->Prop}(I:Inv X pins a H s)(b:Gl X x)(c:X.mg x=none)(e:bootBuiltins x=some u)(h:Q u s)(f:x≠"__name__":=by decide)(hd:(x==("__debug__":Str))=false:=by decide):wpAny (model X.prog X.w) X.A (eval (.Name x pos) X.env) Q E s:=by obtain⟨j,h1,g⟩:=I.mod.blt;exact Calls.Name_function_global I.ok.kind b (Calls.loadGlobal_builtin (by rw[I.ok.glob];exact I.mod.glob.keeps I.bk) c (by rw[I.ok.blt];exact h1.keeps I.bk) ((g x f).trans e) h) hd
theorem zF{x:Str}{v:V}{u:Value}(a:Gl X x)(b:X.mg x=some u)(r:RelV v u)(hd:(x==("__debug__":Str))=false:=by decide):PE X (.Name x pos) (tC v):=λ_ _ _ H _ I h=>tV I a b ⟨v,H,I,r,h⟩ hd
theorem oM{x:Str}{v:V}{u:Value}(a:Gl X x)(b:X.mg x=none)(c:bootBuiltins x=some u)(r:RelV v u)(e:x≠"__name__":=by decide)(hd:(x==("__debug__":Str))=false:=by decide):PE X (.Name x pos) (tC v):=λ_ _ _ H _ I h=>lU I a b c ⟨v,H,I,r,h⟩ e hd
variable{a b:Expr}{ta tb:TE}{pos:Pos}
def tB(t:TE):TT:=λe H Q=>t e H λx f=>∃c,x=.bl c/\Q c f
theorem wA{e:Expr}{t:TE}(h:PE X e t)(he:∀c,isTrue e X.env c=(do let v<-c;standAt e.pos;holding [v] (truthy v)):=by intro _;rfl):PT X e (tB t):=by intro pins s f H Q I g;refine isTrue_plain (cY (h pins s f H _ I g) λv s1⟨x,H1,I1,r1,q1⟩=>?_) (he _);obtain⟨d,rfl,q⟩:=q1;cases r1;exact wpAny_truthy_bool ⟨H1,I1,q⟩
variable{tA V2:TT}{rest:List Expr}
def tOr(t u:TT):TT:=λe H Q=>t e H λc f=>if c=true then Q true f else u e f Q
def Ti(t:TT):TT:=λe H Q=>t e H λc f=>Q (!c) f
theorem Fx(f:PT X a tA):PW X (.BoolOp .Or [a] pos) tA:=by intro j pins s g H Q I h;refine isTrue_or (cY (f pins s g H Q I h) λc s1 e=>?_);cases c with|false=>exact isTrue_or_nil e|true=>exact e
theorem KQ(g:PT X a tA)(j:PW X (.BoolOp .Or (b::rest) pos) V2):PW X (.BoolOp .Or (a::b::rest) pos) (tOr tA V2):=by intro k pins s e H Q I h;refine isTrue_or (cY (g pins s e H _ I h) λc s1⟨f,I1,q1⟩=>?_);cases c with|true=>exact⟨f,I1,q1⟩|false=>exact j k pins s1 e f Q I1 q1
theorem G9(e:PT X a tA):PT X (.UnaryOp .Not a pos) (Ti tA):=by intro pins s f H Q I h;exact isTrue_not (e pins s f H (λc g=>Q (!c) g) I h)
def Np(ta tb:TE):TE:=λe H Q=>ta e H λx f=>∃c,x=.bl c/\if c=true then tb e f Q else Q (.bl false) f
def SM(ta tb:TE):TE:=λe H Q=>ta e H λx f=>∃c,x=.bl c/\if c=true then Q (.bl true) f else tb e f Q
def Lr(ta:TE):TE:=λe H Q=>ta e H λx f=>∃c,x=.bl c/\Q (.bl (!c)) f
theorem HN{op}{t:TE}(h:PE X a t):PE X (.BoolOp op [a] pos) t:=λpins s c H Q I e=>BoolOp_one (h pins s c H Q I e)
theorem DW(g:PE X a ta)(j:PE X (.BoolOp .And (b::rest) pos) tb):PE X (.BoolOp .And (a::b::rest) pos) (Np ta tb):=by intro pins s f H Q I h;refine BoolOp_and (cY (g pins s f H _ I h) λv s1⟨x,H1,I1,r1,e⟩=>?_);obtain⟨c,rfl,e⟩:=e;cases r1;refine wpAny_truthy_bool ?_;cases c with|true=>exact j pins s1 f H1 Q I1 e|false=>exact⟨.bl false,H1,I1,rfl,e⟩
theorem xM(g:PE X a ta)(j:PE X (.BoolOp .Or (b::rest) pos) tb):PE X (.BoolOp .Or (a::b::rest) pos) (SM ta tb):=by intro pins s f H Q I h;refine BoolOp_or (cY (g pins s f H _ I h) λv s1⟨x,H1,I1,r1,e⟩=>?_);obtain⟨c,rfl,e⟩:=e;cases r1;refine wpAny_truthy_bool ?_;cases c with|false=>exact j pins s1 f H1 Q I1 e|true=>exact⟨.bl true,H1,I1,rfl,e⟩
theorem GF(f:PE X a ta):PE X (.UnaryOp .Not a pos) (Lr ta):=by intro pins s g H Q I h;refine UnaryOp_ (cY (f pins s g H _ I h) λv s1⟨x,H1,I1,r1,e⟩=>?_);obtain⟨c,rfl,e⟩:=e;cases r1;exact not_of (wpAny_truthy_bool ⟨.bl (!c),H1,I1,rfl,e⟩)
def tIf(t:TT)(ta tb:TE):TE:=λe H Q=>t e H λc f=>if c=true then ta e f Q else tb e f Q
theorem wB{c:Expr}(hc:PT X c tA)(g:PE X a ta)(j:PE X b tb):PE X (.IfExp c a b pos) (tIf tA ta tb):=by intro pins s e H Q I h;refine wpAny_IfExp (cY (hc pins s e H _ I h) λd s1⟨f,I1,q1⟩=>?_);cases d with|true=>exact g pins s1 e f Q I1 q1|false=>exact j pins s1 e f Q I1 q1
end
def cR(K:PySem.W.Frag)(H:Hp)(a:Addr)(xs:List V):Prop:=Rd H a (.lst xs)\/∃(o:Obj)(b:Array Value)(n:Nat),K.lookup a=some o/\o.cls=.type "list"/\o.dict=none/\o.data=.seq b n/\b.size<=sizeLine/\Vals xs b.toList
def fV(K:PySem.W.Frag)(H:Hp)(a:Addr)(xs:List V):Prop:=Rd H a (.tup xs)\/∃(o:Obj)(b:Array Value)(n:Nat),K.lookup a=some o/\o.cls=.type "tuple"/\o.data=.seq b n/\b.size<=sizeLine/\Vals xs b.toList
noncomputable def Rq:Value->Option V|.none=>some .non|.bool b=>some (.bl b)|.int i _=>some (.int i)|.str x _=>some (.str x)|.bytes b _=>some (.Ua b)|.float b _=>some (.flt b)|.ref a=>some (.ref a)|.type n=>some (.ty n)|_=>none
theorem RelV.abs{x:V}{u:Value}(r:RelV x u):Rq u=some x:=by cases x with|non=>cases r;rfl|bl _=>cases r;rfl|int _=>obtain⟨t,rfl⟩:=r;rfl|str _=>obtain⟨t,rfl⟩:=r;rfl|Ua _=>obtain⟨t,rfl⟩:=r;rfl|flt _=>obtain⟨t,rfl⟩:=r;rfl|ref _=>cases r;rfl|ty _=>cases r;rfl
theorem RelV.inj{x y:V}{u:Value}(r:RelV x u)(q:RelV y u):x=y:=Option.some.inj (r.abs.symm.trans q.abs)
theorem Vals.inj:∀{xs ys:List V}{us:List Value},Vals xs us->Vals ys us->xs=ys|_,_,_,.nil,.nil=>rfl|_,_,_,.cons r t,.cons a t'=>by rw[r.inj a,Vals.inj t t']
section
variable{X:Cx}{pins:List (Addr×Obj)}{σ:St}{H:Hp}{s:Shared}{a:Addr}{xs ys:List V}
theorem cR.of(h:H a=some (.lst xs)):cR K H a xs:=.inl (.inl h)
theorem fV.of(h:H a=some (.tup xs)):fV K H a xs:=.inl (.inl h)
theorem Inv.list(I:Inv X pins σ H s)(h:cR X.K H a xs):∃b:List Value,Vals xs b/\PlainL s.heap a b.toArray/\xs.length<=sizeLine:=by
 rcases h with h|⟨o,b,n,c,hc,hd,hs,f,r⟩;.obtain⟨z,b,n,r,e⟩:=h.ok I.hok;exact⟨b,r,⟨_,n,e,rfl,rfl,rfl⟩,z⟩
 .refine⟨b.toList,r,⟨o,n,I.Cg a o c,hc,hd,by simpa using hs⟩,?_⟩;have e:=r.length;simp only[length_toList]at e;omega
theorem Inv.tuple(I:Inv X pins σ H s)(h:fV X.K H a xs):∃b:List Value,Vals xs b/\IsTup s.heap a b.toArray/\xs.length<=sizeLine:=by
 rcases h with h|⟨o,b,n,c,hc,hs,f,r⟩;.obtain⟨z,b,r,p⟩:=h.ok I.hok;exact⟨b,r,p,z⟩
 .refine⟨b.toList,r,⟨o,I.Cg a o c,hc,n,by simpa using hs⟩,?_⟩;have e:=r.length;simp only[length_toList]at e;omega
theorem Inv.km(I:Inv X pins σ H s)(h:cR X.K H a xs)(h':cR X.K H a ys):xs=ys:=by
 obtain⟨b,r,⟨o,n,e,_,_,d⟩,_⟩:=I.list h;obtain⟨its',f,⟨g,j,c,_,_,d'⟩,_⟩:=I.list h';rw[e]at c;cases c;rw[d]at d';injection d' with d1 _;have:b=its':=by simpa using congrArg toList d1
 subst this;exact r.inj f
theorem Inv.jB(I:Inv X pins σ H s)(h:fV X.K H a xs)(h':fV X.K H a ys):xs=ys:=by
 obtain⟨b,r,⟨o,e,_,n,d⟩,_⟩:=I.tuple h;obtain⟨its',f,⟨g,c,_,j,d'⟩,_⟩:=I.tuple h';rw[e]at c;cases c;rw[d]at d';injection d' with d1 _;have:b=its':=by simpa using congrArg toList d1
 subst this;exact r.inj f
end
noncomputable abbrev Cx.wish(X:Cx)(E:Value->Shared->Prop):Cx:={X with xe:=E}
noncomputable abbrev Cx.J6(X:Cx):Cx:=X.wish λ_ _=>False
theorem Cx.Ok.wish{X:Cx}(ok:X.Ok)(E:Value->Shared->Prop):(X.wish E).Ok:=⟨ok.mod,ok.kind,ok.glob,ok.blt,ok.above,ok.inj,ok.has,ok.cab,ok.hd,ok.frames,ok.Qk,ok.VV,ok.bs,ok.Dt,ok.yz,ok.BJ,ok.lG,ok.Kc⟩
theorem Cx.Ok.gR{E:Value->Shared->Prop}(ok:(X.wish E).Ok):X.Ok:=⟨ok.mod,ok.kind,ok.glob,ok.blt,ok.above,ok.inj,ok.has,ok.cab,ok.hd,ok.frames,ok.Qk,ok.VV,ok.bs,ok.Dt,ok.yz,ok.BJ,ok.lG,ok.Kc⟩
section
variable{X:Cx}{pins:List (Addr×Obj)}{σ:St}{H:Hp}{s:Shared}{E:Value->Shared->Prop}
theorem Inv.wish(I:Inv X pins σ H s)(E:Value->Shared->Prop):Inv (X.wish E) pins σ H s:=⟨I.ok.wish E,I.os,I.bare,I.base,I.loc,I.cell,I.free,I.gV,I.pin,I.hok,I.len⟩
theorem Inv.gR(I:Inv (X.wish E) pins σ H s):Inv X pins σ H s:=⟨I.ok.gR,I.os,I.bare,I.base,I.loc,I.cell,I.free,I.gV,I.pin,I.hok,I.len⟩
theorem SP.gR{D:Ends}{f:Flow}{c:Shared}(h:SP (X.wish E) pins D f c):SP X pins D f c:=by cases f with|next=>obtain⟨a,b,I,q⟩:=h;exact⟨a,b,I.gR,q⟩|brk=>obtain⟨a,b,I,q⟩:=h;exact⟨a,b,I.gR,q⟩|cont=>obtain⟨a,b,I,q⟩:=h;exact⟨a,b,I.gR,q⟩|ret u=>obtain⟨v,a,b,I,r,q⟩:=h;exact⟨v,a,b,I.gR,r,q⟩
theorem lY.J6{st:List Stmt}{t:TS}(h:lY X.J6 st t):lY X st t:=λpins s σ H D I a=>wpAny_mono (h pins s σ H D (I.wish _) a) (λ_ _ q=>q.gR) λ_ _ z=>False.elim z
end
section
variable{X:Cx}{st:Stmt}{rest:List Stmt}{t u:TS}{e:Expr}{te:TE}{pos:Pos}
def gH:TS:=λD a H=>D.nx a H
def nU(t u:TS):TS:=λD a H=>t {D with nx:=u D} a H
theorem fc:lY X [] gH:=λ_ _ a H _ I h=>wpAny_execs_nil ⟨a,H,I,h⟩
theorem cU(h1:PS X st t)(b:lY X rest u):lY X (st::rest) (nU t u):=by intro pins s c H D I h;refine wpAny_execs_cons (cY (h1 pins s c H {D with nx:=u D} I h) λf s1 q=>?_);cases f with|next=>obtain⟨a,g,j,q⟩:=q;exact b pins s1 a g D j q|ret v=>exact q|brk=>exact q|cont=>exact q
theorem Inv.quiet{a:St}(I:Inv X pins a H s):interactive X.env=false:=by simp[interactive,I.ok.kind]
def qg(te:TE):TS:=λD a H=>te a H λ_ b=>D.nx a b
theorem jY(he:PE X e te)(hs:swapsWith e none pos.line X.env=pure false:=by rfl):PS X (.Expr e pos) (qg te):=by intro pins s a H D I h;exact wpAny_Expr_any (cY (he pins s a H _ I h) λv s1⟨x,H1,I1,r1,q1⟩=>⟨a,H1,I1,q1⟩) I.quiet hs
def Qy(te:TE):TS:=λD a H=>te a H D.rt
theorem yd(he:PE X e te):PS X (.Return (some e) pos) (Qy te):=by intro pins s a H D I h;exact wpAny_Return_some (cY (he pins s a H _ I h) λv s1⟨x,H1,I1,r1,q1⟩=>⟨x,a,H1,I1,r1,q1⟩)
def zJ(c:TT)(t u:TS):TS:=λD a H=>c a H λb f=>if b=true then t D a f else u D a f
theorem wM{c:Expr}{a b:List Stmt}{g:TT}(hc:PT X c g)(k:lY X a t)(l:lY X b u):PS X (.If c a b pos) (zJ g t u):=by intro pins s f H D I h;refine wpAny_If (cY (hc pins s f H _ I h) λd s1⟨j,I1,q1⟩=>?_);cases d with|true=>exact k pins s1 f j D I1 q1|false=>exact l pins s1 f j D I1 q1
def DR:TS:=λ_ _ _=>False
theorem wD:PS X st DR:=λ_ _ _ _ _ _ h=>h.elim
end
abbrev TG:=V->St->Hp->(St->Hp->Prop)->Prop
abbrev vC:=List V->St->Hp->(St->Hp->Prop)->Prop
def PG(X:Cx)(a:Expr)(t:TG):Prop:=∀(pins:List (Addr × Obj))(s:Shared)(c:St)(H:Hp)(v:V)(u:Value)(Q:St->Hp->Prop),Inv X pins c H s->RelV v u->t v c H Q->wpAny (model X.prog X.w) X.A (assign a X.env u) (λ_ f=>∃b e,Inv X pins b e f/\Q b e) X.xe s
def Pb(X:Cx)(f:List Expr)(t:vC):Prop:=∀(pins:List (Addr × Obj))(s:Shared)(b:St)(H:Hp)(c:List V)(us:List Value)(Q:St->Hp->Prop),Inv X pins b H s->Vals c us->t c b H Q->wpAny (model X.prog X.w) X.A (assignInOrder ((assignEach f X.env).map (·.2)) us) (λ_ g=>∃a e,Inv X pins a e g/\Q a e) X.xe s
abbrev Ie:=V->V->V->Hp->(Hp->Prop)->Prop
def Kr(X:Cx)(t:Ie):Prop:=∀(pins:List (Addr × Obj))(s:Shared)(a:St)(H:Hp)(o i v:V)(b c u:Value)(Q:Hp->Prop),Inv X pins a H s->RelV o b->RelV i c->RelV v u->t o i v H Q->wpAny (model X.prog X.w) X.A (setItem b c u) (λ_ f=>∃e,Inv X pins a e f/\Q e) X.xe s
section
variable{X:Cx}{pos:Pos}
def iQ(i:Nat):TG:=λv a H Q=>Q (a.set i (some v)) H
theorem aQ{x:Str}(a:X.N.Nodup)(hi:X.N[i]?=some x)(b:Loc X.env.scope x)(c:X.fn x=true\/X.env.scope.names.lookup x=some .local:=by first|exact .inl rfl|exact .inr rfl|assumption):PG X (.Name x pos) (iQ i):=by intro pins s f H v u Q I r h;exact wpAny_assign_Name (pU I a hi b r (λg e=>⟨_,H,e,h⟩) c)
def GD:vC:=λa b H Q=>a=[]/\Q b H
def yo(t:TG)(u:vC):vC:=λb c H Q=>∃v r,b=v::r/\t v c H λa e=>u r a e Q
theorem tG:Pb X [] GD:=by intro pins s a H b us Q I r h;obtain⟨e,h⟩:=h;subst e;cases r;exact assignInOrder_nil ⟨a,H,I,h⟩
theorem jf{e:Expr}{a:List Expr}{t:TG}{u:vC}(h1:PG X e t)(c:Pb X a u)(hs:(assignEach (e::a) X.env).map (·.2)=assign e X.env::(assignEach a X.env).map (·.2):=by rfl):Pb X (e::a) (yo t u):=by intro pins s f H k us Q I r h;obtain⟨v,l,g,h⟩:=h;subst g;cases r with|cons r j=>rw[hs];refine assignInOrder_cons (cY (h1 pins s f H _ _ _ I r h) λ_ s1⟨b,H1,I1,q1⟩=>?_);exact c pins s1 b H1 _ _ Q I1 j q1
def Ef(K:PySem.W.Frag)(n:Nat)(t:vC):TG:=λv b H Q=>∃a xs,v=.ref a/\fV K H a xs/\xs.length=n/\t xs b H Q
theorem xJ{c:List Expr}{k:Nat}{t:vC}{n:Nat}(hc:X.calm=true)(h:Pb X c t)(m:(assignEach c X.env).length=n:=by rfl)(f:(assignEach c X.env).findIdx? (·.1)=none:=by rfl):PG X (.Tuple c k pos) (Ef X.K n t):=by intro pins s j H v u Q I r g;obtain⟨a,xs,p,q,x,g⟩:=g;subst p;cases r;obtain⟨y,l,z,E⟩:=I.tuple q;refine assign_Tuple_tuple (I.ok.hd hc) z (by simp[m,<-x,l.length]) f λh' B=>?_;have C:Inv X pins j H {s with heap:=h'}:=I.kept (t':=s.toks) λb o e=>B b o (ne_of_lt (lt_size e)) e;exact h pins _ j H xs _ Q C (by simpa using l) g
def Ru(b c:TE)(t:Ie):TG:=λv a H Q=>b a H λo e=>c a e λi H2=>t o i v H2 λf=>Q a f
theorem Hn{o i:Expr}{e f:TE}{t:Ie}(ho:PE X o e)(hi:PE X i f)(hs:Kr X t)(g:∀ v,assign (.Subscript o i pos) X.env v=(do
  let a<-holding [v] (eval o X.env)let b<-holding [v,a] (eval i X.env)standAt pos
  holding [v,a,b] (setItem a b v)release [v,a,b] []):=by intro _;rfl):PG X (.Subscript o i pos) (Ru e f t):=by intro pins s c H v u Q I r h;rw[g];refine wpAny_bind (wpAny_holding (cY (ho pins s c H _ I h) λa s1⟨x,H1,I1,r1,q1⟩=>?_));refine wpAny_bind (wpAny_holding (cY (hi pins s1 c H1 _ I1 q1) λb s2⟨y,H2,I2,r2,q2⟩=>?_));refine wpAny_bind (wpAny_standAt (wpAny_bind (wpAny_holding (cY (hs pins s2 c H2 x y v a b u _ I2 r1 r2 r q2) λ_ s3⟨j,I3,q3⟩=>?_))));exact wpAny_release ⟨c,j,I3,q3⟩
def Gj(te:TE)(g:TG):TS:=λD a H=>te a H λx b=>g x a b D.nx
theorem Er{e:Expr}{te:TE}{g:TG}(he:PE X e te)(b:PG X tg g)(hs:swapsWithSole [tg] e pos.line X.env=pure false:=by rfl)(c:swappedStores [tg] e X.env=pure none:=by rfl)(h1:(assignEach [tg] X.env).map (·.2)=[assign tg X.env]:=by rfl):PS X (.Assign [tg] e pos) (Gj te g):=by intro pins s a H D I h;refine wpAny_Assign_stores (cY (he pins s a H _ I h) λv s1⟨x,H1,I1,r1,q1⟩=>?_) hs c;rw[h1];exact cY (b pins s1 a H1 x v _ I1 r1 q1) λ_ s2 q=>q
theorem Gr{x:Str}{e:Expr}{te:TE}{a:Pos}(b:X.N.Nodup)(hi:X.N[i]?=some x)(c:Loc X.env.scope x)(he:PE X e te)(hs:swapsWith e (some (.Name x a)) pos.line X.env=pure false:=by rfl)(f:X.fn x=true\/X.env.scope.names.lookup x=some .local:=by first|exact .inl rfl|exact .inr rfl|assumption):PS X (.Assign [.Name x a] e pos) (Gj te (iQ i)):=by intro pins s g H D I h;refine wpAny_Assign_Name (cY (he pins s g H _ I h) λv s1⟨y,H1,I1,r1,q1⟩=>?_) hs;exact pU I1 b hi c r1 (λs2 j=>⟨_,H1,j,q1⟩) f
end
structure It where
 go:Nat->Hp->Prop
 Dv:Nat->Hp->V->Hp->Prop
 stop:Nat->Hp->Prop
def jz(X:Cx)(pins:List (Addr×Obj))(H:Hp)(b:Addr):Prop:=H b=none/\b≠X.env.locals/\b∉X.fs/\(b∈X.ex\/X.s₀.heap.objs.size<=b)/\(∀x c,X.env.cells.lookup x=some c->c≠b)/\∀p∈X.pn++pins,p.1≠b
theorem Inv.vy{g:St}{f:Hp}{b:Addr}(I:Inv X pins g H s)(a:s.heap.objs.size<=b)(j:f b=none):jz X pins f b:=by
 refine⟨j,Nat.ne_of_gt (lt_of_lt_of_le I.lt a),I.Rh a,.inr (le_trans I.sz a),λx c e z=>?_,λp k z=>?_⟩;.obtain⟨v,q⟩:=I.cell x c e;exact absurd (lt_of_lt_of_le q.lt (by rw[z];exact a)) (lt_irrefl _)
 .exact absurd (lt_of_lt_of_le (lt_size (I.pin p k).1) (by rw[z];exact a)) (lt_irrefl _)
structure Turn(P:Program)(w:World)(K:PySem.W.Frag)(tg:Expr)(J:It)(fp:List Addr)(it:Addr)(tn:Nat->Heap->Prop):Prop where
 mem:it∈fp
 obj:∀i h,tn i h->∀b∈fp,∃o,h.get? b=some o/\∀v,o.data≠.cell v
 keep:∀i h h',tn i h->(∀b∈fp,∀o,h.get? b=some o->h'.get? b=some o)->tn i h'
 item:∀(X:Cx),X.prog=P->X.w=w->X.K=K->X.calm=true->∀(i:Nat)(pins:List (Addr×Obj))(s:Shared)(σ:St)(H:Hp)(E:Value->Shared->Prop),Inv X pins σ H s->(∀b∈fp,jz X pins H b)->tn i s.heap->J.go i H->wpAny (model P w) X.A (pyNext (.ref it)) (λr s1=>∃u,r=some u/\wpAny (model P w) X.A (letOwnedTupleGo tg (.ref it) u) (λ_ s2=>∃x H',Inv X pins σ H' s2/\RelV x u/\J.Dv i H x H'/\tn (i+1) s2.heap/\∀b∈fp,H' b=none) E s1) E s
 done:∀(X:Cx),X.prog=P->X.w=w->X.K=K->X.calm=true->∀(i:Nat)(pins:List (Addr×Obj))(s:Shared)(σ:St)(H:Hp)(E:Value->Shared->Prop),Inv X pins σ H s->(∀b∈fp,jz X pins H b)->tn i s.heap->J.stop i H->wpAny (model P w) X.A (pyNext (.ref it)) (λr s1=>r=none/\Inv X pins σ H s1) E s
 self:∀(A:Around)(i:Nat)(s:Shared)(Q:Value->Shared->Prop)(E:Value->Shared->Prop),tn i s.heap->Q (.ref it) s->wpAny (model P w) A (pyIter (.ref it)) Q E s
abbrev TI:=St->Hp->(It->Hp->Prop)->Prop
def PIE(X:Cx)(pins:List (Addr×Obj))(j:St)(tg:Expr)(R:It->Hp->Prop)(a:Value)(s2:Shared):Prop:=∃(e:Addr)(f:List Addr)(g:Nat->Heap->Prop)(J:It)(c:Hp),a=.ref e/\Inv X pins j c s2/\Turn X.prog X.w X.K tg J f e g/\g 0 s2.heap/\(∀b∈f,jz X pins c b)/\R J c
def PI(X:Cx)(tg iter:Expr)(b:TI):Prop:=∀(pins:List (Addr × Obj))(s:Shared)(a:St)(H:Hp)(R:It->Hp->Prop),Inv X pins a H s->b a H R->wpAny (model X.prog X.w) X.A (eval iter X.env) (λv s1=>wpAny (model X.prog X.w) X.A (pyIter v) (PIE X pins a tg R) X.xe s1) X.xe s
theorem yt{E:Value->Shared->Prop}{b:Addr}{u:Value}{o:Obj}{n:String}{c:Array Value}{Q:Unit->Shared->Prop}(ho:s.heap.get? b=some o)(hc:o.cls=.type n)(hd:o.data=.fields c)(e:["enumerate","zip","dict_itemiterator","dict_reverseitemiterator","odict_iterator","itertools.zip_longest","itertools.pairwise"].contains n=false)(a:Q () s):wpAny M A (letOwnedTupleGo tg (.ref b) u) Q E s:=by unfold letOwnedTupleGo;cases tg<;>first|exact wpAny_pure a|(cases u<;>first|exact wpAny_pure a|(refine wpAny_bind (wpAny_load ho ?_);rw[hc,hd];show wpAny M A (if(["enumerate","zip","dict_itemiterator","dict_reverseitemiterator","odict_iterator","itertools.zip_longest","itertools.pairwise"].contains n&&c[0]?==some (rawInt _))=true then _ else _) Q E s;rw[if_neg (by intro h;rw[e,Bool.false_and]at h;cases h)];exact wpAny_pure a))
noncomputable def Df(K:PySem.W.Frag)(a:Addr):It:=⟨λi H=>∃xs x,cR K H a xs/\xs[i]?=some x,λi H x b=>b=H/\∀xs,cR K H a xs->xs[i]?=some x,λi H=>∃xs,cR K H a xs/\xs.length<=i⟩
noncomputable def JB(K:PySem.W.Frag)(a:Addr):It:=⟨λi H=>∃xs x,fV K H a xs/\xs[i]?=some x,λi H x b=>b=H/\∀xs,fV K H a xs->xs[i]?=some x,λi H=>∃xs,fV K H a xs/\xs.length<=i⟩
noncomputable def Oh(lo:Int)(n:Nat):It:=⟨λi _=>i<n,λi H x a=>a=H/\x=.int (lo+i),λi _=>n<=i⟩
theorem mH{P:Program}(a f:Addr):Turn P w K tg (Df K a) [f] f (λi h=>h.IsListIter f a i)where
 mem:=by simp
 obj:=λi h st b g=>by
  have e:b=f:=by simpa using g
  subst e;obtain⟨o,e,c,d⟩:=st;exact⟨o,e,λv z=>by rw[d]at z;cases z⟩
 keep:=λi h h' st k=>st.at λo e=>k f (by simp) o e;item:=by intro X n q r hc i pins s F H E I l st t;subst n q r;obtain⟨xs,x,m,y⟩:=t;obtain⟨B,C,p,G⟩:=I.list m;obtain⟨u,J,L⟩:=C.get y;obtain⟨f0,f1,f2,f3,f4,f5⟩:=l f (by simp);refine wpAny_pyNext_list_item st p.isList (x:=u) (by simpa using J) λh' j N=>?_;have O:Inv X pins F H {s with heap:=h'}:=I.turned (t':=s.toks) (λb o g e=>(N.2 b g).trans e) f0 f1 f3 f4 f5;obtain⟨o,e,c,d⟩:=id j;exact⟨u,rfl,yt (s:={s with heap:=h'}) e c d (by decide) ⟨x,H,O,L,⟨rfl,λys Q=>by rw[I.km Q m];exact y⟩,j,λb g=>(l b g).1⟩⟩
 done:=by intro X n q r hc i pins s F H E I l st t;subst n q r;obtain⟨xs,m,y⟩:=t;obtain⟨B,C,p,G⟩:=I.list m;obtain⟨f0,f1,f2,f3,f4,f5⟩:=l f (by simp);have W:=C.length;exact wpAny_pyNext_list_end (I.ok.hd hc) st p.isList (by simp;omega) λh' U=>⟨rfl,I.turned (t':=s.toks) (λb o g e=>U b o g e) f0 f1 f3 f4 f5⟩
 self:=λ_ _ _ _ _ st h=>wpAny_pyIter_listiter st h
theorem rY{P:Program}(a f:Addr):Turn P w K tg (JB K a) [f] f (λi h=>h.IsTupleIter f a i)where
 mem:=by simp
 obj:=λi h st b g=>by
  have e:b=f:=by simpa using g
  subst e;obtain⟨o,e,c,d⟩:=st;exact⟨o,e,λv z=>by rw[d]at z;cases z⟩
 keep:=λi h h' st k=>st.at λo e=>k f (by simp) o e;item:=by intro X q r t hc i pins s F H E I m st y;subst q r t;obtain⟨xs,x,n,B⟩:=y;obtain⟨j,C,p,G⟩:=I.tuple n;obtain⟨u,J,L⟩:=C.get B;obtain⟨f0,f1,f2,f3,f4,f5⟩:=m f (by simp);refine wpAny_pyNext_tuple_item st (show s.heap.IsTuple a j.toArray from p) (x:=u) (by simpa using J) λh' l N=>?_;have O:Inv X pins F H {s with heap:=h'}:=I.turned (t':=s.toks) (λb o g e=>(N.2 b g).trans e) f0 f1 f3 f4 f5;obtain⟨o,e,c,d⟩:=id l;exact⟨u,rfl,yt (s:={s with heap:=h'}) e c d (by decide) ⟨x,H,O,L,⟨rfl,λys Q=>by rw[I.jB Q n];exact B⟩,l,λb g=>(m b g).1⟩⟩
 done:=by intro X q r t hc i pins s F H E I m st y;subst q r t;obtain⟨xs,n,B⟩:=y;obtain⟨j,C,p,G⟩:=I.tuple n;obtain⟨f0,f1,f2,f3,f4,f5⟩:=m f (by simp);have W:=C.length;exact wpAny_pyNext_tuple_end (I.ok.hd hc) st (show s.heap.IsTuple a j.toArray from p) (by simp;omega) λh' U=>⟨rfl,I.turned (t':=s.toks) (λb o g e=>U b o g e) f0 f1 f3 f4 f5⟩
 self:=λ_ _ _ _ _ st h=>wpAny_pyIter_tupleiter st h
theorem qZ{P:Program}(a:Addr)(lo:Int)(n:Nat):Turn P w K tg (Oh lo n) [a] a (λi h=>IsRangeIter h a (lo+(i:Nat)*1) ((n:Int)-(i:Nat)) 1)where
 mem:=by simp
 obj:=λi h st b c=>by
  have e:b=a:=by simpa using c
  subst e;exact⟨_,st,λv z=>by have u:Data.fields _=Data.cell v:=z;cases u⟩
 keep:=λi h h' st k=>k a (by simp) _ st;item:=by intro X j l m hc i pins s q H E I g st p;subst j l m;obtain⟨f0,f1,f2,f3,f4,f5⟩:=g a (by simp);have W:=Walks.range (prog:=X.prog) (w:=X.w) (I.ok.hd hc) a lo 1 n;refine W.item i s _ _ p st λv h' r x f y=>?_;obtain⟨t,rfl⟩:=x;have B:Inv X pins q H {s with heap:=h',toks:=r}:=I.turned (λb o c e=>y b o (by simpa using c) e) f0 f1 f3 f4 f5;refine⟨_,rfl,yt (s:={s with heap:=h',toks:=r}) (n:="range_iterator") f rfl rfl (by decide) ⟨.int (lo+i),H,B,⟨t,?_⟩,⟨rfl,rfl⟩,f,λb c=>(g b c).1⟩⟩;rw[Int.mul_one]
 done:=by intro X j l m hc i pins s q H E I g st p;subst j l m;obtain⟨f0,f1,f2,f3,f4,f5⟩:=g a (by simp);exact wpAny_pyNext_range_end (I.ok.hd hc) st (by have:n<=i:=p;omega) λh' C=>⟨rfl,I.turned (t':=s.toks) (λb o c e=>C b o c e) f0 f1 f3 f4 f5⟩
 self:=λ_ _ _ _ _ st h=>wpAny_pyIter_rangeiter st h
section
variable{X:Cx}{tg:Expr}
def Cp(K:PySem.W.Frag)(c:TE):TI:=λe H R=>c e H λx b=>∃a,x=.ref a/\(∃xs,cR K b a xs)/\R (Df K a) b
theorem An{l:Expr}{c:TE}(f:PE X l c):PI X tg l (Cp X.K c):=by
 intro pins s g H R I h;refine cY (f pins s g H _ I h) λv s1⟨x,H1,I1,r1,q1⟩=>?_;obtain⟨a,e,⟨xs,j⟩,q⟩:=q1;subst e;cases r1;obtain⟨k,n,p,r⟩:=I1.list j;refine wpAny_pyIter_list p.isList ?_;refine⟨s1.heap.objs.size,[s1.heap.objs.size],_,_,H1,rfl,I1.kept (t':=s1.toks) λb o e=>mq e,mH a _,⟨_,get?_push_size _ rfl,rfl,rfl⟩,λb m=>?_,q⟩;have e:b=s1.heap.objs.size:=by simpa using m
 subst e;exact I1.vy (dH) (I1.hok.fresh (dH))
theorem yx{a:St}{R:It->Hp->Prop}{E:Value->Shared->Prop}{lo hi:Int}{t u v:Tok}{c:Nat}(I:Inv X pins a H s)(h1:-(2^62)<=lo)(g:lo<2^62)(j:-(2^62)<=hi)(k:hi<2^62)(q:R (Oh lo (hi-lo).toNat) H):wpAny (model X.prog X.w) X.A (pyIter (.ref s.heap.objs.size)) (PIE X pins a tg R) E {s with heap:=s.heap.push {cls:=.type "range",data:=.fields #[.int lo t,.int hi u,.int 1 v]},toks:=c}:=by
 refine wpAny_pyIter_range (IsRange.new ..) (small_one h1 g j k) ?_;have f:Inv X pins a H {s with heap:=s.heap.push {cls:=.type "range",data:=.fields #[.int lo t,.int hi u,.int 1 v]},toks:=c}:=I.kept λb o e=>mq e;refine⟨(s.heap.push {cls:=.type "range",data:=.fields #[.int lo t,.int hi u,.int 1 v]}).objs.size,[(s.heap.push {cls:=.type "range",data:=.fields #[.int lo t,.int hi u,.int 1 v]}).objs.size],_,_,H,rfl,f.kept (t':=c) λb o e=>mq e,qZ _ lo (hi-lo).toNat,?_,λb l=>?_,q⟩
 . have m:lo+((0:Nat):Int)*1=lo:=by simp
   have n:(((hi-lo).toNat:Nat):Int)-((0:Nat):Int)=Builtin.Range.rangeSize lo hi 1:=by rw[rangeSize_one];split<;>omega
   show IsRangeIter _ _ (lo+((0:Nat):Int)*1) ((((hi-lo).toNat:Nat):Int)-((0:Nat):Int)) 1;rw[m,n];exact get?_push_size _ rfl
 . have e:b=(s.heap.push {cls:=.type "range",data:=.fields #[.int lo t,.int hi u,.int 1 v]}).objs.size:=by simpa using l
   subst e;exact f.vy (dH) (f.hok.fresh (dH))
def Ks(a:TA):TI:=λb H R=>a b H λc e=>∃j:Int,c=[.int j]/\-(2^62)<=j/\j<2^62/\R (Oh 0 j.toNat) e
theorem uL{a:Expr}{c:TA}{p:Pos}(f:Gl X "range")(g:X.mg "range"=none)(k:PA X [a] c)(hs:starEach [a] X.env=[(false,eval a X.env)]:=by rfl):PI X tg (.Call (.Name "range" p) [a] [] pos) (Ks c):=by intro pins s l H R I h;refine Call_ (lU I f g boot_range (PyProof.Rows.callWith_type1 (cY (k pos pins s l H _ I h) λus s1⟨o,H1,I1,r1,b⟩=>?_) hs rfl));obtain⟨j,e,b,m,q⟩:=b;subst e;cases r1 with|cons r n=>cases n;obtain⟨t,rfl⟩:=r;exact call_range_1 (yx I1 (by omega) (by omega) b m (by simpa using q))
def Hb(j:TI)(g:TG)(k:TS):TS:=λD a H=>j a H λJ l=>∃W:Nat->Nat->St->Hp->Prop,(∃m,W 0 m a l)/\∀i m a H,W i m a H->(J.stop i H/\D.nx a H)\/(J.go i H/\∃N:St->Hp->Prop,(∀b c,N b c->∃f,f<m/\W (i+1) f b c)/\∀x c,J.Dv i H x c->g x a c λe H2=>k {D with nx:=N,ct:=N,bk:=D.nx} e H2)
noncomputable def lH(a:List Addr)(h:Heap):List (Addr×Obj):=a.filterMap λb=>(h.get? b).map λo=>(b,o)
theorem gj{a:List Addr}{b:Addr}{o:Obj}(c:b∈a)(e:h.get? b=some o):(b,o)∈lH a h:=List.mem_filterMap.mpr ⟨b,c,by rw[e];rfl⟩
theorem uI{a:List Addr}{p:Addr×Obj}(c:p∈lH a h):p.1∈a/\h.get? p.1=some p.2:=by obtain⟨b,f,e⟩:=List.mem_filterMap.mp c;cases q:h.get? b with|none=>rw[q]at e;cases e|some o=>rw[q]at e;have g:(b,o)=p:=Option.some.inj e;subst g;exact⟨f,q⟩
theorem Inv.pinned{c:St}{a:List Addr}(I:Inv X pins c H s)(j:∀b∈a,jz X pins H b)(ho:∀b∈a,∃o,s.heap.get? b=some o/\∀v,o.data≠.cell v):Inv X (pins++lH a s.heap) c H s:=I.tW λp k=>(mem_append.mp k).elim (λz=>I.pin p (mem_append_right _ z)) λz=>by obtain⟨f,e⟩:=uI z;obtain⟨f0,f1,f2,_⟩:=j p.1 f;obtain⟨o,g,d⟩:=ho p.1 f;rw[e]at g;cases g;exact⟨e,f0,f1,f2,d⟩
theorem Inv.iM{b:List (Addr×Obj)}{a:St}(I:Inv X (pins++b) a H s):Inv X pins a H s:=I.tW λp c=>I.pin p (mem_append_right _ (List.mem_append_left _ c))
theorem nR{iter:Expr}{body:List Stmt}{U:TI}{g:TG}{Y:TS}(z:PassesOwn (model X.prog X.w) X.A X.env X.xe)(hc:X.calm=true)(hi:PI X tg iter U)(hg:PG X tg g)(c:lY X body Y)(hs:∀x,foldedSetIterable iter X.env x=pure x:=by intro _;rfl):PS X (.For tg iter body [] pos) (Hb U g Y):=by
 intro pins s Z H D I h;refine wpAny_For (cY (hi pins s Z H _ I h) λv s1 h1=>cY h1 λab s2 h2=>?_) hs;obtain⟨it,B,tn,J,H2,e,I2,T,L,f2,W,⟨m0,w0⟩,C⟩:=h2;subst e--what stays true of the iterator's objects through the loop
 have j:∀{t:Hp},(∀b∈B,t b=none)->∀b∈B,jz X pins t b:=λhn b c=>⟨hn b c,(f2 b c).2⟩;refine codeAny_forLoop_any (λn s'=>∃i k t,Inv X pins k t s'/\tn i s'.heap/\(∀b∈B,t b=none)/\W i n k t) ?_ m0 ⟨0,Z,H2,I2,L,λb c=>(f2 b c).1,w0⟩;rintro n s3⟨i,l,G,I3,E,V3,w3⟩;rcases C i n l G w3 with⟨stop,qn⟩|⟨go,N,hN,step⟩;.refine wpAny_passesOwn z (cY (T.done X rfl rfl rfl hc i pins s3 l G X.xe I3 (j V3) E stop) λr s4⟨hr,I4⟩=>?_);subst hr;exact wpAny_execs_nil ⟨l,G,I4,qn⟩
 . refine wpAny_passesOwn z (cY (T.item X rfl rfl rfl hc i pins s3 l G X.xe I3 (j V3) E go) λr s4⟨u,hr,h4⟩=>?_);subst hr;refine wpAny_passesOwn z (cY h4 λ_ s5⟨x,H5,I5,r5,y5,Ue,fr5⟩=>?_);have O:=I5.pinned (j fr5) (T.obj _ _ Ue);refine wpAny_passesOwn z (cY (hg _ s5 l H5 x u _ O r5 (step x H5 y5)) λ_ s6⟨Q,H6,I6,q6⟩=>?_);refine wpAny_passesOwn z (cY (c _ s6 Q H6 _ I6 q6) λf s7 y=>?_);have again:∀{a:St}{p:Hp},Inv X (pins++lH B s5.heap) a p s7->N a p->∃m,m<n/\∃i k t,Inv X pins k t s7/\tn i s7.heap/\(∀b∈B,t b=none)/\W i m k t:=λ{a p}q F=>by obtain⟨m',hm,w7⟩:=hN a p F;refine⟨m',hm,i+1,a,p,q.iM,T.keep _ _ _ Ue λb c o e=>(q.pin (b,o) (mem_append_right _ (mem_append_right _ (gj c e)))).1,λb c=>?_,w7⟩;obtain⟨o,e,d⟩:=T.obj _ _ Ue b c;exact(q.pin (b,o) (mem_append_right _ (mem_append_right _ (gj c e)))).2.1
   cases f with|next=>obtain⟨a,p,q,F⟩:=y;exact again q F|cont=>obtain⟨a,p,q,F⟩:=y;exact again q F|brk=>obtain⟨a,p,q,y⟩:=y;exact⟨a,p,q.iM,y⟩|ret v=>obtain⟨x7,a,p,q,r7,y⟩:=y;exact⟨x7,a,p,q.iM,r7,y⟩
end
abbrev R2:=V->V->Hp->VK->Prop
def fB(X:Cx)(f:Value->Value->Sem Value)(r:R2):Prop:=∀(pins:List (Addr × Obj))(s:Shared)(a:St)(H:Hp)(x y:V)(v u:Value)(Q:VK),Inv X pins a H s->RelV x v->RelV y u->r x y H Q->wpAny (model X.prog X.w) X.A (f v u) (EP X pins a Q) X.xe s
def Tg(X:Cx)(f:Value->Sem Value)(r:V->Hp->VK->Prop):Prop:=∀(pins:List (Addr × Obj))(s:Shared)(a:St)(H:Hp)(x:V)(v:Value)(Q:VK),Inv X pins a H s->RelV x v->r x H Q->wpAny (model X.prog X.w) X.A (f v) (EP X pins a Q) X.xe s
def dm(X:Cx)(f:Value)(r:List V->Hp->VK->Prop):Prop:=∀(pins:List (Addr × Obj))(s:Shared)(a:St)(H:Hp)(xs:List V)(us:List Value)(Q:VK),Inv X pins a H s->Vals xs us->r xs H Q->wpAny (model X.prog X.w) X.A (call f us) (EP X pins a Q) X.xe s
def JC(r:R2)(b c:TE):TE:=λa H Q=>b a H λx e=>c a e λy H2=>r x y H2 Q
def Vw(r:V->Hp->VK->Prop)(a:TE):TE:=λb H Q=>a b H λx c=>r x c Q
def rI(C:Int->Int->Prop)(g:Int->Int->V):R2:=λx y H Q=>∃i j,x=.int i/\y=.int j/\C i j/\Q (g i j) H
def Cq(g:Int->Int->V):R2:=λx y H Q=>∃i j,x=.int i/\y=.int j/\Q (g i j) H
def rU(g:Int->V):V->Hp->VK->Prop:=λx H Q=>∃i,x=.int i/\Q (g i) H
section
variable{X:Cx}{a b c:Expr}{ta tb tc:TE}{pos:Pos}
theorem Eo(l:PE X a ta)(m:PE X b tb){e:St}{R:V->V->Hp->Prop}(I:Inv X pins e H s)(h:ta e H λx k=>tb e k λy H2=>R x y H2){Q:Value->Shared->Prop}{f:Value->Value->Sem Value}(n:∀v u s2 x y H2,Inv X pins e H2 s2->RelV x v->RelV y u->R x y H2->wpAny (model X.prog X.w) X.A (f v u) Q X.xe s2):wpAny (model X.prog X.w) X.A (eval a X.env) (λv g=>wpAny (model X.prog X.w) X.A (eval b X.env) (λu j=>wpAny (model X.prog X.w) X.A (f v u) Q X.xe j) X.xe g) X.xe s:=by refine cY (l pins s e H _ I h) λv s1⟨x,k,I1,r1,q1⟩=>?_;refine cY (m pins s1 e k _ I1 q1) λu s2⟨y,H2,I2,r2,q2⟩=>?_;exact n v u s2 x y H2 I2 r1 r2 q2
theorem Lk{op:Operator}{r:R2}(ho:fB X (binaryOp op) r)(e:PE X a ta)(f:PE X b tb):PE X (.BinOp a op b pos) (JC r ta tb):=by intro pins s g H Q I h;exact wpAny_BinOp (Eo e f I h λv u s2 x y H2 j k l q=>ho pins s2 g H2 x y v u Q j k l q)
theorem Kz{op:UnaryOp}{r:V->Hp->VK->Prop}(ho:Tg X (unaryOp op) r)(f:PE X a ta):PE X (.UnaryOp op a pos) (Vw r ta):=by intro pins s e H Q I h;exact UnaryOp_ (cY (f pins s e H _ I h) λv s1⟨x,H1,I1,r1,q1⟩=>ho pins s1 e H1 x v Q I1 r1 q1)
theorem T9{f:Value->Value->Sem Value}{C:Int->Int->Prop}{g:Int->Int->Int}(rule:∀(i j:Int)(t u:Tok)(s:Shared)(Q:Value->Shared->Prop)(E:Value->Shared->Prop),C i j->Q (.int (g i j) s.toks) {s with toks:=s.toks+1}->wpAny (model X.prog X.w) X.A (f (.int i t) (.int j u)) Q E s):fB X f (rI C λi j=>.int (g i j)):=by intro pins s l H x y v u Q I e k h;obtain⟨i,j,rfl,rfl,hc,q⟩:=h;obtain⟨t,rfl⟩:=e;obtain⟨t',rfl⟩:=k;exact rule i j t t' s _ _ hc ⟨.int (g i j),H,I.tok _,⟨_,rfl⟩,q⟩
theorem MK{f:Value->Value->Sem Value}{g:Int->Int->Int}(rule:∀(i j:Int)(t u:Tok)(s:Shared)(Q:Value->Shared->Prop)(E:Value->Shared->Prop),Q (.int (g i j) s.toks) {s with toks:=s.toks+1}->wpAny (model X.prog X.w) X.A (f (.int i t) (.int j u)) Q E s):fB X f (Cq λi j=>.int (g i j)):=by intro pins s l H x y v u Q I e k h;obtain⟨i,j,rfl,rfl,q⟩:=h;obtain⟨t,rfl⟩:=e;obtain⟨t',rfl⟩:=k;exact rule i j t t' s _ _ ⟨.int (g i j),H,I.tok _,⟨_,rfl⟩,q⟩
theorem Nb{f:Value->Value->Sem Value}{g:Int->Int->Bool}(rule:∀(i j:Int)(t u:Tok)(s:Shared)(Q:Value->Shared->Prop)(E:Value->Shared->Prop),Q (.bool (g i j)) s->wpAny (model X.prog X.w) X.A (f (.int i t) (.int j u)) Q E s):fB X f (Cq λi j=>.bl (g i j)):=by intro pins s l H x y v u Q I e k h;obtain⟨i,j,rfl,rfl,q⟩:=h;obtain⟨t,rfl⟩:=e;obtain⟨t',rfl⟩:=k;exact rule i j t t' s _ _ ⟨.bl (g i j),H,I,rfl,q⟩
def RT(i j:Int):Prop:=0<=j/\j<=1000000/\i.natAbs<2^64
def Hg(i j:Int):Prop:=(-(2^64)<i/\i<2^64)\/(-(2^64)<j/\j<2^64)
theorem Hg.ok{i j:Int}(h:Hg i j):IntMulOk i j:=by
 rcases h with⟨h1,e⟩|⟨h1,e⟩;.exact .of_left (intBits_le_64 h1 e)
 .exact .of_right (intBits_le_64 h1 e)
theorem DY:fB X (binaryOp .Add) (Cq λi j=>.int (i+j)):=MK λ_ _ _ _ _ _ _ q=>add_int q
theorem Ex:fB X (binaryOp .Sub) (Cq λi j=>.int (i-j)):=MK λ_ _ _ _ _ _ _ q=>sub_int q
theorem Hh:fB X (binaryOp .Mult) (rI Hg λi j=>.int (i*j)):=T9 λ_ _ _ _ _ _ _ hc q=>mul_int q hc.ok
theorem GJ:fB X (binaryOp .Mod) (rI (λ_ j=>0<j) λi j=>.int (i%j)):=T9 λi j _ _ _ _ _ hc q=>by have h1:(0:Int)<j:=hc;exact mod_int' (by omega) (by rw[Int.fmod_eq_emod_of_nonneg i (by omega)];exact q)
theorem Hy:fB X (binaryOp .Pow) (rI RT λi j=>.int (i^j.toNat)):=T9 λ_ _ _ _ _ _ _ hc q=>pow_int_small hc.1 hc.2.1 hc.2.2 q
theorem unI{f:Value->Sem Value}{g:Int->Int}(rule:∀(i:Int)(t:Tok)(s:Shared)(Q:Value->Shared->Prop)(E:Value->Shared->Prop),Q (.int (g i) s.toks) {s with toks:=s.toks+1}->wpAny (model X.prog X.w) X.A (f (.int i t)) Q E s):Tg X f (rU λi=>.int (g i)):=by intro pins s j H x v Q I e h;obtain⟨i,rfl,q⟩:=h;obtain⟨t,rfl⟩:=e;exact rule i t s _ _ ⟨.int (g i),H,I.tok _,⟨_,rfl⟩,q⟩
theorem Fp:Tg X (unaryOp .USub) (rU λi=>.int (-i)):=unI λ_ _ _ _ _ q=>neg_int q
end
section
variable{X:Cx}{a b c:Expr}{ta tb tc:TE}{pos:Pos}
theorem yj{f:St}{Q:VK}{k g:Bool}(I:Inv X pins f H s)(q:Q (.bl k) H)(e:k=g):EP X pins f Q (.bool g) s:=by subst e;exact⟨.bl k,H,I,rfl,q⟩
theorem M9:fB X (compareOp .LtE) (Cq λi j=>.bl (decide (i<=j))):=Nb λ_ _ _ _ _ _ _ q=>le_int q
theorem Mw:fB X (compareOp .Gt) (Cq λi j=>.bl (decide (j<i))):=Nb λ_ _ _ _ _ _ _ q=>gt_int q
theorem Gs:fB X (compareOp .Is) (λx y H Q=>y=.non/\Q (.bl (decide (x=.non))) H):=by intro pins s g H x y v u Q I e f h;obtain⟨rfl,q⟩:=h;cases f;refine is_none_gen (yj I q ?_);cases x<;>first|(cases e;rfl)|(obtain⟨t,rfl⟩:=e;rfl)
theorem zc:fB X (compareOp .IsNot) (λx y H Q=>y=.non/\Q (.bl (!decide (x=.non))) H):=by intro pins s g H x y v u Q I e f h;obtain⟨rfl,q⟩:=h;cases f;refine isnot_none_gen (yj I q ?_);cases x<;>first|(cases e;rfl)|(obtain⟨t,rfl⟩:=e;rfl)
theorem QL{op:CmpOp}{e:List Expr}{k:Nat}{p:Pos}(f:(op==CmpOp.In)=false)(g:(op==CmpOp.NotIn)=false):behindInMarks op (.Set e k p)=false:=by show(k==0&&(op==CmpOp.In||op==CmpOp.NotIn)&&_)=false;rw[f,g];cases(k==0)<;>rfl
theorem bH(b:Expr)(h:op≠.In:=by decide)(e:op≠.NotIn:=by decide):behindInMarks op b=false:=by
 have f:(op==CmpOp.In)=false:=by cases op<;>first|rfl|exact absurd rfl h
 have g:(op==CmpOp.NotIn)=false:=by cases op<;>first|rfl|exact absurd rfl e
 cases b<;>first|rfl|exact QL f g
theorem Bl{r:R2}(ho:fB X (compareOp op) r)(e:PE X a ta)(f:PE X b tb)(g:behindInMarks op b=false):PE X (.Compare a [op] [b] pos) (JC r ta tb):=by intro pins s j H Q I h;exact wpAny_Compare1 (Eo e f I h λv u s2 x y H2 k l m q=>ho pins s2 j H2 x y v u Q k l m q) g
def My(t:TE):TT:=λe H Q=>t e H λx f=>∃k,x=.bl k/\Q k f
theorem Bc{r:R2}(ho:fB X (compareOp op) r)(g:PE X a ta)(j:PE X b tb)(l:behindInMarks op b=false):PT X (.Compare a [op] [b] pos) (My (JC r ta tb)):=by intro pins s f H Q I h;refine wpAny_isTrue_Compare1 (cY (g pins s f H _ I h) λv s1⟨x,H1,I1,r1,q1⟩=>cY (j pins s1 f H1 _ I1 q1) λu s2⟨y,H2,I2,r2,q2⟩=>cY (ho pins s2 f H2 x y v u _ I2 r1 r2 q2) λc s3⟨z,H3,I3,r3,k,e,q3⟩=>?_) l;subst e;cases r3;exact wpAny_truthy_bool ⟨H3,I3,q3⟩
def FJ(r g:R2)(ta tb tc:TE):TE:=λe H Q=>ta e H λx j=>tb e j λy H2=>r x y H2 λz f=>∃k,z=.bl k/\(if k=true then tc e f λl m=>g y l m Q else Q (.bl false) f)
theorem xq{f:CmpOp}{r l:R2}(ho:fB X (compareOp op) r)(j:fB X (compareOp f) l)(m:PE X a ta)(n:PE X b tb)(hc:PE X c tc)(o:lastMarks [op,f] [b,c]=false:=by with_unfolding_all rfl):PE X (.Compare a [op,f] [b,c] pos) (FJ r l ta tb tc):=by intro pins s g H Q I h;refine Compare_chain (cY (m pins s g H _ I h) λv s1⟨x,H1,I1,r1,q1⟩=>chain_link (cY (n pins s1 g H1 _ I1 q1) λu s2⟨y,H2,I2,r2,q2⟩=>cY (ho pins s2 g H2 x y v u _ I2 r1 r2 q2) λd s3⟨z,H3,I3,r3,k,e,q3⟩=>?_)) o;subst e;cases r3;refine wpAny_truthy_bool ?_;cases k with|false=>exact ite_ff ⟨.bl false,H3,I3,rfl,q3⟩|true=>exact ite_tt (chain_last (cY (hc pins s3 g H3 _ I3 q3) λp s4⟨q,H4,I4,r4,q4⟩=>j pins s4 g H4 y q u p Q I4 r2 r4 q4))
theorem oE:(sizeLine:Nat)<2^63:=by rw[sizeLine_eq];decide
theorem qM:fB X (binaryOp .Add) (λx y H Q=>∃i j,x=.str i/\y=.str j/\i.length+j.length<=sizeLine/\Q (.str (i++j)) H):=by intro pins s k H x y v u Q I e f h;obtain⟨i,j,rfl,rfl,g,q⟩:=h;obtain⟨t,rfl⟩:=e;obtain⟨t',rfl⟩:=f;exact add_str (λt' l=>⟨.str (i++j),H,I.tok _,⟨_,rfl⟩,q⟩) g
theorem vals1{x:V}(r:Vals [x] us):∃u,us=[u]/\RelV x u:=by cases r with|cons e f=>cases f;exact⟨_,rfl,e⟩
theorem vals2{x y:V}(r:Vals [x,y] us):∃u e,us=[u,e]/\RelV x u/\RelV y e:=by cases r with|cons f g=>cases g with|cons j k=>cases k;exact⟨_,_,rfl,f,j⟩
theorem xg:dm X (.builtin "abs") (λxs H Q=>∃i,xs=[.int i]/\Q (.int (if i<0 then-i else i)) H):=by intro pins s e H xs us Q I r h;obtain⟨i,rfl,q⟩:=h;obtain⟨u,rfl,t,rfl⟩:=vals1 r;exact call_abs_int λu f=>⟨.int (if i<0 then-i else i),H,I.tok _,⟨_,rfl⟩,q⟩
theorem uH(hc:X.calm=true):dm X (.builtin "max") (λxs H Q=>∃i j,xs=[.int i,.int j]/\Q (.int (if j>i then j else i)) H):=by
 intro pins s f H xs us Q I r h;obtain⟨i,j,rfl,q⟩:=h;obtain⟨u,g,rfl,⟨t,rfl⟩,⟨t',rfl⟩⟩:=vals2 r;refine max_two_ints (I.ok.hd hc) λh' l k=>⟨_,H,I.kept k,?_,q⟩;by_cases e:j>i;.rw[if_pos e,if_pos e];exact⟨_,rfl⟩
 .rw[if_neg e,if_neg e];exact⟨_,rfl⟩
theorem mX:dm X (.type "int") (λxs H Q=>(∃i,xs=[.int i]/\Q (.int i) H)\/∃k,xs=[.bl k]/\Q (.int (if k then 1 else 0)) H):=by
 intro pins s f H xs us Q I r h;rcases h with⟨i,rfl,q⟩|⟨k,rfl,q⟩;.obtain⟨u,rfl,t,rfl⟩:=vals1 r;exact call_int_int ⟨.int i,H,I,⟨_,rfl⟩,q⟩
 .obtain⟨u,rfl,e⟩:=vals1 r;cases e;exact call_int_bool ⟨.int (if k then 1 else 0),H,I.tok _,⟨_,rfl⟩,q⟩
end
structure fZ(k:Nat)(A:Around):Prop where
 hd:A.handled=none
 dp:A.depth+3*k+5<recursionLimit
 un:A.units+16*k+200<cLine
theorem fZ.deeper{k:Nat}{A:Around}(r:fZ (k+1) A)(env:Env):fZ k (A.deeper env):=⟨r.hd,by have:=r.dp;show A.depth+1+3*k+5<_;omega,by have:=r.un;show A.units+3+16*k+200<_;omega⟩
theorem fZ.depth{k:Nat}{A:Around}(r:fZ k A):A.depth<recursionLimit:=by have:=r.dp;omega
def Gz:TA:=λ_ H Q=>Q [] H
def uz(b:TE)(c:TA):TA:=λa H Q=>b a H λx e=>c a e λxs H2=>Q (x::xs) H2
section
variable{X:Cx}{e:Expr}{es:List Expr}{te:TE}{t:TA}{pos:Pos}
theorem dU:PA X [] Gz:=λ_ _ _ _ H Q I h=>Calls.spliced_nil ⟨[],H,I,.nil,h⟩
theorem bR(b:PE X e te)(hr:PA X es t)(hs:starEach (e::es) X.env=(false,eval e X.env)::starEach es X.env:=by rfl):PA X (e::es) (uz te t):=by intro pos pins s a H Q I h;rw[hs];show wpAny _ _ (spliced ((false,eval e X.env)::backTo pos (starEach es X.env))) _ _ s;refine Calls.spliced_cons (cY (b pins s a H _ I h) λu s1⟨x,H1,I1,r1,q1⟩=>?_);exact cY (hr pos pins s1 a H1 _ I1 q1) λus s2⟨xs,H2,I2,r2,q2⟩=>⟨x::xs,H2,I2,.cons r1 r2,q2⟩
def T6(t:TA):TE:=λb H Q=>t b H λxs a=>xs.length<=sizeLine/\∀p,a p=none->Q (.ref p) (upd a p (.tup xs))
def QS(t:TA):TE:=λb H Q=>t b H λxs a=>xs.length<=sizeLine/\∀p,a p=none->Q (.ref p) (upd a p (.lst xs))
theorem xG{x1}(h:PA X es t):PE X (.Tuple es x1 pos) (T6 t):=by intro pins s a H Q I c;refine wpAny_Tuple_spliced (cY (h pos pins s a H _ I c) λus s1⟨xs,H1,I1,r,z,q⟩=>⟨by rw[<-r.length];exact z,?_⟩);have f:H1 s1.heap.objs.size=none:=I1.hok.fresh (dH);refine⟨.ref s1.heap.objs.size,upd H1 s1.heap.objs.size (.tup xs),I1.laid (t':=s1.toks) (λb u e=>mq e) (dH) ?_,rfl,q _ f⟩;exact⟨z,us,r,⟨_,get?_push_size _ rfl,rfl,_,rfl⟩⟩
theorem xK(h:PA X es t):PE X (.List es pos) (QS t):=by intro pins s a H Q I c;refine wpAny_List_spliced (cY (h pos pins s a H _ I c) λus s1⟨xs,H1,I1,r,z,q⟩=>⟨by rw[<-r.length];exact z,?_⟩);have f:H1 s1.heap.objs.size=none:=I1.hok.fresh (dH);refine⟨.ref s1.heap.objs.size,upd H1 s1.heap.objs.size (.lst xs),I1.laid (t':=s1.toks) (λb u e=>mq e) (dH) ?_,rfl,q _ f⟩;exact⟨z,us,0,r,get?_push_size _ rfl⟩
end
abbrev Sp:=List V->Hp->VK->XK->Prop
abbrev xW:=List Env->Hp->Shared->XK->Value->Shared->Prop
structure Ag(P:Program)(w:World)(K:PySem.W.Frag)(mg:Str->Option Value)(base:Heap)(A:Around)(outer:List Env)(s:Shared)(H:Hp):Prop where
 frames:A.frames=some outer
 mod:Mod K mg base
 bs:∀b o,base.get? b=some o->s.heap.get? b=some o/\H b=none
 Dt:base.objs.size<=s.heap.objs.size
 lG:s.heap.FunFrames base outer
 Kc:∀b∈frs outer,H b=none
 hok:mj P w H s.heap
 bare:AllBare s.gens
def CE(outer:List Env)(P:Program)(w:World)(H:Hp)(s:Shared)(Q:VK)(u:Value)(a:Shared):Prop:=∃v b,a.os=s.os/\AllBare a.gens/\Un (frs outer) [] H b s.heap a.heap/\mj P w b a.heap/\RelV v u/\Q v b
def CR(CX:xW)(outer:List Env)(P:Program)(w:World)(H:Hp)(s:Shared)(Q:VK)(E:XK)(r:Result)(a:Shared):Prop:=match r with|.ok (.ret u)=>CE outer P w H s Q u a|.ok _=>False|.error e=>CX outer H s E e a
structure gP(P:Program)(w:World)(K:PySem.W.Frag)(mg:Str->Option Value)(base:Heap)(CX:xW)(k:Nat)(f:Addr)(fd:FuncData)(ps:List Str)(sp:Sp):Prop where
 len:∀vs H Q E,sp vs H Q E->vs.length=ps.length
 run:∀(A:Around)(outer:List Env)(s:Shared)(H:Hp)(args:Args)(us:List Value)(vs:List V)(Q:VK)(E:XK),fZ k A->Ag P w K mg base A outer s H->BindsTo s fd args (ps.zip us)->Vals vs us->sp vs H Q E->codeAny (model P w) A (.call (.ref f) args) (CR CX outer P w H s Q E) s
section
variable{X:Cx}{pins:List (Addr×Obj)}{σ:St}{H:Hp}{s s':Shared}
theorem Inv.env0(I:Inv X pins σ H s):Ag X.prog X.w X.K X.mg X.base X.A X.stack s H:=⟨I.ok.frames,I.ok.mod,I.bs,le_trans I.ok.Dt I.sz,I.stack,I.uf,I.hok,I.bare⟩
theorem Inv.after{Q:VK}{u:Value}(I:Inv X pins σ H s)(h:CE X.stack X.prog X.w H s Q u s'):EP X pins σ Q u s':=by obtain⟨v,c,os,bare,un,hok,r,q⟩:=h;obtain⟨e,g,d,t,a⟩:=s';obtain rfl:a=s.os:=os;exact⟨v,c,I.call (h':=e) (g':=g) (d':=d) (t':=t) (ch:=[]) un hok bare (λb z=>absurd z (by simp)),r,q⟩
end
def CZ(sp:Sp)(a:List V)(E:XK)(t:TA):TE:=λb H Q=>t b H λc e=>sp (c++a) e Q E
def Binds(K:PySem.W.Frag)(fd:FuncData)(ps:List Str)(a:List Value):Prop:=∀(s:Shared)(us:List Value),K.In s.heap->(us++a).length=ps.length->BindsTo s fd ⟨us,[]⟩ (ps.zip (us++a))
theorem Binds.all{fd:FuncData}{ps:List Str}(h:∀us:List Value,us.length=ps.length->bindArgs fd ⟨us,[]⟩=pure (ps.zip us)):Binds K fd ps []:=λs us _ a=>by rw[append_nil]at a ⊢;exact .of_eq (h us a)
def Passes(CX:xW)(X:Cx)(E:XK):Prop:=∀(pins:List (Addr×Obj))(b:St)(H:Hp)(s:Shared)(e:Value)(a:Shared),Inv X pins b H s->CX X.stack H s E e a->X.xe e a
section
variable{X:Cx}{CX:xW}{k:Nat}{f C:Addr}{fd:FuncData}{ps:List Str}{sp:Sp}{Dw:List V}{ds:List Value}{E:XK}{x m:Str}{p pos apos:Pos}{e o:Expr}{es:List Expr}{ta:TE}{t:TA}
theorem Fb{c:St}{Q:VK}{b:List V}(F:gP X.prog X.w X.K X.mg X.base CX k f fd ps sp)(hr:fZ k X.A)(j:Binds X.K fd ps ds)(hd:Vals Dw ds)(l:Passes CX X E)(I:Inv X pins c H s)(r:Vals b us)(h:sp (b++Dw) H Q E):wpAny (model X.prog X.w) X.A (call (.ref f) us) (EP X pins c Q) X.xe s:=by
 have g:Vals (b++Dw) (us++ds):=r.append hd;have n:(us++ds).length=ps.length:=by rw[<-g.length];exact F.len _ _ _ _ h
 refine wpAny_call (codeAny_mono (F.run X.A X.stack s H ⟨us,[]⟩ (us++ds) (b++Dw) Q E hr I.env0 (j s us I.Cg n) g h) λr q a=>?_);cases r with|error e=>exact l pins c H s e q I a|ok fl=>cases fl with|ret u=>exact I.after a|next=>exact False.elim a|brk=>exact False.elim a|cont=>exact False.elim a
theorem tL(F:gP X.prog X.w X.K X.mg X.base CX k f fd ps sp)(hr:fZ k X.A)(b:Gl X x)(c:X.mg x=some (.ref f))(g:keepIn X.K (.ref f)=true)(j:Binds X.K fd ps ds)(hd:Vals Dw ds)(l:Passes CX X E)(n:PA X (e::es) t)(a:(x==("__debug__":Str))=false:=by decide)(he:starEach (e::es) X.env=(false,eval e X.env)::starEach es X.env:=by rfl)(hpl:(backTo pos (starEach es X.env)).any (·.1)=false:=by rfl):PE X (.Call (.Name x p) (e::es) [] pos) (CZ sp Dw E t):=by intro pins s u H Q I h;refine wpAny_Call_Name_kw (tV I b c ?_ a);refine PySem.W.callWith_K (h₀:=X.base) I.ok.mod.Uc g (cY (n pos pins s u H _ I h) λus s1⟨v,H1,I1,r,q⟩=>⟨I1.Cg,?_⟩) he hpl;exact Fb F hr j hd l I1 r q
end
structure aL(N P:List Str)(sc:Scope):Prop where
 kind:sc.kind=.function
 co:sc.isCoroutine=false
 gen:sc.isGenerator=false
 nd:N.Nodup
 pre:N.take P.length=P
 par:∀x∈P,sc.names.lookup x=some .local\/sc.names.lookup x=some .cell
 Ih:∀y∈sc.names,y.2≠.free
theorem mR{kindOf:Str->Option NameKind}{x:Str}:∀{binds:List (Str×Value)}{m:Str->Option Value},(∀v,(x,v)∉binds)->bindL kindOf binds m x=m x
 |[],_,_=>rfl|(n,v)::r,m,h=>by
   unfold bindL;rw[mR λw a=>h w (mem_cons_of_mem _ a)];split
   . have:x≠n:=by rintro rfl;exact h v mem_cons_self
     simp[this]
   .rfl
theorem mQ{kindOf:Str->Option NameKind}{x:Str}:∀{binds:List (Str×Value)}{m:Str->Option Value},(∀v,(x,v)∉binds)->bindC kindOf binds m x=m x
 |[],_,_=>rfl|(n,v)::r,m,h=>by
   unfold bindC;rw[mQ λw a=>h w (mem_cons_of_mem _ a)];split;.rfl
   . have:x≠n:=by rintro rfl;exact h v mem_cons_self
     simp[this]
theorem mU{kindOf:Str->Option NameKind}{x:Str}{v:Value}:∀{P:List Str}{a:List Value}{i:Nat}{m:Str->Option Value},P.Nodup->P[i]?=some x->a[i]?=some v->kindOf x=some .local->bindL kindOf (P.zip a) m x=some v|[],_,_,_,_,h,_,_=>by simp at h|_::_,[],_,_,_,_,h,_=>by simp at h|p::P,w::a,0,m,nd,h1,b,c=>by simp at h1 b;subst h1;subst b;show bindL kindOf ((p,w)::P.zip a) m p=_;unfold bindL;rw[mR λv e=>(nodup_cons.mp nd).1 (of_mem_zip e).1,if_pos c];simp|p::P,w::a,i+1,m,nd,h1,b,c=>by show bindL kindOf ((p,w)::P.zip a) m x=_;unfold bindL;exact mU (i:=i) (nodup_cons.mp nd).2 (by simpa using h1) (by simpa using b) c
theorem mY{kindOf:Str->Option NameKind}{x:Str}{v:Value}:∀{P:List Str}{a:List Value}{i:Nat}{m:Str->Option Value},P.Nodup->P[i]?=some x->a[i]?=some v->kindOf x≠some .local->bindC kindOf (P.zip a) m x=some v|[],_,_,_,_,h,_,_=>by simp at h|_::_,[],_,_,_,_,h,_=>by simp at h|p::P,w::a,0,m,nd,h1,b,c=>by simp at h1 b;subst h1;subst b;show bindC kindOf ((p,w)::P.zip a) m p=_;unfold bindC;rw[mQ λv e=>(nodup_cons.mp nd).1 (of_mem_zip e).1,if_neg c];simp|p::P,w::a,i+1,m,nd,h1,b,c=>by show bindC kindOf ((p,w)::P.zip a) m x=_;unfold bindC;exact mY (i:=i) (nodup_cons.mp nd).2 (by simpa using h1) (by simpa using b) c
noncomputable def start(N:List Str)(a:List V):St:=a.map some++replicate (N.length-a.length) none
noncomputable def qi(CX:xW)(P:Program)(w:World)(K:PySem.W.Frag)(mg:Str->Option Value)(base:Heap)(N:List Str)(qual:Str)(scope:Scope)(f:Addr)(b:Value)(A:Around)(outer:List Env)(s:Shared)(H:Hp)(E:XK):Cx where prog:=P;w:=w;K:=K;mg:=mg;base:=base;A:=A.deeper (envOfC qual scope s.heap.objs.size f b);N:=N;s₀:=s;H₀:=H;env:=envOfC qual scope s.heap.objs.size f b;outer:=outer;stack:=envOfC qual scope s.heap.objs.size f b::outer;ex:=[];calm:=true;fn:=λ_=>true;pn:=[];xe:=λe c=>wpAny (model P w) (A.deeper (envOfC qual scope s.heap.objs.size f b)) (leaving (envOfC qual scope s.heap.objs.size f b) e) (λ_ a=>CX outer H s E e a) (λg a=>CX outer H s E g a) c
theorem qe{a:Scope}{n:Nat}{x:Str}(h:a.names.lookup x=some .cell):∃c,(cellsFrom n a.names []).lookup x=some c:=by have q:=PySem.W.cellsFrom_some a.names n [] (.inl h);exact Option.isSome_iff_exists.mp q
theorem uN{CX:xW}{P:Program}{mg:Str->Option Value}{base:Heap}{N ps:List Str}{qual:Str}{scope:Scope}{f:Addr}{o:Value}{outer:List Env}{s1:Shared}{E:XK}{l:List V}(S:aL N ps scope)(hd:A.handled=none)(j:Ag P w K mg base A outer s H)(J:l.length=ps.length)(r:Vals l us)(x:InCallC s s.heap.objs.size (bindL (envOfC qual scope s.heap.objs.size f o).kindOf (ps.zip us) λ_=>none) (cellsFrom (s.heap.objs.size+1) scope.names []) (bindC (envOfC qual scope s.heap.objs.size f o).kindOf (ps.zip us) λ_=>none) s1):Inv (qi CX P w K mg base N qual scope f o A outer s H E) [] (start N l) H s1:=by
 have hpl:ps.length<=N.length:=by have:=congrArg List.length S.pre;rw[length_take]at this;omega
 obtain⟨h1,L,rfl,B⟩:=x.done;have t:∀b:Addr,b∉(qi CX P w K mg base N qual scope f o A outer s H E).ex:=λb z=>absurd (show b∈([]:List Addr)from z) (by simp);refine⟨⟨j.mod,S.kind,rfl,rfl,dH,λy z c h1 g=>?_,λy hy=>?_,λy c _ h=>?_,λ_=>hd,Around.frames_deeper j.frames,.inr ⟨rfl,rfl⟩,λb z=>absurd z (t b),j.bs,j.Dt,λb _ _=>t b,λb z=>absurd z (t b),j.lG,j.Kc⟩,rfl,j.bare,Un.kept B,⟨_,x.toInCall.ns,λi y v h1 g O=>?_⟩,λy c h=>⟨_,x.cell y c h⟩,j.hok.fresh (dH),λy c h=>?_,λp m=>absurd (show p∈([]:List (Addr×Obj))from m) (by simp),j.hok.kept B,?_⟩;.exact name_of_addr x.apart (PySem.mem_of_lookup h1) (PySem.mem_of_lookup g)
 . have hy:scope.names.lookup y=some .cell\/scope.names.lookup y=some .free:=hy;rcases hy with hy|hy;.exact qe hy
   .exact absurd rfl (S.Ih _ (PySem.mem_of_lookup hy))
 .exact le_of_lt (x.above y c (PySem.mem_of_lookup h))
 . have hi:i<l.length:=by
    unfold start at g;by_cases hi:i<l.length;.exact hi
    .rw[List.getElem?_append_right (by simpa using hi)]at g;rw[List.getElem?_replicate]at g;split at g<;>cases g
   have G:l[i]?=some v:=by unfold start at g;rw[getElem?_append_left (by simpa using hi),getElem?_map]at g;cases e:l[i]?with|none=>rw[e]at g;cases g|some a=>rw[e]at g;cases g;rfl
   obtain⟨u,C,I⟩:=r.get G;have m:ps[i]?=some y:=by rw[<-S.pre,List.getElem?_take_of_lt (by omega)];exact h1
   have F:ps.Nodup:=by rw[<-S.pre];exact S.nd.sublist (List.take_sublist _ _)
   refine⟨u,I,?_⟩;rcases S.par y (mem_of_getElem? m)with k|k;.exact .inl ⟨k,mU F m C k⟩
   .obtain⟨c,e⟩:=qe (n:=s.heap.objs.size+1) k;refine .inr ⟨.inl k,c,e,?_⟩;have q:=x.cell y c e;rw[mY F m C (by show scope.names.lookup y≠_;rw[k];decide)]at q;exact q
 .exact j.hok.fresh (le_of_lt (x.above y c (PySem.mem_of_lookup h)))
 .unfold start;show _=N.length;rw[length_append,length_map,List.length_replicate];omega
theorem Lz{CX:xW}{P:Program}{w:World}{K:PySem.W.Frag}{mg:Str->Option Value}{base:Heap}{k:Nat}{f:Addr}{name qual:Str}{a:Arguments}{body:List Stmt}{scope:Scope}{O kV p U cdv ct oc:Value}{Y od:Option Addr}{C:Array (Option Value)}{N ps:List Str}{sp:Sp}(lk:K.lookup f=some ⟨oc,od,.func (PySem.W.fnOf name qual a body scope O kV p U Y cdv ct),C⟩)(F:PySem.W.codeIn K cdv qual=true)(S:aL N ps scope)(len:∀c H Q E,sp c H Q E->c.length=ps.length)(l:∀(A:Around)(outer:List Env)(s:Shared)(H:Hp)(c:List V)(Q:VK)(E:XK),fZ k (A.deeper (envOfC qual scope s.heap.objs.size f cdv))->sp c H Q E->∃t,lY (qi CX P w K mg base N qual scope f cdv A outer s H E) body t/\t {nx:=λ_ j=>Q .non j,rt:=Q} (start N c) H):gP P w K mg base CX (k+1) f (PySem.W.fnOf name qual a body scope O kV p U Y cdv ct) ps sp:=by
 refine⟨len,λA outer s H args us c Q E hr z hb r B=>?_⟩;have hl:=len _ _ _ _ B;have Z:K.In s.heap:=z.mod.Uc.keeps λb o e=>(z.bs b o e).1;have lim:s.heap.NoLimit:=z.mod.nolimit.keeps λb o e=>(z.bs b o e).1;have m:∀y∈ps.zip us,scope.names.lookup y.1=some .local\/(scope.names.lookup y.1=some .cell/\((cellsFrom (s.heap.objs.size+1) scope.names []).lookup y.1).isSome=true):=λ⟨n,v⟩hy=>by
  rcases S.par n (of_mem_zip hy).1 with q|q;.exact .inl q
  .exact .inr ⟨q,PySem.W.cellsFrom_some _ _ _ (.inl q)⟩
 refine codeAny_call_function hr.depth (Z _ _ lk) rfl S.co S.gen rfl (PySem.W.codeRec_of Z F) (hb _ _ _ _ ?_);refine wpAny_newFunctionEnv_cells S.kind m λenv he s1 x=>?_;subst he;refine⟨lim.keeps x.toInCall.keep,codeAny_func ?_⟩;obtain⟨t,ht,hq⟩:=l A outer s H c Q E (hr.deeper _) B;have I:Inv (qi CX P w K mg base N qual scope f cdv A outer s H E) [] (start N c) H s1:=uN S hr.hd z hl r x;refine wpAny_mono (ht [] s1 (start N c) H _ I hq) (λfl G hs=>?_) λe G hs=>hs;have fin:∀{g:St}{j:Hp}{v:V}{u:Value},Inv (qi CX P w K mg base N qual scope f cdv A outer s H E) [] g j G->RelV v u->Q v j->CE outer P w H s Q u G:=λ{g j v u}J L q=>⟨v,j,J.os,J.bare,J.base,J.hok,L,q⟩;cases fl with|ret u=>obtain⟨v,g,j,J,L,q⟩:=hs;exact fin J L q|next=>obtain⟨g,j,J,q⟩:=hs;exact fin (v:=V.non) (u:=Value.none) J rfl q|brk=>obtain⟨_,_,_,q⟩:=hs;exact False.elim q|cont=>obtain⟨_,_,_,q⟩:=hs;exact False.elim q
section
variable{X:Cx}{x:Str}{p pos:Pos}{e:Expr}{es:List Expr}{t:TA}{id T:String}{r:List V->Hp->VK->Prop}
def MJ(r:List V->Hp->VK->Prop)(t:TA):TE:=λa H Q=>t a H λb c=>r b c Q
theorem dR(hc:dm X (.builtin id) r)(c:Gl X x)(f:X.mg x=none)(g:bootBuiltins x=some (.builtin id))(j:PA X (e::es) t)(k:x≠"__name__":=by decide)(a:(x==("__debug__":Str))=false:=by decide)(he:starEach (e::es) X.env=(false,eval e X.env)::starEach es X.env:=by rfl)(hpl:(backTo pos (starEach es X.env)).any (·.1)=false:=by rfl):PE X (.Call (.Name x p) (e::es) [] pos) (MJ r t):=by intro pins s b H Q I h;refine wpAny_Call_Name_kw (lU I c f g ?_ k a);exact PyProof.Rows.callWith_builtin1 (cY (j pos pins s b H _ I h) λus s1⟨l,H1,I1,r1,q1⟩=>hc pins s1 b H1 l us Q I1 r1 q1) he hpl
theorem jA(hc:dm X (.type T) r)(c:Gl X x)(f:X.mg x=none)(g:bootBuiltins x=some (.type T))(j:PA X (e::es) t)(k:x≠"__name__":=by decide)(a:(x==("__debug__":Str))=false:=by decide)(he:starEach (e::es) X.env=(false,eval e X.env)::starEach es X.env:=by rfl)(hpl:(backTo pos (starEach es X.env)).any (·.1)=false:=by rfl):PE X (.Call (.Name x p) (e::es) [] pos) (MJ r t):=by intro pins s b H Q I h;refine wpAny_Call_Name_kw (lU I c f g ?_ k a);exact PyProof.Rows.callWith_type1 (cY (j pos pins s b H _ I h) λus s1⟨l,H1,I1,r1,q1⟩=>hc pins s1 b H1 l us Q I1 r1 q1) he hpl
end
end L2
namespace HT
open PySem PyProof.Rows
section
variable{prog:Program}{w:World}{A:Around}{E:Value->Shared->Prop}{s:Shared}
theorem Bv{t b:Addr}{f a:List Value}{Q:Value->Shared->Prop}(u:IsTup s.heap t f.toArray)(v:IsTup s.heap b a.toArray)(m:f≠[])(h1:a=[]->Q (.ref t) s)(x:a≠[]->Q (.ref s.heap.objs.size) {s with heap:=s.heap.push {cls:=.type "tuple",data:=.seq (f++a).toArray}})(l:f.length+a.length<=sizeLine):wpAny (model prog w) A (binaryOp .Add (.ref t) (.ref b)) Q E s:=by
 obtain⟨⟨cls,o,data,p⟩,ho,hc,n,hd⟩:=id u;obtain⟨⟨q,g,data2,h⟩,c,i,r,j⟩:=id v;simp only at hc hd i j;subst hc hd i j;have e:f.toArray++a.toArray=(f++a).toArray:=by simp
 by_cases k:a=[];.exact concat_meets ⟨_,ho,rfl⟩ ⟨_,c,rfl⟩ noFill_tuple_add seq_tuple_add slot_tuple_add entry_tuple_add (args_tuple_add_2 _ _) (tuple_addW1 t b f.toArray a.toArray n r o g p h (by simpa using m) (by simp[k])) ⟨ho,c,h1 k⟩
 .refine concat_meets ⟨_,ho,rfl⟩ ⟨_,c,rfl⟩ noFill_tuple_add seq_tuple_add slot_tuple_add entry_tuple_add (args_tuple_add_2 _ _) (tuple_addW2 t b f.toArray a.toArray n r o g p h (by simpa using m) (by simpa using k) (by rw[size_toArray,size_toArray];exact l)) ⟨ho,c,?_⟩;rw[e];exact x k
noncomputable def cH(n d:Nat):Option Int->Nat|none=>d|some v=>if v<0 then(v+(n:Int)).toNat else min v.toNat n
theorem Gh(n d:Nat)(hd:d<=n)(o:Option Int):cH n d o<=n:=by cases o with|none=>exact hd|some v=>
   show(if v<0 then(v+(n:Int)).toNat else min v.toNat n)<=n;by_cases a:v<0;.rw[if_pos a];omega
   .rw[if_neg a];exact Nat.min_le_right _ _
theorem sX(v:Int)(n d:Nat):(if v<0 then max (v+(n:Int)) 0 else min v (n:Int))=((cH n d (some v):Nat):Int):=by
 show(if v<0 then max (v+(n:Int)) 0 else min v (n:Int))=(((if v<0 then(v+(n:Int)).toNat else min v.toNat n):Nat):Int);by_cases a:v<0;.simp only[if_pos a];omega
 .simp only[if_neg a];omega
theorem rG(lo hi:Option Int)(n:Nat):sliceAdjust lo hi 1 (n:Int)=(((cH n 0 lo:Nat):Int),((cH n n hi:Nat):Int)):=by
 have h1:¬((1:Int)<0):=by omega
 unfold sliceAdjust;simp only[h1,if_false];refine Prod.ext ?_ ?_;.cases lo with|none=>rfl|some v=>exact sX v n 0
 .cases hi with|none=>rfl|some v=>exact sX v n n
theorem rQ(i j:Nat):slicePlaces (i:Int) (j:Int) 1=j-i:=by
 unfold slicePlaces;have h1:(1:Int)>0:=by omega
 simp only[h1,if_true,Int.ediv_one];split<;>omega
theorem lu{v:Value}{o:Option Int}{Q:Option Int->Shared->Prop}(p:IsPart v o)(h:Q o s):wpAny (model prog w) A (Builtin.Slice.slicePartIndex v) Q E s:=by cases p with|none=>exact slicePart_none h|int i t=>exact slicePart_int h
theorem fW{e:Addr}{vl c:Value}{lo hi:Option Int}{n:Nat}{Q:Int×Int×Nat->Shared->Prop}(hs:s.heap.IsSliceOf e vl c .none)(f:IsPart vl lo)(g:IsPart c hi)(h:Q (((cH n 0 lo:Nat):Int),1,cH n n hi-cH n 0 lo) s):wpAny (model prog w) A (sliceApplied (.ref e) (pure (n:Int))) Q E s:=by obtain⟨os,a,i,b⟩:=id hs;unfold sliceApplied Builtin.Slice.sliceFields;refine wpAny_bind (wpAny_bind (wpAny_field a b (x:=vl) rfl (wpAny_bind (wpAny_field a b (x:=c) rfl (wpAny_bind (wpAny_field a b (x:=.none) rfl (wpAny_pure ?_)))))));refine wpAny_bind (slicePart_none ?_);show wpAny _ _ (if((1:Int)==0)=true then _ else _) _ _ s;rw[if_neg (by decide)];refine wpAny_bind (lu f (wpAny_bind (lu g (wpAny_bind (wpAny_pure ?_)))));show wpAny _ _ (match sliceAdjust lo hi 1 (n:Int)with|(lo,hi)=>pure (lo,(1:Int),slicePlaces lo hi 1)) _ _ s;rw[rG lo hi n];show wpAny _ _ (pure (((cH n 0 lo:Nat):Int),(1:Int),slicePlaces ((cH n 0 lo:Nat):Int) ((cH n n hi:Nat):Int) 1)) _ _ s;rw[rQ];exact wpAny_pure h
theorem wC(xs:Array Value)(i k:Nat):((List.range k).filterMap λ(m:Nat)=>xs[((i:Int)+(m:Int)*1).toNat]?).toArray=((xs.toList.drop i).take k).toArray:=by
 have e:(λ(m:Nat)=>xs[((i:Int)+(m:Int)*1).toNat]?)=λm=>xs[i+m]?:=by
  funext m;have:((i:Int)+(m:Int)*1).toNat=i+m:=by omega
  rw[this]
 rw[e];have:=pick_run xs i k;rw[List.filterMap_map]at this;have a:((λx=>xs[x]?)∘ λx=>i+x)=λm=>xs[i+m]?:=rfl;rw[a]at this;rw[this]
theorem jh{t c:Addr}{items:Array Value}{vl j:Value}{lo hi:Option Int}{Q:Value->Shared->Prop}(a:IsTup s.heap t items)(hs:s.heap.IsSliceOf c vl j .none)(k:IsPart vl lo)(l:IsPart j hi)(n:¬(cH items.size 0 lo=0/\cH items.size items.size hi=items.size))(h:Q (.ref s.heap.objs.size) {s with heap:=s.heap.push {cls:=.type "tuple",data:=.seq ((items.toList.drop (cH items.size 0 lo)).take (cH items.size items.size hi-cH items.size 0 lo)).toArray}})(o:items.size<=sizeLine):wpAny (model prog w) A (getItem (.ref t) (.ref c)) Q E s:=by
 have b:sizeOk (.seq ((items.toList.drop (cH items.size 0 lo)).take (cH items.size items.size hi-cH items.size 0 lo)).toArray):=by show((items.toList.drop (cH items.size 0 lo)).take (cH items.size items.size hi-cH items.size 0 lo)).toArray.size<=sizeLine;rw[size_toArray,length_take,List.length_drop,length_toList];omega
 have r:cH items.size items.size hi<=items.size:=Gh _ _ (dH) hi;obtain⟨os,e,f,p⟩:=id hs;have g:s.TypeIs (.ref c) "slice":=⟨os,e,f⟩;unfold getItem;try with_reducible refine wpAny_holding ?_
 first|refine wpAny_bind (wpAny_pure ?_)|skip
 refine wpAny_bind (wpAny_sequenceKey a.typeIs (by decide) ?_);refine wpAny_bind (wpAny_callSpecial?_slot (name:=Str.ofString "__getitem__") a.typeIs PyProof.Rows.slot_tuple_getitem (wpAny_call_entry PyProof.Rows.slot_tuple_getitem a.typeIs entry_tuple_getitem ?_ (args_tuple_getitem _ _)));show wpAny _ _ (tupleItemsOf (.ref t)>>=_) _ _ s;refine wpAny_bind (tupleItemsOf_ a ?_);refine wpAny_bind (wpAny_typeOf g ?_);rw[if_pos (by decide)];refine wpAny_bind (fW hs k l ?_);have i:¬((((cH items.size 0 lo:Nat):Int)==0&&(1:Int)==1&&(cH items.size items.size hi-cH items.size 0 lo)==items.size)=true):=by intro q;rw[and_eq_true,and_eq_true]at q;have u:((cH items.size 0 lo:Nat):Int)=0:=eq_of_beq q.1.1;have v:cH items.size items.size hi-cH items.size 0 lo=items.size:=eq_of_beq q.2;exact n ⟨by omega,by omega⟩
 show wpAny _ _ (if(((cH items.size 0 lo:Nat):Int)==0&&(1:Int)==1&&(cH items.size items.size hi-cH items.size 0 lo)==items.size)=true then _ else _) _ _ s;rw[if_neg i,wC];first|exact wpAny_bind (m:=tupleExact _) (wpAny_newObj_type (wpAny_pure ⟨_,rfl,wpAny_pure h⟩) b)|exact wpAny_bind (m:=tupleExact _) (wpAny_newObj_type (wpAny_bind (wpAny_pure (wpAny_pure ⟨_,rfl,wpAny_pure h⟩))) b)|exact wpAny_bind (wpAny_bind (m:=tupleExact _) (wpAny_newObj_type (wpAny_pure (wpAny_pure ⟨_,rfl,wpAny_pure h⟩)) b))|exact wpAny_bind (wpAny_bind (m:=tupleExact _) (wpAny_newObj_type (wpAny_pure ⟨_,rfl,wpAny_pure h⟩) b))
end
end HT
namespace L2
open PySem PySem.Spec PyProof.Rows
variable{n:Nat}
abbrev TO:=St->Hp->(Option Int->Hp->Prop)->Prop
def PO(X:Cx)(e:Option Expr)(t:TO):Prop:=∀(a:List (Addr × Obj))(s:Shared)(b:St)(H:Hp)(Q:Option Int->Hp->Prop),Inv X a b H s->t b H Q->wpAny (model X.prog X.w) X.A (evalPart e X.env) (λu f=>∃o c,Inv X a b c f/\IsPart u o/\Q o c) X.xe s
def Ae:TO:=λ_ H Q=>Q none H
def Kh(t:TE):TO:=λa H Q=>t a H λx b=>∃i,x=.int i/\Q (some i) b
section
variable{X:Cx}{e:Expr}{te:TE}{lo hi:Option Expr}{tl th:TO}{pos p2:Pos}
theorem zX:PO X none Ae:=by intro a s b H Q I h;rw[evalPart_none];exact wpAny_pure ⟨none,H,I,.none,h⟩
theorem Bq(h:PE X e te):PO X (some e) (Kh te):=by intro a s b H Q I c;rw[evalPart_some];refine cY (h a s b H _ I c) λu s1⟨x,H1,I1,r1,q1⟩=>?_;obtain⟨i,rfl,q⟩:=q1;obtain⟨t,rfl⟩:=r1;exact⟨some i,H1,I1,.int i t,q⟩
def N8(X:Cx)(r:V->Option Int->Option Int->Hp->VK->Prop):Prop:=∀(a:List (Addr × Obj))(s:Shared)(b:St)(H:Hp)(x:V)(v vl c:Value)(lo hi:Option Int)(f:Addr)(Q:VK),Inv X a b H s->RelV x v->s.heap.IsSliceOf f vl c .none->IsPart vl lo->IsPart c hi->r x lo hi H Q->∃T id,typeLookup (.type T) "__getitem__"=pure (some (.builtin id))/\s.TypeIs v T/\wpAny (model X.prog X.w) X.A (getItem v (.ref f)) (EP X a b Q) X.xe s
def tSl(r:V->Option Int->Option Int->Hp->VK->Prop)(te:TE)(tl th:TO):TE:=λa H Q=>te a H λx b=>tl a b λl H2=>th a H2 λu c=>r x l u c Q
theorem pW{r:V->Option Int->Option Int->Hp->VK->Prop}(hr:N8 X r)(he:PE X e te)(g:PO X lo tl)(i:PO X hi th):PE X (.Subscript e (.Slice lo hi none p2) pos) (tSl r te tl th):=by intro a s c H Q I h;refine Subscript_ (cY (he a s c H _ I h) λv s1⟨x,H1,I1,r1,q1⟩=>?_);refine wpAny_Slice (cY (g a s1 c H1 _ I1 q1) λvl s2⟨l,H2,I2,pl,q2⟩=>cY (i a s2 c H2 _ I2 q2) λf s3⟨u,H3,I3,pu,q3⟩=>?_);rw[evalPart_none];refine wpAny_pure ?_;have j:Inv X a c H3 {s3 with heap:=s3.heap.push {cls:=.type "slice",data:=.fields #[vl,f,.none]}}:=I3.kept (t':=s3.toks) λb p q=>mq q;obtain⟨T,id,k,m,o⟩:=hr a {s3 with heap:=s3.heap.push {cls:=.type "slice",data:=.fields #[vl,f,.none]}} c H3 x v vl f l u s3.heap.objs.size Q j r1 (Heap.IsSliceOf.new ..) pl pu q3;show wpAny (model X.prog X.w) X.A (subscriptTail e (.Slice lo hi none p2) v (.ref s3.heap.objs.size)) (EP X a c Q) X.xe {s3 with heap:=s3.heap.push {cls:=.type "slice",data:=.fields #[vl,f,.none]}};exact tail_any (ops:=[.ref s3.heap.objs.size,v]) m k o (by with_unfolding_all rfl)
noncomputable def pI(xs:List V)(lo hi:Option Int):List V:=(xs.drop (HT.cH xs.length 0 lo)).take (HT.cH xs.length xs.length hi-HT.cH xs.length 0 lo)
theorem jG(xs:List V)(lo hi:Option Int):(pI xs lo hi).length<=xs.length:=by unfold pI;rw[length_take,List.length_drop];omega
def RG(K:PySem.W.Frag):V->Option Int->Option Int->Hp->VK->Prop:=λx lo hi H Q=>∃a xs,x=.ref a/\fV K H a xs/\¬(HT.cH xs.length 0 lo=0/\HT.cH xs.length xs.length hi=xs.length)/\∀p,H p=none->Q (.ref p) (upd H p (.tup (pI xs lo hi)))
theorem HW:N8 X (RG X.K):=by
 intro g s u H x v vl w lo hi y Q I k hs l m h;obtain⟨a,xs,rfl,p,t,q⟩:=h;cases k;obtain⟨f,r,i,j⟩:=I.tuple p;have c:f.toArray.size=xs.length:=by rw[size_toArray];exact r.length.symm
 refine⟨"tuple",_,PyProof.Rows.slot_tuple_getitem.lookup,i.typeIs,?_⟩;refine HT.jh i hs l m (by rw[c];exact t) ?_ (by rw[c];exact j);rw[c];refine⟨.ref s.heap.objs.size,_,I.laid (t':=s.toks) (o:=.tup (pI xs lo hi)) (λb z q=>mq q) (dH) ?_,rfl,q _ (I.hok.fresh (dH))⟩;exact⟨le_trans (jG xs lo hi) j,_,(r.drop (HT.cH xs.length 0 lo)).take (HT.cH xs.length xs.length hi-HT.cH xs.length 0 lo),IsTup.new _ _⟩
def MN(K:PySem.W.Frag):R2:=λx y H Q=>∃a b xs ys,x=.ref a/\y=.ref b/\fV K H a xs/\fV K H b ys/\xs≠[]/\xs.length+ys.length<=sizeLine/\(ys=[]->Q (.ref a) H)/\(ys≠[]->∀p,H p=none->Q (.ref p) (upd H p (.tup (xs++ys))))
theorem Vals.jZ{xs:List V}{a:List Value}(r:Vals xs a):a=[]↔xs=[]:=by cases r with|nil=>simp|cons _ _=>simp
theorem Aw:fB X (binaryOp .Add) (MN X.K):=by intro g s E H x y v u Q I k l h;obtain⟨a,b,xs,ys,rfl,rfl,m,p,r,i,t,A⟩:=h;cases k;cases l;obtain⟨B,f,C,_⟩:=I.tuple m;obtain⟨j,c,p2,_⟩:=I.tuple p;refine HT.Bv C p2 (λz=>r (f.jZ.mp z)) (λz=>⟨.ref a,H,I,rfl,t (c.jZ.mp z)⟩) (λz=>?_) (by rw[<-f.length,<-c.length];exact i);refine⟨.ref s.heap.objs.size,_,I.laid (t':=s.toks) (o:=.tup (xs++ys)) (λb F q=>mq q) (dH) ?_,rfl,A (λw=>z (c.jZ.mpr w)) _ (I.hok.fresh (dH))⟩;exact⟨by rw[length_append];exact i,_,f.append c,IsTup.new _ _⟩
end
noncomputable def jt(n:Nat)(i:Int):Option Nat:=if 0<=i then(if i<n then some i.toNat else none)else if-(n:Int)<=i then some (i+n).toNat else none
noncomputable def JT{a:Type}(xs:List a)(i:Int):Option a:=(jt xs.length i).bind λj=>xs[j]?
theorem tE{i:Int}{j:Nat}(h:jt n i=some j):seqIndex? i n=some j/\j<n/\-(n:Int)<=i/\i<n:=by
 unfold jt at h;by_cases h0:0<=i
 . rw[if_pos h0]at h;by_cases h1:i<n;.rw[if_pos h1]at h;have e:i.toNat=j:=Option.some.inj h;exact⟨by rw[seqIndex_of h0 h1,e],by omega,by omega,h1⟩
   .rw[if_neg h1]at h;cases h
 . rw[if_neg h0]at h;by_cases h1:-(n:Int)<=i;.rw[if_pos h1]at h;have e:(i+n).toNat=j:=Option.some.inj h;exact⟨by rw[seqIndex_neg (by omega) h1,e],by omega,h1,by omega⟩
   .rw[if_neg h1]at h;cases h
theorem tH{a:Type}{xs:List a}{i:Int}{v:a}(h:JT xs i=some v):∃j,seqIndex? i xs.length=some j/\xs[j]?=some v/\j<xs.length/\-(xs.length:Int)<=i/\i<xs.length:=by unfold JT at h;cases e:jt xs.length i with|none=>rw[e]at h;cases h|some j=>rw[e]at h;obtain⟨h1,b,c,f⟩:=tE e;exact⟨j,h1,h,b,c,f⟩
def uw(b:Expr):Prop:=∀o i,subscripted b false o i=operate [o,i] (getItem o i)
def Pj(X:Cx)(r:R2):Prop:=∀(b slice:Expr)(a:List (Addr × Obj))(s:Shared)(c:St)(H:Hp)(x y:V)(v u:Value)(Q:VK),Inv X a c H s->RelV x v->RelV y u->r x y H Q->subscripted slice false v u=operate [v,u] (getItem v u)->wpAny (model X.prog X.w) X.A (subscriptTail b slice v u) (EP X a c Q) X.xe s
def Vt(X:Cx)(id:String)(r:V->List V->Hp->VK->Prop):Prop:=∀(a:List (Addr × Obj))(s:Shared)(b:St)(H:Hp)(x:V)(xs:List V)(v:Value)(c:List Value)(Q:VK),Inv X a b H s->RelV x v->Vals xs c->r x xs H Q->wpAny (model X.prog X.w) X.A (call (.builtin id) (v::c)) (EP X a b Q) X.xe s
section
variable{X:Cx}{a b:Expr}{ta tb:TE}{pos:Pos}
theorem Lq{r:R2}(hr:Pj X r)(e:PE X a ta)(f:PE X b tb)(hs:uw b):PE X (.Subscript a b pos) (JC r ta tb):=by intro c s g H Q I h;exact Subscript_ (Eo e f I h λv u s2 x y H2 i j k q=>hr a b c s2 g H2 x y v u Q i j k q (hs _ _))
def Su(K:PySem.W.Frag):R2:=λx y H Q=>∃p xs i v,x=.ref p/\y=.int i/\cR K H p xs/\JT xs i=some v/\Q v H
def TQ(K:PySem.W.Frag):R2:=λx y H Q=>∃p xs i v,x=.ref p/\y=.int i/\fV K H p xs/\JT xs i=some v/\Q v H
theorem zP:Pj X (Su X.K):=by
 intro e slice c s l H x y v u Q I o A h hs;obtain⟨p,xs,i,z,rfl,rfl,B,he,q⟩:=h;cases o;obtain⟨t,rfl⟩:=A;obtain⟨f,r,g,M⟩:=I.list B;obtain⟨j,h1,C,N,E,F⟩:=tH he;obtain⟨w,m,G⟩:=r.get C;have J:=r.length;have O:=oE;have fin:EP X c l Q w s:=⟨z,H,I,G,q⟩;by_cases h0:0<=i
 . have k:i.toNat=j:=by rw[seqIndex_of h0 F]at h1;exact Option.some.inj h1
   exact item_listR g.isList h0 (by omega) (by rw[k];simpa using m) fin hs
 . have k:(i+(f.toArray.size:Int)).toNat=j:=by rw[seqIndex_neg (by omega) E]at h1;rw[size_toArray,<-J];exact Option.some.inj h1
   exact subscriptTail_builtinR (x:=w) g.isList.typeIs slot_list_getitem.lookup (wpAny_getItem_list_neg (Q:=λr L=>r=w/\EP X c l Q r L) g.isList (by omega) (by rw[size_toArray]<;>omega) (by omega) (by rw[k];simpa using m) ⟨rfl,fin⟩) hs
theorem Hs:Pj X (TQ X.K):=by intro e slice c s f H x y v u Q I k l h hs;obtain⟨p,xs,i,z,rfl,rfl,m,he,q⟩:=h;cases k;obtain⟨t,rfl⟩:=l;obtain⟨o,r,g,G⟩:=I.tuple m;obtain⟨j,h1,A,J,L,M⟩:=tH he;obtain⟨w,B,C⟩:=r.get A;have E:=r.length;have N:=oE;have fin:EP X c f Q w s:=⟨z,H,I,C,q⟩;exact subscriptTail_builtinR (x:=w) g.typeIs slot_tuple_getitem.lookup (getItem_tuple (j:=j) (Q:=λr F=>r=w/\EP X c f Q r F) g (by omega) (by omega) (by rw[size_toArray,<-E];exact h1) (by simpa using B) ⟨rfl,fin⟩) hs
theorem qJ(c:List Value)(n j:Nat)(u:Value):Obj.mapSeq (·.setIfInBounds j u) {cls:=.type "list",data:=.seq c.toArray n}={cls:=.type "list",data:=.seq (c.set j u).toArray n}:=by simp[Obj.mapSeq]
theorem Inv.lst{f:List (Addr×Obj)}{g:St}{H:Hp}{s:Shared}{p:Addr}{xs:List V}(I:Inv X f g H s)(h:H p=some (.lst xs)):∃(c:List Value)(n:Nat),Vals xs c/\s.heap.get? p=some {cls:=.type "list",data:=.seq c.toArray n}/\xs.length<=sizeLine:=by obtain⟨z,c,n,r,e⟩:=I.hok p _ h;exact⟨c,n,r,e,z⟩
theorem Inv.Fg{c:List (Addr×Obj)}{j:St}{H:Hp}{s:Shared}{p:Addr}{xs ys:List V}{g its':List Value}{n i:Nat}{f:Obj->Obj}(I:Inv X c j H s)(h:H p=some (.lst xs))(ho:s.heap.get? p=some {cls:=.type "list",data:=.seq g.toArray n})(k:f {cls:=.type "list",data:=.seq g.toArray n}={cls:=.type "list",data:=.seq its'.toArray i})(r:Vals ys its')(l:ys.length<=sizeLine)(t:Nat):Inv X c j (upd H p (.lst ys)) {s with heap:=s.heap.update p f,toks:=t}:=by
 have e:(s.heap.update p f).get? p=some {cls:=.type "list",data:=.seq its'.toArray i}:=by rw[Heap.get?_update_self f ho (by rw[k]<;>rfl),k]
 refine I.write (x:=p) (e:=p) (by rw[h];trivial) (.inl rfl) (λb u m q=>(Heap.get?_update_other _ _ (Ne.symm m)).trans q) ⟨_,e⟩ ?_;exact⟨l,its',i,r,e⟩
def KH:V->V->V->Hp->(Hp->Prop)->Prop:=λo i v H Q=>∃p xs k j,o=.ref p/\i=.int k/\H p=some (.lst xs)/\jt xs.length k=some j/\Q (upd H p (.lst (xs.set j v)))
theorem set_list:Kr X KH:=by
 intro c s y H o i v F G u Q I z A B h;obtain⟨p,xs,k,j,rfl,rfl,l,C,q⟩:=h;cases z;obtain⟨t,rfl⟩:=A;obtain⟨e,n,r,ho,E⟩:=I.lst l;obtain⟨h1,J,m,w⟩:=tE C;have f:=r.length;have L:=oE;have x:Inv X c y (upd H p (.lst (xs.set j v))) {s with heap:=s.heap.update p (Obj.mapSeq (·.setIfInBounds j u))}:=I.Fg l ho (qJ e n j u) (r.set B j) (by rw[length_set];exact E) s.toks;by_cases h0:0<=k
 . have g:k.toNat=j:=by rw[seqIndex_of h0 w]at h1;exact Option.some.inj h1
   exact PySem.W.ki_setAt ho h0 (by omega) (by rw[size_toArray,<-f];exact w) (by rw[g];exact⟨_,x,q⟩)
 . have g:(k+(e.toArray.size:Int)).toNat=j:=by rw[seqIndex_neg (by omega) m]at h1;rw[size_toArray,<-f];exact Option.some.inj h1
   exact PySem.W.ki_setBack ho (by omega) (by rw[size_toArray,<-f];exact m) (by omega) (by rw[g];exact⟨_,x,q⟩)
theorem oO(lo hi:Option Int)(n:Nat):(sliceBounds lo hi none n).1=((HT.cH n 0 lo:Nat):Int)/\(sliceBounds lo hi none n).2.1=((HT.cH n n hi:Nat):Int)/\(sliceBounds lo hi none n).2.2=1:=by
 refine⟨?_,?_,rfl⟩;.cases lo with|none=>simp[sliceBounds,HT.cH]|some i=>
     simp only[sliceBounds,HT.cH,getD_none,show(1:Int)>0 by decide,if_true];by_cases h:i<0;.simp only[h,if_true]<;>omega
     .simp only[h,if_false]<;>omega
 .cases hi with|none=>simp[sliceBounds,HT.cH]|some i=>
     simp only[sliceBounds,HT.cH,getD_none,show(1:Int)>0 by decide,if_true];by_cases h:i<0;.simp only[h,if_true]<;>omega
     .simp only[h,if_false]<;>omega
theorem my(c:List Value)(lo hi:Option Int):slicePick c.toArray lo hi none=((c.drop (HT.cH c.length 0 lo)).take (HT.cH c.length c.length hi-HT.cH c.length 0 lo)).toArray:=by obtain⟨h1,e,f⟩:=oO lo hi c.toArray.size;unfold slicePick;rw[h1,e,f];simp only[sliceRange_one,pick_run,size_toArray]<;>rfl
def Rf(K:PySem.W.Frag):V->Option Int->Option Int->Hp->VK->Prop:=λx lo hi H Q=>∃a xs,x=.ref a/\cR K H a xs/\∀p,H p=none->Q (.ref p) (upd H p (.lst (pI xs lo hi)))
theorem Aa:N8 X (Rf X.K):=by intro e s p H x v vl t lo hi u Q I g hs i j h;obtain⟨a,xs,rfl,k,q⟩:=h;cases g;obtain⟨l,r,f,m⟩:=I.list k;have c:=r.length;refine⟨"list",_,slot_list_getitem.lookup,f.isList.typeIs,?_⟩;refine wpAny_getItem_list_slice f.isList hs i j .none (by simp) ?_ (by rw[size_toArray]<;>omega);rw[my,<-c];refine⟨.ref s.heap.objs.size,_,I.laid (t':=s.toks) (o:=.lst (pI xs lo hi)) (λb w q=>mq q) (dH) ?_,rfl,q _ (I.hok.fresh (dH))⟩;exact⟨le_trans (jG xs lo hi) m,_,0,(r.drop (HT.cH xs.length 0 lo)).take (HT.cH xs.length xs.length hi-HT.cH xs.length 0 lo),get?_push_size _ rfl⟩
theorem nT:dm X (.builtin "len") (λxs H Q=>∃p ys,xs=[.ref p]/\(cR X.K H p ys\/fV X.K H p ys)/\Q (.int ys.length) H):=by
 intro i s l H xs m Q I r h;obtain⟨p,ys,rfl,hq,q⟩:=h;obtain⟨u,rfl,j⟩:=vals1 r;cases j;have o:=oE;rcases hq with hq|hq;.obtain⟨e,f,g,k⟩:=I.list hq;have c:=f.length;exact Calls.call_len_list g.isList (by simp only[size_toArray]<;>omega) ⟨.int ys.length,H,I.tok _,⟨s.toks+1,by rw[size_toArray,c]⟩,q⟩
 .obtain⟨e,f,g,k⟩:=I.tuple hq;have c:=f.length;exact len_tuple g (by simp only[size_toArray]<;>omega) ⟨.int ys.length,H,I.tok _,⟨s.toks+1,by rw[size_toArray,c]⟩,q⟩
theorem nC:dm X (.type "list") (λxs H Q=>∃p ys,xs=[.ref p]/\(cR X.K H p ys\/fV X.K H p ys)/\∀l,H l=none->Q (.ref l) (upd H l (.lst ys))):=by
 intro i s v H xs y Q I r h;obtain⟨p,ys,rfl,hq,q⟩:=h;obtain⟨u,rfl,x⟩:=vals1 r;cases x;have fin:∀(c:List Value),Vals ys c->ys.length<=sizeLine->∀(h':Heap)(f:Nat),(∀b t,s.heap.get? b=some t->h'.get? b=some t)->h'.get? s.heap.objs.size=some {cls:=.type "list",dict:=none,data:=.seq c.toArray f,slots:=#[]}->EP X i v Q (.ref s.heap.objs.size) {s with heap:=h'}:=λc g j h' f kp e=>⟨.ref s.heap.objs.size,_,I.laid (t':=s.toks) kp (dH) (show cG X.prog X.w _ h' _ (.lst ys)from⟨j,c,f,g,e⟩),rfl,q _ (I.hok.fresh (dH))⟩;rcases hq with hq|hq;.obtain⟨c,g,m,j⟩:=I.list hq;have k:=g.length;obtain⟨o,ho,hc,n,hd⟩:=m.isList;exact call_list_seq p (.inl rfl) ho hc hd (λh' f kp e=>fin c g j h' f kp e) (by simp only[size_toArray]<;>omega)
 .obtain⟨c,g,m,j⟩:=I.tuple hq;have k:=g.length;obtain⟨o,ho,hc,n,hd⟩:=m;exact call_list_seq p (.inr rfl) ho hc hd (λh' f kp e=>fin c g j h' f kp e) (by simp only[size_toArray]<;>omega)
theorem iB:dm X (.type "tuple") (λxs H Q=>∃p ys,xs=[.ref p]/\((cR X.K H p ys/\∀l,H l=none->Q (.ref l) (upd H l (.tup ys)))\/(fV X.K H p ys/\Q (.ref p) H))):=by
 intro c s k H xs z Q I r h;obtain⟨p,ys,rfl,h⟩:=h;obtain⟨u,rfl,x⟩:=vals1 r;cases x;rcases h with⟨g,q⟩|⟨g,q⟩;.obtain⟨f,i,j,m⟩:=I.list g;have t:=i.length;refine call_tuple_list j.isList (λh' kp=>?_) (by simp only[size_toArray]<;>omega);have v:Inv X c k H {s with heap:=h'}:=I.kept (t':=s.toks) kp;have y:Inv X c k (upd H h'.objs.size (.tup ys)) {s with heap:=h'.push {cls:=.type "tuple",data:=.seq f.toArray}}:=v.laid (t':=s.toks) (λb o e=>mq e) (dH) (show cG X.prog X.w _ _ _ (.tup ys)from⟨m,f,i,IsTup.new _ _⟩);exact⟨.ref h'.objs.size,_,y,rfl,q _ (v.hok.fresh (dH))⟩
 .obtain⟨f,i,j,m⟩:=I.tuple g;exact call_tuple_same j ⟨.ref p,H,I,rfl,q⟩
def Ry(K:PySem.W.Frag)(T:String)(x:V)(H:Hp):Prop:=match x with|.str _=>T="str"|.int _=>T="int"|.ref p=>(T="list"/\∃xs,cR K H p xs)\/(T="tuple"/\∃o,K.lookup p=some o/\o.cls=.type "tuple"/\o.dict=none)\/(T="dict"/\((∃c,H p=some (.dK c))\/∃c,H p=some (.dT c)))\/(T="set"/\∃S n,H p=some (.set S n))|_=>False
theorem yq{g:List (Addr×Obj)}{m:St}{H:Hp}{s:Shared}{T:String}{x:V}{v:Value}(I:Inv X g m H s)(r:RelV x v)(ty:Ry X.K T x H):
 s.TypeIs v T/\∀a,v=.ref a->∃k,s.heap.get? a=some k/\k.dict=none:=by cases x with|str z=>obtain⟨t,rfl⟩:=r;cases(show T="str"from ty);exact⟨typeIs_str s z t,λ_ e=>nomatch e⟩|int i=>obtain⟨t,rfl⟩:=r;cases(show T="int"from ty);exact⟨typeIs_int s i t,λ_ e=>nomatch e⟩|ref p=>
   cases r;rcases ty with⟨rfl,xs,q⟩|⟨rfl,o,f,hc,hd⟩|⟨rfl,f⟩|⟨rfl,S,n,f⟩;.obtain⟨u,_,l,_⟩:=I.list q;refine⟨l.isList.typeIs,λa e=>?_⟩;cases e;obtain⟨o,n,e,c,hd,_⟩:=l;exact⟨o,e,hd⟩
   .refine⟨⟨o,I.Cg p o f,hc⟩,λa e=>?_⟩;cases e;exact⟨o,I.Cg _ o f,hd⟩
   . have z:∃o,s.heap.get? p=some o/\o.ExactDict:=by
      rcases f with⟨h,f⟩|⟨h,f⟩;.obtain⟨_,_,_,_,o,_,_,e,ex,_⟩:=I.hok p _ f;exact⟨o,e,ex⟩
      .obtain⟨_,_,_,_,o,_,_,e,ex,_⟩:=I.hok p _ f;exact⟨o,e,ex⟩
     obtain⟨o,e,ex⟩:=z;refine⟨⟨o,e,ex.1⟩,λa j=>?_⟩;cases j;exact⟨o,e,ex.2.1⟩
   .obtain⟨o,_,_,_,e,ex,_⟩:=I.hok p _ f;refine⟨⟨o,e,ex.1⟩,λa j=>?_⟩;cases j;exact⟨o,e,ex.2.1⟩|_=>exact False.elim ty
def zy(K:PySem.W.Frag)(T:String)(r:V->List V->Hp->VK->Prop)(e:TE):TE:=λf H Q=>e f H λx c=>Ry K T x c/\r x [] c Q
def tBM(K:PySem.W.Frag)(T:String)(r:V->List V->Hp->VK->Prop)(f:TE)(t:TA):TE:=λc H Q=>f c H λx e=>Ry K T x e/\t c e λxs H2=>r x xs H2 Q
variable{o e:Expr}{es:List Expr}{to:TE}{t:TA}{name:Str}{apos cpos:Pos}{T id:String}{r:V->List V->Hp->VK->Prop}
theorem xf(k:PlainAttrs T)(slot:Slot T name id)(i:typeOf (.builtin id)=pure (.type "method_descriptor"))(l:Vt X id r)(ho:PE X o to)(f:attributeBase o name X.env (eval o X.env)=eval o X.env:=by rfl)(g:(apos.endLine==cpos.line)=true:=by rfl):PE X (.Call (.Attribute o name apos) [] [] cpos) (zy X.K T r to):=by intro c s j H Q I h;refine wpAny_Call_method0_late f g (cY (ho c s j H _ I h) λv s1⟨x,H1,I1,r1,ty,q1⟩=>?_);obtain⟨h1,m⟩:=yq I1 r1 ty;exact⟨T,id,k,slot,i,h1,m,Calls.callWith_builtin rfl (PySem.evalArgs_none (l c s1 j H1 x [] v [] Q I1 r1 .nil q1))⟩
theorem Nj(p:PlainAttrs T)(slot:Slot T name id)(k:typeOf (.builtin id)=pure (.type "method_descriptor"))(q:Vt X id r)(ho:PE X o to)(u:PA X (e::es) t)(g:attributeBase o name X.env (eval o X.env)=eval o X.env:=by rfl)(j:((backTo cpos (starEach (e::es) X.env)).all (λx=>!x.1)&&(backToKw cpos (keywordEach [] X.env)).all (λx=>x.1.isSome)&&decide ((e::es).length+([]:List Keyword).length+(if([]:List Keyword).isEmpty then 0 else 1)<30))=true:=by rfl)(i:(apos.endLine==cpos.line)=true:=by rfl)(hs:starEach (e::es) X.env=(false,eval e X.env)::starEach es X.env:=by rfl)(f:(backTo cpos (starEach es X.env)).any (·.1)=false:=by rfl):PE X (.Call (.Attribute o name apos) (e::es) [] cpos) (tBM X.K T r to t):=by intro c s l H Q I h;refine wpAny_Call_method_late g j i rfl (cY (ho c s l H _ I h) λv s1⟨x,H1,I1,r1,ty,q1⟩=>?_);obtain⟨h1,w⟩:=yq I1 r1 ty;refine⟨T,id,p,slot,k,h1,w,?_⟩;have m:=u cpos c s1 l H1 _ I1 q1;rw[hs]at m ⊢;refine Calls.callWith_builtin (by show(false||(backTo cpos (starEach es X.env)).any (·.1))=false;rw[f]<;>rfl) (Calls.evalArgs_plain ?_);exact cY m λy s2⟨z,H2,I2,r2,q2⟩=>q c s2 l H2 x z v y Q I2 r1 r2 q2
end
def Vq(X:Cx)(id:String)(r:V->List V->Hp->VK->Prop):Prop:=∀(a:List (Addr × Obj))(s:Shared)(b:St)(H:Hp)(x:V)(xs:List V)(v:Value)(c:List Value)(Q:VK),Inv X a b H s->RelV x v->Vals xs c->r x xs H Q->wpAny (model X.prog X.w) X.A (call (.builtin id) (v::c)) (EP X a b Q) X.xe s
theorem Vals.one:∀{x:V}{a:List Value},Vals [x] a->∃u,a=[u]/\RelV x u|x,a,h=>by cases h with|cons r t=>cases t;exact⟨_,rfl,r⟩
theorem Vals.two:∀{x y:V}{a:List Value},Vals [x,y] a->∃u v,a=[u,v]/\RelV x u/\RelV y v|x,y,a,h=>by cases h with|cons r t=>cases t with|cons q z=>cases z;exact⟨_,_,rfl,r,q⟩
theorem Vals.zero:∀{a:List Value},Vals [] a->a=[]|_,.nil=>rfl
theorem Vals.rep{xs:List V}{a:List Value}(h:Vals xs a):∀k:Nat,Vals (replicate k xs).flatten (replicate k a).flatten|0=>.nil|k+1=>by rw[replicate_succ,replicate_succ,flatten_cons,flatten_cons];exact Vals.append h (Vals.rep h k)
theorem foldl_rep(a:List Value):∀(k:Nat)(b:List Value),foldl (λc f=>c++f) b.toArray (replicate k a.toArray)=(b++(replicate k a).flatten).toArray
 |0,b=>by simp|k+1,b=>by
   have e:b.toArray++a.toArray=(b++a).toArray:=by simp
   have g:(b++a)++(replicate k a).flatten=b++(replicate (k+1) a).flatten:=by rw[replicate_succ,flatten_cons,List.append_assoc]
   rw[<-g,<-foldl_rep a k (b++a),<-e,replicate_succ,List.foldl_cons]
section
variable{X:Cx}{pins:List (Addr×Obj)}{σ:St}{H:Hp}{s:Shared}{l b:Addr}{xs ys zs:List V}
theorem Inv.Kl{a its':List Value}{f:Array Value->Array Value}{t':Nat}(I:Inv X pins σ H s)(c:H l=some (.lst xs))(e:s.heap.get? l=some {cls:=.type "list",data:=.seq a.toArray n})(g:f a.toArray=its'.toArray)(h:Vals ys its')(i:ys.length<=sizeLine):Inv X pins σ (upd H l (.lst ys)) {s with heap:=s.heap.update l (Obj.mapSeq f),toks:=t'}:=by have q:=PySem.IsL.update e f;rw[g]at q;refine I.write (x:=l) (e:=l) (by rw[c];exact trivial) (.inl rfl) (λm u j k=>(Heap.get?_update_other s.heap (Obj.mapSeq f) (Ne.symm j)).trans k) ⟨_,q⟩ ?_;exact⟨i,its',_,h,q⟩
theorem Inv.Hx{a:List Value}{t':Nat}(I:Inv X pins σ H s)(c:Vals ys a)(e:ys.length<=sizeLine):Inv X pins σ (upd H s.heap.objs.size (.lst ys)) {s with heap:=s.heap.push {cls:=.type "list",data:=.seq a.toArray},toks:=t'}:=I.laid (λ_ _ q=>mq q) (dH) ⟨e,a,0,c,get?_push_size _ rfl⟩
theorem Inv.fresh(I:Inv X pins σ H s):H s.heap.objs.size=none:=I.hok.fresh (dH)
theorem Inv.Mz(I:Inv X pins σ H s)(c:H l=some (.lst xs)):xs.length<=sizeLine/\∃(a:List Value)(n:Nat),Vals xs a/\xs.length=a.length/\s.heap.get? l=some {cls:=.type "list",data:=.seq a.toArray n}:=by obtain⟨z,a,n,r,e⟩:=I.hok l _ c;exact⟨z,a,n,r,r.length,e⟩
theorem yu(h:n<=sizeLine):listTooLong n=false:=by unfold listTooLong;exact decide_eq_false (by omega)
end
section
variable{X:Cx}
def Aj:V->List V->Hp->VK->Prop:=λx a H Q=>∃l xs y,x=.ref l/\a=[y]/\H l=some (.lst xs)/\xs.length<sizeLine/\Q .non (upd H l (.lst (xs++[y])))
theorem m9:Vq X "list.append" Aj:=by intro b s j H x k v m Q I f g h;obtain⟨l,xs,y,rfl,rfl,c,o,q⟩:=h;cases f;obtain⟨u,rfl,i⟩:=g.one;obtain⟨z,a,n,r,p,e⟩:=I.Mz c;refine call_meets F.slot_list_append ⟨_,e,rfl⟩ F.entry_list_append (F.args_list_append_2 _ _) (PySem.list_append l a.toArray n u (by rw[size_toArray];omega)) ⟨e,?_⟩;refine⟨.non,_,I.Kl (its':=a++[u]) c e (by simp) (r.append (.cons i .nil)) ?_,rfl,q⟩;rw[length_append,List.length_singleton];omega
def nP:V->List V->Hp->VK->Prop:=λx a H Q=>∃l xs,x=.ref l/\a=[]/\H l=some (.lst xs)/\Q .non (upd H l (.lst []))
theorem pK:Vq X "list.clear" nP:=by intro c s j H x k v m Q I g i h;obtain⟨l,xs,rfl,rfl,f,q⟩:=h;cases g;have a:=i.zero;subst a;obtain⟨z,b,n,r,o,e⟩:=I.Mz f;refine call_meets F.slot_list_clear ⟨_,e,rfl⟩ F.entry_list_clear (F.args_list_clear_1 _) (AutoSeq1.list_clear_list_0 l b.toArray n (by rw[size_toArray];omega)) ⟨e,?_⟩;exact⟨.non,_,I.Kl (its':=[]) (ys:=[]) f e rfl .nil (Jo),rfl,q⟩
theorem len_rep{a:Type}(xs:List a)(k:Nat):(replicate k xs).flatten.length=k*xs.length:=by induction k with|zero=>simp|succ k b=>rw[replicate_succ,flatten_cons,length_append,b,Nat.succ_mul,Nat.add_comm]
end
end L2
namespace V5
open PySem PySem.W PySem.Calls PyProof.Rows
theorem jK{P:Params}{h:Heap}:∀(ns:List Int)(c:List Value),WellAll P h c (ns.map WData.int)->IntsAre c ns:=by intro ns;induction ns with|nil=>intro c w;rw[map_nil]at w;cases w;exact .nil|cons n ns e=>intro c w;rw[map_cons]at w;cases w with|cons a b=>cases a;exact .cons _ _ (e _ b)
theorem vz{l:OpenLaw}{n:Nat}(o:l.most=some n){P:Params}{h:Heap}{args:List WData}{b:List Value}(c:l.row.toRowW.claim.pre args=true)(j:WellAll P h b args):∃a m ns,b=[Value.ref a]/\args=[WData.list (ns.map WData.int)]/\h.get? a=some {cls:=.type "list",data:=.seq m.toArray}/\IntsAre m ns/\ns.length<=n:=by
 have k:WShape.hasAll [] args [.list .int]=true:=(pre_splitW c).1;have hc:l.pre.holds [] {args:=args}=true:=(pre_splitW c).2;obtain⟨d,r,rfl,h1,p⟩:=hasAllW_cons k;obtain rfl:=hasAllW_nil p;obtain⟨xs,rfl,s⟩:=hasW_list h1;obtain⟨ns,rfl⟩:=items_int s;have e:ns.length<=n:=by
  unfold OpenLaw.pre at hc;have g:(WTm.not (.lt (.lit (.int (n:Int))) (.len (.arg 0)))).holds [] {args:=[.list (ns.map .int)]}=true:=by have g:=(holds_andW hc).1;rw[o]at g;exact g
  have i:=condW_of g (w_not (w_lt w_lit (w_len_list (w_arg rfl))));rw[length_map]at i;refine Nat.le_of_not_lt λq=>?_;have t:(n:Int)<((ns.length:Nat):Int):=by omega
  first|(rw[decide_eq_true t]at i;exact absurd i (by decide))|(simp at i;omega)
 cases j with|cons u v=>cases v;cases u with|list ho f=>exact⟨_,_,ns,rfl,rfl,ho,jK ns _ f,e⟩
theorem uU(l:OpenLaw)(args:List WData):l.row.toRowW.claim.post args (.bool true) args=true:=postW_of (r:=l.row.toRowW) (X:=(true==true)) (show WShape.has [] (.bool true) .bool=true by first|rfl|decide|simp[WShape.has,WShape.arms,WShape.armsAll]) (show(WTm.eq .res (.lit (.bool true))).value [] {args:=args,res:=some (.bool true),after:=args}=some (.bool (true==true))from w_eq_bool (w_res rfl) w_lit) rfl
theorem o9{l:OpenLaw}{n:Nat}{q:Program}{c:List Str}{A:(Str->Option Value)->Heap->Prop}{B:World->Heap->Prop}{d:DefRec}(H:l.most=some n)(t:d.params.defaults=[])(call:∀(w:World)(s₀ b:Shared)(mg u:Str->Option Value)(i:Addr)(o:Obj)(v p e:Value)(a:Addr)(h:List Value)(ns:List Int),Ground q c [] A w s₀ mg u b.heap->B w b.heap->b.heap.get? i=some o->o.data=.func (docDef d.name d.params d.body d.scope v p e)->b.heap.CodeRec p d.name->mg d.name=some (.ref i)->b.heap.get? a=some {cls:=.type "list",data:=.seq h.toArray}->IntsAre h ns->ns.length<=n->b.gens=#[]->codeAny (model l.prog w) callerA (.call (.ref i) ⟨[.ref a],[]⟩) (λr s=>r=.ok (.ret (.bool true))/\OldK b.heap s.heap/\s.os=b.os/\AllBare s.gens) b):WalkO q c A B l.row.toRowW d [] (λf h=>PySem.call f h):=by intro w s₀ b mg u G Y i o v p e I kV ho hd x C y J args E as j F L z M;obtain rfl:I=.none:=Dflts.none C t;obtain rfl:kV=.none:=Dflts.noKw C;obtain⟨a,h,ns,rfl,rfl,k,g,m⟩:=vz H j z;refine enter_call (codeAny_mono (call w s₀ b mg u i o v p e a h ns G Y ho (fd_plain hd) x y k g m J) λr s N=>?_);obtain⟨rfl,O,Q,U⟩:=N;exact⟨.inl ⟨.bool true,.bool true,[],rfl,λ_=>rfl,.bool true,uU l _,λ_=>⟨List.Pairwise.nil,λ_ W=>(nomatch W)⟩⟩,O,Q,U⟩
end V5
namespace L2
open PySem PySem.Spec PyProof.Rows
theorem m5:∀{a:List Value}{ns:List Int},IntsAre a ns->Vals (ns.map V.int) a|_,_,.nil=>.nil|_,_,.cons n t h=>.cons ⟨t,rfl⟩ (m5 h)
def Only(H:Hp):Prop:=∀b,H b=none\/∃o xs,H b=some (.dI o (.lst xs))
theorem wL{P:Program}{w:World}{K:PySem.W.Frag}{mg J:Str->Option Value}{CX:xW}{k:Nat}{L a:Addr}{fd:FuncData}{x:Str}{sp:Sp}{c:Shared}{j:List Value}{ns:List Int}(Q:K.In c.heap)(p:c.heap.Ns mainGlobals mg)(f:c.heap.Ns builtinsNs J)(M:∀x:Str,x≠"__name__"->J x=bootBuiltins x)(t:c.heap.NoLimit)(hg:c.gens=#[])(G:c.heap.get? a=some {cls:=.type "list",data:=.seq j.toArray})(hi:IntsAre j ns)(U:ns.length<=sizeLine)(hr:fZ k callerA)(F:∀base:Heap,K.In base->base.Ns mainGlobals mg->gP P w K mg base CX k L fd [x] sp)(l:∀(s:Shared)(u:Value),BindsTo s fd ⟨[u],[]⟩ [(x,u)])(N:∀H:Hp,Only H->cR K H a (ns.map V.int)->sp [.ref a] H (λv _=>v=.bl true) λ_ _ _=>False)(Nv:∀H e g,CX [] H c (λ_ _ _=>False) e g->False):codeAny (model P w) callerA (.call (.ref L) ⟨[.ref a],[]⟩) (λr g=>r=.ok (.ret (.bool true))/\OldK c.heap g.heap/\g.os=c.os/\AllBare g.gens) c:=by
 have X:=m5 hi;have y:=hi.length--from an abstract heap in which nothing but the script may be tracked
 have i:∀H:Hp,Only H->cR K H a (ns.map V.int)->mj P w H c.heap->(∀b,H b≠none->b=a)->(H a≠none->K.lookup a=none)->codeAny (model P w) callerA (.call (.ref L) ⟨[.ref a],[]⟩) (λr g=>r=.ok (.ret (.bool true))/\OldK c.heap g.heap/\g.os=c.os/\AllBare g.gens) c:=by
  intro H Y hS hok Z hK;have uG:∀{b:Addr}{o:Obj},c.heap.get? b=some o->H b=none->(nH c.heap H).get? b=some o:=λe n=>wN e n;have Nu:∀{b:Addr}{o:Obj}{A:Array DictEntry}{B:Nat},c.heap.get? b=some o->o.data=.dict A B->H b=none:=λ{b o A B}e d=>by cases q:H b with|none=>rfl|some u=>have O:b=a:=Z b (by rw[q];simp);subst O;rw[G]at e;cases e;have d':Data.seq j.toArray _=Data.dict A B:=d;cases d'
  have I:∀{b:Addr}{m:Str->Option Value},c.heap.Ns b m->(nH c.heap H).Ns b m:=λ{b m}⟨o,A,B,e,d,r⟩=>⟨o,A,B,uG e (Nu e d),d,r⟩;have V6:K.In (nH c.heap H):=λb o e=>uG (Q b o e) (by cases q:H b with|none=>rfl|some u=>have O:b=a:=Z b (by rw[q];simp);subst O;rw[hK (by rw[q];simp)]at e;cases e);have hM:Mod K mg (nH c.heap H):=⟨V6,I p,⟨J,I f,M⟩,let⟨mc,h1,h2⟩:=t;⟨mc,I h1,h2⟩⟩;have e0:Ag P w K mg (nH c.heap H) callerA [] c H:=⟨rfl,hM,λb o e=>yW e,Nat.le_of_eq (uP _ _),trivial,λb f=>absurd (show b∈([]:List Addr)from f) (by simp),hok,.of_eq hg⟩;refine codeAny_mono ((F _ V6 (I p)).run callerA [] c H ⟨[.ref a],[]⟩ [.ref a] [.ref a] _ _ hr e0 (l c (.ref a)) (.cons rfl .nil) (N H Y hS)) λr g h=>?_;cases r with|error e=>exact(Nv H e g h).elim|ok fl=>cases fl with|next=>exact False.elim h|brk=>exact False.elim h|cont=>exact False.elim h|ret u=>obtain⟨v,H',os,bare,un,C,r',q⟩:=h;have q':v=.bl true:=q;subst q';obtain rfl:u=Value.bool true:=r';refine⟨rfl,OldK.of_keep λb o e=>?_,os,bare⟩;cases q:H b with|none=>exact un.keep b o e q (by intro z;exact absurd (show b∈([]:List Addr)from z) (by simp)) (by simp)|some u=>
        rcases Y b with z|⟨ob,xs,z⟩;.rw[q]at z;cases z
        .have z2:=un.lV b ob _ z;obtain⟨e1,_⟩:=hok b _ z;obtain⟨e2,_⟩:=C b _ z2;rw[e]at e1;cases e1;exact e2
 cases hk:K.lookup a with|some o=>--the script is one of the module's own objects
   have e:=Q a o hk;rw[G]at e;cases e;refine i (λ_=>none) (λ_=>.inl rfl) (.inr ⟨_,j.toArray,_,hk,rfl,rfl,rfl,by rw[size_toArray,y];exact U,by simpa using X⟩) (λb u z=>by have E:(none:Option HO)=some u:=z;cases E) (λb z=>absurd rfl z) λz=>absurd rfl z|none=>
   refine i (λb=>if b=a then some (.dI {cls:=.type "list",data:=.seq j.toArray} (.lst (ns.map V.int)))else none) (λb=>?_) (.inl (.inr ⟨{cls:=.type "list",data:=.seq j.toArray},if_pos rfl⟩)) (λb u z=>?_) (λb z=>?_) λ_=>hk
   . by_cases f:b=a;.exact .inr ⟨_,_,if_pos f⟩
     .exact .inl (if_neg f)
   . by_cases f:b=a;.have E:=(if_pos f).symm.trans z;cases E;subst f;exact⟨G,by rw[length_map];exact U,j,_,X,G⟩
     .have E:=(if_neg f).symm.trans z;cases E
   . by_cases f:b=a;.exact f
     .exact absurd (if_neg f) z
theorem zK{l:PySem.W.OpenLaw}{n k:Nat}{q:Program}{i:List Str}{J:(Str->Option Value)->Heap->Prop}{C:World->Heap->Prop}{d:DefRec}{K:Params->PySem.W.Frag}{CX:World->xW}{sp:World->Sp}{x:Str}(L:l.most=some n)(t:n<=sizeLine)(y:d.params.defaults=[])(hr:fZ k callerA)(M:∀(w:World)(h:Heap),C w h->(K w.params).In h)(F:∀(w:World)(mg:Str->Option Value)(r:Addr)(h:Heap),(K w.params).In h->h.Ns mainGlobals mg->mg d.name=some (.ref r)->∃ fd:FuncData,(∀(s:Shared)(u:Value),BindsTo s fd ⟨[u],[]⟩ [(x,u)])/\∀base:Heap,(K w.params).In base->base.Ns mainGlobals mg->gP l.prog w (K w.params) mg base (CX w) k r fd [x] (sp w))(z:∀(w:World)(H:Hp)(a:Addr)(ns:List Int),ns.length<=n->Only H->cR (K w.params) H a (ns.map V.int)->sp w [.ref a] H (λv _=>v=.bl true) λ_ _ _=>False)(N:∀(w:World)(H:Hp)(s:Shared)(e:Value)(A:Shared),CX w [] H s (λ_ _ _=>False) e A->False):PySem.W.WalkO q i J C l.row.toRowW d [] (λf E=>PySem.call f E):=by refine V5.o9 L y λw s₀ m mg mb r o pm cd O a E ns G Y ho hd Q B p j c U=>?_;have I:=M w _ Y;obtain⟨fd,X,Z⟩:=F w mg r _ I G.T.g B;exact wL I G.T.g G.T.b G.T.builtins G.T.nolimit U p j (le_trans c t) hr Z X (λH hO hS=>z w H a ns c hO hS) λH e A=>N w H m e A
theorem wZ{l:PySem.W.OpenLaw}{n k:Nat}{q:Program}{b:List Str}{p:(Str->Option Value)->Heap->Prop}{m:World->Heap->Prop}{d:DefRec}{K:Params->PySem.W.Frag}{CX:xW}{sp:PySem.W.Frag->Sp}{x:Str}(r:l.most=some n)(c:n<=sizeLine)(g:d.params.defaults=[])(hr:fZ k callerA)(t:∀(w:World)(h:Heap),m w h->(K w.params).In h)(F:∀(w:World)(mg:Str->Option Value)(o:Addr)(h:Heap),(K w.params).In h->h.Ns mainGlobals mg->mg d.name=some (.ref o)->∃ fd:FuncData,(∀(s:Shared)(u:Value),BindsTo s fd ⟨[u],[]⟩ [(x,u)])/\∀base:Heap,(K w.params).In base->base.Ns mainGlobals mg->gP l.prog w (K w.params) mg base CX k o fd [x] (sp (K w.params)))(i:∀(K:PySem.W.Frag)(H:Hp)(a:Addr)(ns:List Int),ns.length<=n->Only H->cR K H a (ns.map V.int)->sp K [.ref a] H (λv _=>v=.bl true) λ_ _ _=>False)(y:∀(H:Hp)(s:Shared)(e:Value)(j:Shared),CX [] H s (λ_ _ _=>False) e j->False):PySem.W.WalkO q b p m l.row.toRowW d [] (λf z=>PySem.call f z):=zK (K:=K) (CX:=λ_=>CX) (sp:=λw=>sp (K w.params)) r c g hr t F (λw H a ns h1 A B=>i (K w.params) H a ns h1 A B) λ_ H s e j=>y H s e j
end L2
namespace L2
open PySem PySem.Spec PyProof.Rows
noncomputable def fG(s:Stmt):Arguments:=match s with|.FunctionDef _ a _ _ _ _ _ _ _ _=>a|_=>{posonlyargs:=[],args:=[],vararg:=none,kwonlyargs:=[],kw_defaults:=[],kwarg:=none,defaults:=[]}
noncomputable def cZ(s:Stmt):List Stmt:=match s with|.FunctionDef _ _ b _ _ _ _ _ _ _=>b|_=>[]
noncomputable def ao(s:Stmt):Scope:=match s with|.FunctionDef _ _ _ _ _ _ a _ _ _=>a|_=>{kind:=.function,names:=[],isGenerator:=false,isCoroutine:=false}
abbrev qD:xW:=λ_ _ _ _ _ _=>False
abbrev E0:XK:=λ_ _ _=>False
theorem Dm{X:Cx}:Passes qD X E0:=λ_ _ _ _ _ _ _ h=>h.elim
structure iw(K:PySem.W.Frag)(x qual:Str)(st:Stmt)(f:Addr)(fd:FuncData):Prop where
 ex:∃(oc:Value)(od:Option Addr)(kV doc pm:Value)(an:Option Addr)(cdv ct:Value)(osl:Array (Option Value)),fd=PySem.W.fnOf x qual (fG st) (cZ st) (ao st) .none kV doc pm an cdv ct/\K.lookup f=some ⟨oc,od,.func fd,osl⟩/\PySem.W.codeIn K cdv qual=true
 kp:keepIn K (.ref f)=true
section
variable{P:Program}{w:World}{K:PySem.W.Frag}{mg:Str->Option Value}{base:Heap}
theorem iw.ok{x qual:Str}{st:Stmt}{f:Addr}{fd:FuncData}{N ps:List Str}{k:Nat}{sp:Sp}(F:iw K x qual st f fd)(S:aL N ps (ao st))(len:∀a H Q E,sp a H Q E->a.length=ps.length)(b:∀(cdv:Value)(A:Around)(outer:List Env)(s:Shared)(H:Hp)(a:List V)(Q:VK)(E:XK),fZ k (A.deeper (envOfC qual (ao st) s.heap.objs.size f cdv))->sp a H Q E->∃t,lY (qi qD P w K mg base N qual (ao st) f cdv A outer s H E).J6 (cZ st) t/\t {nx:=λ_ g=>Q .non g,rt:=Q} (start N a) H):gP P w K mg base qD (k+1) f fd ps sp:=by obtain⟨l,m,kV,i,n,o,cdv,ct,j,rfl,lk,c⟩:=F.ex;refine Lz lk c S len λA outer s H a Q E hr e=>?_;obtain⟨t,h,q⟩:=b cdv A outer s H a Q E hr e;exact⟨t,h.J6,q⟩
theorem iw.binds{x qual:Str}{st:Stmt}{f:Addr}{fd:FuncData}{ps:List Str}(F:iw K x qual st f fd)(h:∀(kV a b:Value)(c:Option Addr)(cdv ct:Value)(e:List Value),e.length=ps.length->bindArgs (PySem.W.fnOf x qual (fG st) (cZ st) (ao st) .none kV a b c cdv ct) ⟨e,[]⟩=pure (ps.zip e)):Binds K fd ps []:=by obtain⟨j,k,kV,a,b,c,cdv,ct,g,rfl,lk,i⟩:=F.ex;exact .all (h kV a b c cdv ct)
theorem HR{x qual:Str}{st:Stmt}{f:Addr}{h:Value}{i e:Option Addr}{b:Array (Option Value)}{kV a g cdv ct:Value}(l:K.lookup f=some ⟨h,i,.func (PySem.W.fnOf x qual (fG st) (cZ st) (ao st) .none kV a g e cdv ct),b⟩)(c:PySem.W.codeIn K cdv qual=true)(k:keepIn K (.ref f)=true):iw K x qual st f (PySem.W.fnOf x qual (fG st) (cZ st) (ao st) .none kV a g e cdv ct):=⟨⟨h,i,kV,a,g,e,cdv,ct,b,rfl,l,c⟩,k⟩
end
def aB(H a:Hp):Prop:=∀b o,H b=some o->a b=some o
theorem aB.refl(H:Hp):aB H H:=λ_ _ h=>h
theorem aB.trans{H e H2:Hp}(a:aB H e)(b:aB e H2):aB H H2:=λc o h=>b c o (a c o h)
theorem aB.seq{K:PySem.W.Frag}{H b:Hp}{a:Addr}{xs:List V}(e:aB H b)(h:cR K H a xs):cR K b a xs:=by
 rcases h with(h|⟨o,h⟩)|h;.exact .inl (.inl (e _ _ h))
 .exact .inl (.inr ⟨o,e _ _ h⟩)
 .exact .inr h
end L2
end
section
namespace HH
open PySem
inductive Dc where|k(kvs:List (Int×Int))|t(kvs:List (List Int×Int))deriving DecidableEq
inductive D where|non|bl(b:Bool)|int(i:Int)|str(s:Str)|tup(ds:List D)|lst(ds:List D)|dC(m:Dc)|dv(ks:List Int)(ds:List D)deriving Inhabited
mutual
noncomputable def fY:D->D->Bool|.non,.non=>true|.bl a,.bl b=>a==b|.bl a,.int i=>(if a then(1:Int)else 0)==i|.int i,.bl a=>i==(if a then(1:Int)else 0)|.int i,.int j=>i==j|.str a,.str b=>a==b|.tup xs,.tup ys=>gk xs ys|.lst xs,.lst ys=>gk xs ys|.dC a,.dC b=>decide (a=b)|.dv a xs,.dv b ys=>decide (a=b)&&gk xs ys|_,_=>false
noncomputable def gk:List D->List D->Bool|[],[]=>true|x::xs,y::ys=>fY x y&&gk xs ys|_,_=>false
end
theorem iJ:gk [] []=true:=rfl
theorem gh{x y:D}{xs ys:List D}:gk (x::xs) (y::ys)=(fY x y&&gk xs ys):=rfl
theorem lF{y:D}{ys:List D}:gk [] (y::ys)=false:=rfl
theorem kJ{x:D}{xs:List D}:gk (x::xs) []=false:=rfl
theorem Vs{i j}:fY (.int i) (.int j)=(i==j):=(rfl)
theorem Vy{x y}:fY (.tup x) (.tup y)=gk x y:=(rfl)
theorem Qe{x y}:fY (.lst x) (.lst y)=gk x y:=(rfl)
noncomputable def eV:Nat->D->Bool|_,.non=>true|_,.bl _=>true|_,.int _=>true|_,.str _=>true|0,.tup _=>false|0,.lst _=>false|_,.dC _=>false|_,.dv _ _=>false|n+1,.tup a=>a.all (eV n)|n+1,.lst a=>a.all (eV n)
theorem bf{n:Nat}{a:List D}:eV (n+1) (.tup a)=a.all (eV n):=rfl
theorem aW{n:Nat}{a:List D}:eV (n+1) (.lst a)=a.all (eV n):=rfl
theorem bz{n:Nat}{m:Dc}:eV n (.dC m)=false:=by cases n<;>rfl
theorem bj{n:Nat}{k:List Int}{a:List D}:eV n (.dv k a)=false:=by cases n<;>rfl
theorem bw{a:List D}:eV 0 (.tup a)=false:=rfl
theorem bh{a:List D}:eV 0 (.lst a)=false:=rfl
inductive Sl where|aC|val(b:Bool)(d:D)|own(b:Bool)(ds:List D)|lent(ds:List D)|oU(m:Dc)|hold(rows:List (List D))|oV(kvs:List (Int×D))deriving Inhabited
inductive R where|val(d:D)|own(ds:List D)deriving Inhabited
noncomputable def R.d:R->D|.val d=>d|.own a=>.lst a
inductive Res(α:Type)where|ok(a:α)(ρ:List Sl)|exc(k:Nat)(ρ:List Sl)|stuck deriving Inhabited
noncomputable def Res.bind{b c:Type}(f:b->List Sl->Res c):Res b->Res c|.ok a ρ=>f a ρ|.exc _ _=>.stuck|.stuck=>.stuck
noncomputable def lift{b:Type}(o:Option b)(ρ:List Sl):Res b:=match o with|some a=>.ok a ρ|none=>.stuck
inductive Op where|add|sub|mul|fdiv|mod|pow|shl|shr|band|Uh|din|Ui|inR|Uj deriving DecidableEq
inductive Cm where|eq|ne|lt|le|gt|ge|yS|yD|inn|Ny|V7|Nz|leT|geT deriving DecidableEq
inductive Ty where|int|bool|str|tuple|list|none deriving DecidableEq
inductive Ov where|len|list|tuple|max2|sum|all|abs|int deriving DecidableEq
inductive P where|var(i:Nat)|con(d:D)|glob(x:Str)(d:D)|bin(o:Op)(a b:P)|neg(a:P)|not(a:P)|and(a b:P)|or(a b:P)|cmp(o:Cm)(a b:P)|chain(o o':Cm)(a b c:P)|Dy(c a b:P)|tup(as:List P)|lst(as:List P)|idx(a i:P)|slice(a lo hi:P)|call(f:Nat)(as:List P)|blt(b:Ov)(as:List P)|inst(ts:List Ty)(a:P)|comp(src:P)(n:Nat)(is:List Nat)(one:Bool)(test:Option P)(elt:P)|vH(a b:P)|zip(a b:P)|vw(x:Nat)deriving Inhabited
noncomputable abbrev lim:Nat:=16777216
noncomputable def lR:D->D->Option R|.int i,.int j=>some (.val (.int (i+j)))|.lst xs,.lst ys=>if xs.length+ys.length<=lim then some (.own (xs++ys))else none|.tup xs,.tup ys=>if xs.length+ys.length<=lim then some (.val (.tup (xs++ys)))else none|.str x,.str y=>if x.length+y.length<=lim then some (.val (.str (x++y)))else none|_,_=>none
noncomputable def kh:D->D->Option R|.int i,.int j=>if((-18446744073709551616<i/\i<18446744073709551616)\/(-18446744073709551616<j/\j<18446744073709551616))then some (.val (.int (i*j)))else none|.lst xs,.int k=>if 0<=k/\0<xs.length/\xs.length*k.toNat<=lim then some (.own (replicate k.toNat xs).flatten)else none|.tup xs,.int k=>if 0<=k/\0<xs.length/\xs.length*k.toNat<=lim then some (.val (.tup (replicate k.toNat xs).flatten))else none|_,_=>none
noncomputable def pC:D->D->Option R|.int i,.int j=>some (.val (.int (i-j)))|_,_=>none
noncomputable def j6:D->D->Option R|.int i,.int j=>if 0<j/\j<1606938044258990275541962092341162602522202993782792835301376 then some (.val (.int (i/j)))else none|_,_=>none
noncomputable def pM:D->D->Option R|.int i,.int j=>if 0<j then some (.val (.int (i%j)))else none|_,_=>none
noncomputable def pR:D->D->Option R|.int i,.int j=>if 0<=j/\j<=1000/\i.natAbs<18446744073709551616 then some (.val (.int (i^j.toNat)))else none|_,_=>none
noncomputable def vI:D->D->Option R|.int i,.int j=>if 0<=j/\j<=1000/\i.natAbs<18446744073709551616 then some (.val (.int (i*2^j.toNat)))else none|_,_=>none
noncomputable def wQ:D->D->Option R|.int i,.int j=>if 0<=j then some (.val (.int (i/2^j.toNat)))else none|_,_=>none
noncomputable def qT:D->D->Option R|.int i,.int j=>some (.val (.int (Builtin.bitAnd i j)))|_,_=>none
noncomputable def flat:D->Bool|.tup _=>false|.lst _=>false|.dC _=>false|.dv _ _=>false|_=>true
noncomputable def items:D->Option (List D)|.lst a=>some a|.tup a=>some a|_=>none
noncomputable def GR:D->Option (List D)|.tup a=>some a|_=>none
noncomputable def v7(x y:D):Option Bool:=if eV 8 x&&eV 8 y then some (fY x y)else none
noncomputable def vL(x y:D):Option Bool:=if eV 8 x&&eV 8 y then some (!fY x y)else none
noncomputable def De(f:Int->Int->Bool):D->D->Option Bool|.int i,.int j=>some (f i j)|_,_=>none
noncomputable def gO:D->Bool|.non=>true|_=>false
noncomputable def Jx(neg:Bool)(x:D):D->Option Bool|.non=>some (if neg then !gO x else gO x)|_=>none
noncomputable def Be(neg:Bool)(x y:D):Option Bool:=(items y).bind λys=>if(flat x&&ys.all flat)=true then some (if neg then !(ys.any λy=>fY y x)else ys.any λy=>fY y x)else none
noncomputable def Vv(neg:Bool):D->D->Option Bool|.bl b,.bl true=>some (if neg then !b else b)|.bl b,.bl false=>some (if neg then b else !b)|_,_=>none
noncomputable def dz:List Int->List Int->Bool|[],_::_=>true|i::a,j::b=>decide (i<j)||(decide (i=j)&&dz a b)|_,[]=>false
noncomputable def nQ:D->Int|.int i=>i|_=>0
noncomputable def lL:D->List Int|.int i=>[i]|.tup a=>a.map nQ|_=>[]
noncomputable def cJ:D->Bool|.int _=>true|_=>false
noncomputable def Dc.get:Dc->D->Option (Option Int)|.k a,.int i=>some ((a.find? λb=>decide (b.1=i)).map (·.2))|_,_=>none
noncomputable def putD{c:Type}[DecidableEq c](a:List (c×Int))(k:c)(v:Int):List (c×Int):=if(a.any λb=>decide (b.1=k))=true then a.map (λb=>if b.1=k then(b.1,v)else b)else a++[(k,v)]
noncomputable def Dc.put:Dc->D->Int->Option Dc|.k a,.int i,v=>if a.length<lim then some (.k (putD a i v))else none|_,_,_=>none
noncomputable def Rr(a:List (Int×D))(k:Int):Option D:=(a.find? λp=>decide (p.1=k)).map (·.2)
noncomputable def vput(a:List (Int×D))(k:Int)(d:D):List (Int×D):=if(a.any λp=>decide (p.1=k))=true then a.map (λp=>if p.1=k then(p.1,d)else p)else a++[(k,d)]
noncomputable def MT(a:Bool):D->D->Option R|.int i,.int j=>some (.val (.bl (a !=decide (0<=i/\i<j))))|_,_=>none
noncomputable def Mt(neg:Bool):D->D->Option R|.int k,.dv a _=>some (.val (.bl (if neg then !a.contains k else a.contains k)))|_,_=>none
noncomputable def Mq:D->D->Option R|.dC m,k=>(m.get k).bind λo=>o.map λv=>.val (.int v)|.dv a b,.int k=>(Rr (a.zip b) k).map .val|_,_=>none
noncomputable def o5:Op->D->D->Option R|.add=>lR|.mul=>kh|.sub=>pC|.fdiv=>j6|.mod=>pM|.pow=>pR|.shl=>vI|.shr=>wQ|.band=>qT|.Uh=>Mq|.din=>Mt false|.Ui=>Mt true|.inR=>MT false|.Uj=>MT true
noncomputable def R7:D->D->Option Bool|.int i,.int j=>some (decide (i<j))|.tup xs,.tup ys=>if(xs.all cJ&&ys.all cJ)=true then some (dz (xs.map nQ) (ys.map nQ))else none|_,_=>none
noncomputable def R0:D->D->Option Bool|.int i,.int j=>some (decide (i<=j))|.tup xs,.tup ys=>if(xs.all cJ&&ys.all cJ)=true then some (!dz (ys.map nQ) (xs.map nQ))else none|_,_=>none
noncomputable def Tu:D->D->Option Bool|.tup xs,.tup ys=>if(xs.all cJ&&ys.all cJ)=true then some (!dz (xs.map nQ) (ys.map nQ))else none|_,_=>none
noncomputable def cm:Cm->D->D->Option Bool|.eq=>v7|.ne=>vL|.lt=>R7|.le=>De λi j=>decide (i<=j)|.leT=>R0|.geT=>Tu|.gt=>De λi j=>decide (j<i)|.ge=>De λi j=>decide (j<=i)|.yS=>Jx false|.yD=>Jx true|.inn=>Be false|.Ny=>Be true|.V7=>Vv false|.Nz=>Vv true
noncomputable def mC(o:Cm)(x y:D):Option R:=(cm o x y).map λk=>.val (.bl k)
noncomputable def jt(n:Nat)(i:Int):Option Nat:=if 0<=i then(if i<n then some i.toNat else none)else if-(n:Int)<=i then some (i+n).toNat else none
noncomputable def at'{a:Type}(xs:List a)(i:Int):Option a:=(jt xs.length i).bind λj=>xs[j]?
noncomputable def cH(n d:Nat):Option Int->Nat|none=>d|some i=>if 0<=i then min i.toNat n else(i+n).toNat
noncomputable def cut{a:Type}(xs:List a)(lo hi:Option Int):List a:=(xs.drop (cH xs.length 0 lo)).take (cH xs.length xs.length hi-cH xs.length 0 lo)
noncomputable def lZ:D->Option Int|.int i=>some i|_=>none
noncomputable def u6:D->Option Bool|.bl b=>some b|_=>none
noncomputable def dl2(k e:Int)(x y:D):Option R:=(lZ x).bind λi=>(lZ y).bind λj=>if i=k then none else some (.val (.dv [k,i] [.int e,.int j]))
noncomputable def lixR:D->D->Option R|.lst a,.int i=>(a.mapM lZ).bind λns=>if i∈ns/\ns.length<=1000 then some (.val (.int (ns.idxOf i)))else none|_,_=>none
noncomputable def sH(x y:D):Option R:=(items x).bind λa=>(lZ y).bind λi=>(at' a i).map .val
noncomputable def wz(x:D):Option R:=(lZ x).map λi=>.val (.int (-i))
noncomputable def HY:P->Bool|.con .non=>true|_=>false
noncomputable def part(p:P)(d:D):Option (Option Int):=if HY p then some none else(lZ d).map some
noncomputable def Dl:D->Option (Option Int)->Option (Option Int)->Option R|.lst xs,some lo,some hi=>some (.own (cut xs lo hi))|.tup xs,some lo,some hi=>some (.val (.tup (cut xs lo hi)))|_,_,_=>none
noncomputable def bA:Ty->D->Bool|.int,.int _=>true|.int,.bl _=>true|.bool,.bl _=>true|.str,.str _=>true|.tuple,.tup _=>true|.list,.lst _=>true|.none,.non=>true|_,_=>false
noncomputable def qN:D->Bool|.tup (x::xs)=>(x::xs).all cJ|_=>false
noncomputable def sortable(ds:List D):Bool:=decide (ds.length<=16777216)&&(ds.all cJ||ds.all qN)
noncomputable def QC(c:List D):List D:=c.mergeSort λa b=>!dz (lL b) (lL a)
noncomputable def ordP:D->Bool|.tup [.int _,.tup a]=>a.all cJ|_=>false
noncomputable def flP:D->D|.tup [.int h,.tup a]=>.tup (.int h::a)|d=>d
noncomputable def ufP:D->D|.tup (.int h::a)=>.tup [.int h,.tup a]|d=>d
noncomputable def qO:D->Option (List D)|.lst a=>some a|_=>none
noncomputable def Br(p:Int×Int):D:=.tup [.int p.1,.int p.2]
noncomputable def blt:Ov->List D->Option R|.len,[x]=>(items x).map λa=>.val (.int a.length)|.list,[x]=>(items x).map λa=>.own a|.tuple,[x]=>(items x).map λa=>.val (.tup a)|.max2,[.int i,.int j]=>some (.val (.int (if i<j then j else i)))|.sum,[x]=>((items x).bind λa=>a.mapM lZ).map λns=>.val (.int ns.sum)|.all,[x]=>((qO x).bind λa=>a.mapM u6).map λbs=>.val (.bl (bs.all id))|.abs,[.int i]=>some (.val (.int (if i<0 then-i else i)))|.int,[.int i]=>some (.val (.int i))|.int,[.bl b]=>some (.val (.int (if b then 1 else 0)))|_,_=>none
noncomputable def pk(ρ:List Sl)(i:Nat):Option D:=match ρ[i]?with|some (.val _ d)=>some d|some (.own _ a)=>some (.lst a)|some (.lent a)=>some (.lst a)|_=>none
noncomputable def M5(ρ:List Sl)(i:Nat):Option (List D):=match pk ρ i with|some (.lst a)=>some a|_=>none
noncomputable abbrev Ev:=List Sl->Res R
noncomputable def isVar:P->Option Nat|.var i=>some i|_=>none
noncomputable def fU(i:Option Nat)(e:Ev)(ρ:List Sl):Res D:=match i with|some i=>lift (pk ρ i) ρ|none=>(e ρ).bind λr ρ=>.ok r.d ρ
noncomputable def gF(i:Option Nat)(e:Ev)(j:Option Nat)(f:Ev)(ρ:List Sl):Res (D×D):=match i with|some i=>(lift (pk ρ i) ρ).bind λ_ ρ=>(fU j f ρ).bind λy ρ=>(lift (pk ρ i) ρ).bind λx ρ=>.ok (x,y) ρ|none=>(fU none e ρ).bind λx ρ=>(fU j f ρ).bind λy ρ=>.ok (x,y) ρ
noncomputable def iK(e:Ev)(ρ:List Sl):Res Bool:=(e ρ).bind λr ρ=>lift (u6 r.d) ρ
inductive Arg where|dat(d:D)|tmp(ds:List D)|dq(i:Nat)
noncomputable def m7:R->Arg|.val d=>.dat d|.own a=>.tmp a
noncomputable def bF(ρ:List Sl):List Arg->List Nat->Option (List Sl)|[],_=>some []|.dat d::r,a=>(bF ρ r a).map λs=>.val false d::s|.tmp b::r,a=>(bF ρ r a).map λs=>.own false b::s|.dq i::r,a=>match ρ[i]?with|some (.val _ d)=>(bF ρ r a).map λs=>.val false d::s|some (.own _ b)=>if a.contains i then none else(bF ρ r (i::a)).map λs=>.own true b::s|some (.lent b)=>if a.contains i then none else(bF ρ r (i::a)).map λs=>.lent b::s|_=>none
theorem qX{ρ:List Sl}{u:List Nat}:bF ρ [] u=some []:=rfl
theorem qQ{ρ:List Sl}{d:D}{r:List Arg}{u:List Nat}:bF ρ (.dat d::r) u=(bF ρ r u).map λs=>.val false d::s:=rfl
theorem rA{ρ:List Sl}{d:List D}{r:List Arg}{u:List Nat}:bF ρ (.tmp d::r) u=(bF ρ r u).map λs=>.own false d::s:=rfl
theorem kW{ρ:List Sl}{i:Nat}{r:List Arg}{u:List Nat}:bF ρ (.dq i::r) u=match ρ[i]?with|some (.val _ d)=>(bF ρ r u).map λs=>.val false d::s|some (.own _ a)=>if u.contains i then none else(bF ρ r (i::u)).map λs=>.own true a::s|some (.lent a)=>if u.contains i then none else(bF ρ r (i::u)).map λs=>.lent a::s|_=>none:=rfl
noncomputable def aK(i:Nat):List Arg->List Sl->Option Sl|.dq k::as,s::ss=>if k=i then some s else aK i as ss|.dat _::as,_::ss=>aK i as ss|.tmp _::as,_::ss=>aK i as ss|_,_=>none
noncomputable def dj:Sl->Option Sl->Sl|.own b _,some (.own _ a)=>.own b a|.own b _,some (.val _ d)=>.val b d|s,_=>s
noncomputable def cT(as:List Arg)(ss:List Sl):Nat->List Sl->List Sl|_,[]=>[]|i,s::ρ=>dj s (aK i as ss)::cT as ss (i+1) ρ
theorem lr{as:List Arg}{ss:List Sl}{i:Nat}:cT as ss i []=[]:=rfl
theorem iD{as:List Arg}{ss:List Sl}{i:Nat}{s:Sl}{ρ:List Sl}:cT as ss i (s::ρ)=dj s (aK i as ss)::cT as ss (i+1) ρ:=rfl
noncomputable abbrev Call:=Nat->List Sl->Res R
noncomputable def j7(c:Call)(f:Nat)(as:List Arg)(ρ:List Sl):Res R:=match bF ρ as []with|none=>.stuck|some args=>match c f args with|.ok r a=>.ok r (cT as a 0 ρ)|.exc _ _=>.stuck|.stuck=>.stuck
noncomputable def put(ρ:List Sl)(i:Nat)(s:Sl):Option (List Sl):=match ρ[i]?with|some .aC=>some (ρ.set i s)|some (.val false _)=>some (ρ.set i s)|some (.own false _)=>some (ρ.set i s)|_=>none
noncomputable def putAll(ρ:List Sl):List Nat->List D->Option (List Sl)|[],[]=>some ρ|i::a,d::b=>(put ρ i (.val false d)).bind λρ=>putAll ρ a b|_,_=>none
theorem gK{ρ:List Sl}:putAll ρ [] []=some ρ:=rfl
theorem gb{ρ:List Sl}{i:Nat}{a:List Nat}{d:D}{b:List D}:putAll ρ (i::a) (d::b)=(put ρ i (.val false d)).bind λρ=>putAll ρ a b:=rfl
theorem jq{ρ:List Sl}{i:Nat}{a:List Nat}:putAll ρ (i::a) []=none:=rfl
theorem jr{ρ:List Sl}{d:D}{a:List D}:putAll ρ [] (d::a)=none:=rfl
noncomputable def bQ(ρ:List Sl)(a:List Nat)(one:Bool)(d:D):Option (List Sl):=match one,a,d with|true,[i],d=>put ρ i (.val false d)|false,a,.tup b=>putAll ρ a b|_,_,_=>none
noncomputable def srcOf(i:Option Nat)(e:Ev)(ρ:List Sl):Res (List D):=match i with
 |some i=>match ρ[i]?with|some (.val _ d)=>lift (items d) ρ|some (.own _ a)=>.ok a (ρ.set i (.lent a))|some (.lent a)=>.ok a ρ|_=>.stuck
 |none=>(e ρ).bind λr ρ=>lift (items r.d) ρ
noncomputable def bB(a:List Sl)(i:Option Nat)(ρ:List Sl):List Sl:=match i with
 |some i=>match a[i]?with|some (.own b c)=>ρ.set i (.own b c)|_=>ρ
 |none=>ρ
noncomputable def srcY(i:Nat)(f:Ev)(ρ:List Sl):Res (List D×List Sl):=(f ρ).bind λr a=>(lift (items r.d) a).bind λc a=>match a[i]?with|some (.val _ d)=>(lift (items d) a).bind λb a=>.ok ((c.zip b).map λp=>D.tup [p.1,p.2],a) a|some (.own _ b)=>.ok ((c.zip b).map λp=>D.tup [p.1,p.2],a) (a.set i (.lent b))|some (.lent b)=>.ok ((c.zip b).map λp=>D.tup [p.1,p.2],a) a|_=>.stuck
noncomputable def turns(f:List Nat)(one:Bool)(a:List Sl->Res Bool)(e:Ev):List D->List D->List Sl->Res (List D)|[],c,ρ=>.ok c ρ|d::r,c,ρ=>match bQ ρ f one d with|none=>.stuck|some ρ=>(a ρ).bind λb ρ=>if b then(e ρ).bind λx ρ=>turns f one a e r (c++[x.d]) ρ else turns f one a e r c ρ
theorem rM{b:List Nat}{o:Bool}{f:List Sl->Res Bool}{e:Ev}{a:List D}{ρ:List Sl}:turns b o f e [] a ρ=.ok a ρ:=rfl
theorem sG{c:List Nat}{o:Bool}{f:List Sl->Res Bool}{e:Ev}{d:D}{r a:List D}{ρ:List Sl}:turns c o f e (d::r) a ρ=match bQ ρ c o d with|none=>.stuck|some ρ=>(f ρ).bind λb ρ=>if b then(e ρ).bind λx ρ=>turns c o f e r (a++[x.d]) ρ else turns c o f e r a ρ:=rfl
mutual
noncomputable def ev(c:Call):P->List Sl->Res R
 |.var i,ρ=>match ρ[i]?with|some (.val _ d)=>.ok (.val d) ρ|some (.own b g)=>.ok (.val (.lst g)) (ρ.set i (.val b (.lst g)))|some (.oU (.k e))=>.ok (.val (.dC (.k e))) (ρ.set i (.val false (.dC (.k e))))|some (.oV e)=>.ok (.val (.dv (e.map (·.1)) (e.map (·.2)))) (ρ.set i (.val false (.dv (e.map (·.1)) (e.map (·.2)))))|_=>.stuck
 |.con d,ρ=>.ok (.val d) ρ|.glob _ d,ρ=>.ok (.val d) ρ|.bin o a b,ρ=>(gF (isVar a) (ev c a) (isVar b) (ev c b) ρ).bind λq ρ=>lift (o5 o q.1 q.2) ρ|.neg a,ρ=>(fU (isVar a) (ev c a) ρ).bind λx ρ=>lift (wz x) ρ|.not a,ρ=>(iK (ev c a) ρ).bind λb ρ=>.ok (.val (.bl (!b))) ρ|.and a b,ρ=>(iK (ev c a) ρ).bind λx ρ=>if x then(iK (ev c b) ρ).bind λy ρ=>.ok (.val (.bl y)) ρ else .ok (.val (.bl false)) ρ|.or a b,ρ=>(iK (ev c a) ρ).bind λx ρ=>if x then .ok (.val (.bl true)) ρ else(iK (ev c b) ρ).bind λy ρ=>.ok (.val (.bl y)) ρ|.cmp o a b,ρ=>(gF (isVar a) (ev c a) (isVar b) (ev c b) ρ).bind λq ρ=>lift (mC o q.1 q.2) ρ|.chain o A a b d,ρ=>(gF (isVar a) (ev c a) (isVar b) (ev c b) ρ).bind λq ρ=>(lift (if flat q.2=true then cm o q.1 q.2 else none) ρ).bind λk ρ=>if k then(fU (isVar d) (ev c d) ρ).bind λz ρ=>lift (mC A q.2 z) ρ else .ok (.val (.bl false)) ρ|.Dy t a b,ρ=>(iK (ev c t) ρ).bind λk ρ=>if k then(ev c a ρ).bind λr ρ=>.ok (.val r.d) ρ else(ev c b ρ).bind λr ρ=>.ok (.val r.d) ρ|.tup as,ρ=>(evs c as ρ).bind λg ρ=>.ok (.val (.tup g)) ρ|.lst as,ρ=>(evs c as ρ).bind λg ρ=>.ok (.own g) ρ|.idx a i,ρ=>(gF (isVar a) (ev c a) (isVar i) (ev c i) ρ).bind λq ρ=>lift (sH q.1 q.2) ρ|.slice a l h,ρ=>match isVar a with|some i=>(lift (pk ρ i) ρ).bind λ_ ρ=>(fU (isVar l) (ev c l) ρ).bind λy ρ=>(fU (isVar h) (ev c h) ρ).bind λz ρ=>(lift (pk ρ i) ρ).bind λx ρ=>lift (Dl x (part l y) (part h z)) ρ|none=>(fU none (ev c a) ρ).bind λx ρ=>(fU (isVar l) (ev c l) ρ).bind λy ρ=>(fU (isVar h) (ev c h) ρ).bind λz ρ=>lift (Dl x (part l y) (part h z)) ρ
 |.call f as,ρ=>(rN c as ρ).bind λxs ρ=>j7 c f xs ρ|.blt b [a],ρ=>(fU (isVar a) (ev c a) ρ).bind λx ρ=>lift (blt b [x]) ρ|.blt b as,ρ=>(evs c as ρ).bind λg ρ=>lift (blt b g) ρ|.inst B a,ρ=>(fU (isVar a) (ev c a) ρ).bind λx ρ=>.ok (.val (.bl (B.any λt=>bA t x))) ρ|.comp src n C one v w,ρ=>(srcOf (isVar src) (ev c src) ρ).bind λg s=>if g.length<=lim then(turns C one (jW c v) (ev c w) g [] (s++replicate n .aC)).bind λxs u=>.ok (.own xs) (bB ρ (isVar src) (u.take s.length))else .stuck|.vH a b,ρ=>(gF (isVar a) (ev c a) (isVar b) (ev c b) ρ).bind λq ρ=>lift ((lZ q.1).bind λi=>(lZ q.2).bind λj=>if-1000000<=i/\i<=1000000000/\j<=1000000000/\-1000000000<=j then some (.val (.lst ((List.range (j-i).toNat).map λ(k:Nat)=>D.int (i+(k:Int)))))else none) ρ|.zip a b,ρ=>(ev c a ρ).bind λx ρ=>(ev c b ρ).bind λy ρ=>lift ((items x.d).bind λg=>(items y.d).map λE=>.val (.lst ((g.zip E).map λp=>D.tup [p.1,p.2]))) ρ|.vw x,ρ=>match ρ[x]?with|some (.oU m)=>.ok (.val (.dC m)) (ρ.set x (.val false (.dC m)))|some (.oV e)=>.ok (.val (.dv (e.map (·.1)) (e.map (·.2)))) (ρ.set x (.val false (.dv (e.map (·.1)) (e.map (·.2)))))|some (.own b g)=>.ok (.val (.lst g)) (ρ.set x (.val b (.lst g)))|some (.val _ d)=>.ok (.val d) ρ|_=>.stuck
noncomputable def evs(c:Call):List P->List Sl->Res (List D)|[],ρ=>.ok [] ρ|a::r,ρ=>(ev c a ρ).bind λx ρ=>(evs c r ρ).bind λxs ρ=>.ok (x.d::xs) ρ
noncomputable def rN(c:Call):List P->List Sl->Res (List Arg)|[],ρ=>.ok [] ρ|a::r,ρ=>match isVar a with|some i=>(lift (pk ρ i) ρ).bind λ_ ρ=>(rN c r ρ).bind λxs ρ=>.ok (.dq i::xs) ρ|none=>(ev c a ρ).bind λx ρ=>(rN c r ρ).bind λxs ρ=>.ok (m7 x::xs) ρ
noncomputable def jW(c:Call):Option P->List Sl->Res Bool|none,ρ=>.ok true ρ|some t,ρ=>iK (ev c t) ρ
end
theorem yl{c:Call}{ρ:List Sl}:evs c [] ρ=.ok [] ρ:=rfl
theorem nG{c:Call}{a:P}{r:List P}{ρ:List Sl}:evs c (a::r) ρ=(HH.ev c a ρ).bind λx ρ=>(evs c r ρ).bind λxs ρ=>.ok (x.d::xs) ρ:=rfl
theorem xN{c:Call}{ρ:List Sl}:rN c [] ρ=.ok [] ρ:=rfl
theorem qY{c:Call}{a:P}{r:List P}{ρ:List Sl}:rN c (a::r) ρ=match isVar a with|some i=>(lift (pk ρ i) ρ).bind λ_ ρ=>(rN c r ρ).bind λxs ρ=>.ok (.dq i::xs) ρ|none=>(HH.ev c a ρ).bind λx ρ=>(rN c r ρ).bind λxs ρ=>.ok (m7 x::xs) ρ:=rfl
theorem E1{c i ρ}:ev c (.var i) ρ=match ρ[i]?with|some (.val _ d)=>.ok (.val d) ρ|some (.own b e)=>.ok (.val (.lst e)) (ρ.set i (.val b (.lst e)))|some (.oU (.k a))=>.ok (.val (.dC (.k a))) (ρ.set i (.val false (.dC (.k a))))|some (.oV a)=>.ok (.val (.dv (a.map (·.1)) (a.map (·.2)))) (ρ.set i (.val false (.dv (a.map (·.1)) (a.map (·.2)))))|_=>.stuck:=(rfl)
theorem E2{c d ρ}:ev c (.con d) ρ=.ok (.val d) ρ:=(rfl)
theorem E3{c w1 d ρ}:ev c (.glob w1 d) ρ=.ok (.val d) ρ:=(rfl)
theorem E4{c o a b ρ}:ev c (.bin o a b) ρ=(gF (isVar a) (ev c a) (isVar b) (ev c b) ρ).bind λe ρ=>lift (o5 o e.1 e.2) ρ:=(rfl)
theorem E5{c a ρ}:ev c (.neg a) ρ=(fU (isVar a) (ev c a) ρ).bind λx ρ=>lift (wz x) ρ:=(rfl)
theorem E6{c a ρ}:ev c (.not a) ρ=(iK (ev c a) ρ).bind λb ρ=>.ok (.val (.bl (!b))) ρ:=(rfl)
theorem E7{c a b ρ}:ev c (.and a b) ρ=(iK (ev c a) ρ).bind λx ρ=>if x then(iK (ev c b) ρ).bind λy ρ=>.ok (.val (.bl y)) ρ else .ok (.val (.bl false)) ρ:=(rfl)
theorem E8{c a b ρ}:ev c (.or a b) ρ=(iK (ev c a) ρ).bind λx ρ=>if x then .ok (.val (.bl true)) ρ else(iK (ev c b) ρ).bind λy ρ=>.ok (.val (.bl y)) ρ:=(rfl)
theorem E9{c o a b ρ}:ev c (.cmp o a b) ρ=(gF (isVar a) (ev c a) (isVar b) (ev c b) ρ).bind λe ρ=>lift (mC o e.1 e.2) ρ:=(rfl)
theorem E10{c o o' a b d ρ}:ev c (.chain o o' a b d) ρ=(gF (isVar a) (ev c a) (isVar b) (ev c b) ρ).bind λe ρ=>(lift (if flat e.2=true then cm o e.1 e.2 else none) ρ).bind λk ρ=>if k then(fU (isVar d) (ev c d) ρ).bind λz ρ=>lift (mC o' e.2 z) ρ else .ok (.val (.bl false)) ρ:=(rfl)
theorem E11{c t a b ρ}:ev c (.Dy t a b) ρ=(iK (ev c t) ρ).bind λk ρ=>if k then(ev c a ρ).bind λr ρ=>.ok (.val r.d) ρ else(ev c b ρ).bind λr ρ=>.ok (.val r.d) ρ:=(rfl)
theorem E12{c as ρ}:ev c (.tup as) ρ=(evs c as ρ).bind λa ρ=>.ok (.val (.tup a)) ρ:=(rfl)
theorem E13{c as ρ}:ev c (.lst as) ρ=(evs c as ρ).bind λa ρ=>.ok (.own a) ρ:=(rfl)
theorem E14{c a i ρ}:ev c (.idx a i) ρ=(gF (isVar a) (ev c a) (isVar i) (ev c i) ρ).bind λb ρ=>lift (sH b.1 b.2) ρ:=(rfl)
theorem E15{c a l h ρ}:ev c (.slice a l h) ρ=match isVar a with|some i=>(lift (pk ρ i) ρ).bind λ_ ρ=>(fU (isVar l) (ev c l) ρ).bind λy ρ=>(fU (isVar h) (ev c h) ρ).bind λz ρ=>(lift (pk ρ i) ρ).bind λx ρ=>lift (Dl x (part l y) (part h z)) ρ|none=>(fU none (ev c a) ρ).bind λx ρ=>(fU (isVar l) (ev c l) ρ).bind λy ρ=>(fU (isVar h) (ev c h) ρ).bind λz ρ=>lift (Dl x (part l y) (part h z)) ρ:=(rfl)
theorem E16{c f as ρ}:ev c (.call f as) ρ=(rN c as ρ).bind λxs ρ=>j7 c f xs ρ:=(rfl)
theorem E17{c b a ρ}:ev c (.blt b [a]) ρ=(fU (isVar a) (ev c a) ρ).bind λx ρ=>lift (blt b [x]) ρ:=(rfl)
theorem E18{c b x y r ρ}:ev c (.blt b (x::y::r)) ρ=(evs c (x::y::r) ρ).bind λa ρ=>lift (blt b a) ρ:=(rfl)
theorem Lj{c b ρ}:ev c (.blt b []) ρ=(evs c [] ρ).bind λa ρ=>lift (blt b a) ρ:=(rfl)
theorem E19{c ts a ρ}:ev c (.inst ts a) ρ=(fU (isVar a) (ev c a) ρ).bind λx ρ=>.ok (.val (.bl (ts.any λt=>bA t x))) ρ:=(rfl)
theorem E20{c src n is one test elt ρ}:ev c (.comp src n is one test elt) ρ=(srcOf (isVar src) (ev c src) ρ).bind λe a=>if e.length<=lim then(turns is one (jW c test) (ev c elt) e [] (a++replicate n .aC)).bind λxs b=>.ok (.own xs) (bB ρ (isVar src) (b.take a.length))else .stuck:=(rfl)
theorem E21{c a b ρ}:ev c (.vH a b) ρ=(gF (isVar a) (ev c a) (isVar b) (ev c b) ρ).bind λe ρ=>lift ((lZ e.1).bind λi=>(lZ e.2).bind λj=>if-1000000<=i/\i<=1000000000/\j<=1000000000/\-1000000000<=j then some (.val (.lst ((List.range (j-i).toNat).map λ(k:Nat)=>D.int (i+(k:Int)))))else none) ρ:=(rfl)
theorem E22{c a b ρ}:ev c (.zip a b) ρ=(ev c a ρ).bind λx ρ=>(ev c b ρ).bind λy ρ=>lift ((items x.d).bind λe=>(items y.d).map λf=>.val (.lst ((e.zip f).map λp=>D.tup [p.1,p.2]))) ρ:=(rfl)
theorem E23{c x ρ}:ev c (.vw x) ρ=match ρ[x]?with|some (.oU m)=>.ok (.val (.dC m)) (ρ.set x (.val false (.dC m)))|some (.oV a)=>.ok (.val (.dv (a.map (·.1)) (a.map (·.2)))) (ρ.set x (.val false (.dv (a.map (·.1)) (a.map (·.2)))))|some (.own b e)=>.ok (.val (.lst e)) (ρ.set x (.val b (.lst e)))|some (.val _ d)=>.ok (.val d) ρ|_=>.stuck:=(rfl)
noncomputable def pckA(c:Call)(f p x t:Nat)(ρ:List Sl):Res R:=match pk ρ x with|some (.lst (_::_))=>ev c (.call f [.var p,.var x,.var t]) ρ|some (.lst [])=>ev c (.call f [.var p,.lst [.con (.int 0)],.var t]) ρ|_=>.stuck
inductive S where|pass|brk|cont|bad|expr(e:P)|asg(i:Nat)(e:P)|yE(x:Nat)(i e:P)|app(x:Nat)(e:P)|ret(e:P)|NB|ifs(c:P)(a b:List S)|oW(src:P)(i:List Nat)(one:Bool)(body:List S)|emp(B:List S)(x o g:Nat)|yF(o:Nat)(xs:List Nat)(body:List S)deriving Inhabited
inductive Fl where|next|brk|cont|ret(r:R)deriving Inhabited
noncomputable def gf:Nat->D->Bool|_,.non=>true|_,.bl _=>true|_,.int _=>true|_,.str _=>true|k+1,.tup a=>a.all (gf k)|_,_=>false
noncomputable def tldF(c:Call)(x y f g a:Nat)(ρ:List Sl):Res Fl:=match ρ[a]?with|some (.val _ d)=>if gf 3 d=true/\a≠x then(lift (put ρ x .aC) ρ).bind λρ1 _=>match c f [.val false d]with|.ok (.val (.tup [.int z,.lst b,.tup e])) _=>if b.all cJ=true/\e.all cJ=true/\b.length<1000 then match c g [.val false d,.val false (.tup [.int z,.lst b,.tup e])]with|.ok (.val (.bl true)) _=>(lift (put ρ1 y (.val false (.tup [.int z,.lst b,.tup e]))) ρ1).bind λh _=>.ok .next h|.ok (.val (.bl false)) _=>.ok (.ret (.val (.bl false))) ρ1|_=>.stuck else .stuck|_=>.stuck else .stuck|_=>.stuck
noncomputable def lfs:Sl->Bool|.aC=>true|.val _ d=>gf 9 d|_=>false
noncomputable def J8:D->Bool|.bl _=>true|.int _=>true|.non=>true|_=>false
noncomputable def uv:Sl->Sl|.val b d=>if gf 9 d=true then .val b d else .aC|_=>.aC
noncomputable def vlS:Sl->Bool|.aC=>true|.val _ _=>true|_=>false
noncomputable def lckS:Sl->Sl|.val b d=>if gf 9 d=true then .val b d else .val true d|s=>s
noncomputable def Mi:Sl->Sl->Sl|.val b d,t=>if gf 9 d=true then uv t else .val b d|_,t=>uv t
noncomputable def Nf(a ρ1:List Sl):List Sl:=List.zipWith Mi a ρ1
noncomputable def Lp:D->Bool
 |.lst rows=>decide (rows.length<1000)&&rows.all λr=>match r with|.lst a=>a.all cJ&&decide (3<=a.length)|_=>false
 |_=>false
noncomputable def wrkT(a:List Sl)(x o v:Nat)(fl:Fl)(ρ1:List Sl):Res Fl:=match fl with
 |.ret (.val d)=>if J8 d=true then .ok (.ret (.val d)) (Nf a ρ1)else .stuck|.next=>match ρ1[v]?,ρ1[x]?with|some (.val _ (.int i)),some (.val true d)=>if(i≠0\/Lp d=true)/\o≠x/\o≠v then .ok .next (((Nf a ρ1).set o .aC).set x .aC)else .stuck|_,_=>.stuck
 |_=>.stuck
noncomputable def fshT(y a b:Nat)(fl:Fl)(ρ:List Sl):Res Fl:=match fl with
 |.ret (.val d)=>if J8 d=true then .ok (.ret (.val d)) (ρ.map uv)else .stuck|.next=>match ρ[a]?,ρ[b]?with|some (.val false (.lst c)),some (.val false (.lst e))=>if c.all cJ=true/\e.all cJ=true/\c.length<1000/\0<e.length/\a≠y/\b≠y then(lift (put (ρ.map uv) y (.val false (.tup [.lst c,.lst e]))) ρ).bind λf _=>.ok .next f else .stuck|_,_=>.stuck
 |_=>.stuck
noncomputable def uK(ρ:List Sl):List Nat->Option (List Sl)|[]=>some ρ|x::r=>match ρ[x]?with|some (.own false a)=>uK (ρ.set x (.lent a)) r|_=>none
noncomputable def jn(ρ:List Sl):List Nat->List Sl|[]=>ρ|x::r=>match ρ[x]?with|some (.lent a)=>jn (ρ.set x (.own false a)) r|_=>jn ρ r
noncomputable def yL(o:Nat)(body:List Sl->Res Fl):List Nat->List Sl->Res Fl|[],ρ=>.ok .next ρ|x::r,ρ=>match ρ[x]?,put ρ o .aC with
   |some (.lent a),some _=>(body ((ρ.set x (.hold [])).set o (.lent a))).bind λfl ρ1=>match fl with|.next=>yL o body r ((ρ1.set o .aC).set x (.lent a))|_=>.stuck
   |_,_=>.stuck
noncomputable def yO:Sl->Bool|.aC=>true|.val _ d=>gf 9 d|.own true a=>a.all (gf 9)|_=>false
noncomputable def jc:Sl->Sl|.own _ a=>.own true a|s=>s
noncomputable def o4:Sl->Sl|.val b d=>if gf 9 d=true then .val b d else .aC|.own b a=>if a.all (gf 9)=true then .own b a else .aC|_=>.aC
noncomputable def zO:Sl×Sl->Bool|(.own _ _,.own _ a)=>a.all (gf 9)|(.own _ _,_)=>false|_=>true
noncomputable def wy:D->Bool|.non=>true|.lst a=>a.all cJ|.tup a=>a.all cJ|_=>false
noncomputable def rW:D->Bool|.lst a=>a.all wy|.tup a=>a.all wy|_=>false
noncomputable def Gf(c:Call)(g:Nat):Bool:=match c g [.val false .non]with|.ok _ _=>true|_=>false
noncomputable def lg(a:List Sl)(x o:Nat)(fl:Fl)(ρ1:List Sl):Res Fl:=match fl with
 |.next=>match ρ1[x]?with|some (.own _ rows)=>if rows.all rW=true/\x≠o/\(a.zip ρ1).all zO=true then .ok .next (((ρ1.map o4).set o .aC).set x .aC)else .stuck|_=>.stuck
 |.ret (.val d)=>if J8 d=true/\(a.zip ρ1).all zO=true then .ok (.ret (.val d)) (ρ1.map o4)else .stuck|_=>.stuck
noncomputable def sE:R->Sl|.val d=>.val false d|.own a=>.own false a
noncomputable def jb(a:List Nat)(one:Bool)(body:List Sl->Res Fl):List D->List Sl->Res Fl|[],ρ=>.ok .next ρ|d::r,ρ=>match bQ ρ a one d with|none=>.stuck|some ρ=>(body ρ).bind λfl ρ=>match fl with|.next=>jb a one body r ρ|.cont=>jb a one body r ρ|.brk=>.ok .next ρ|.ret r=>.ok (.ret r) ρ
theorem FT{a:List Nat}{o:Bool}{b:List Sl->Res Fl}{ρ:List Sl}:jb a o b [] ρ=.ok .next ρ:=rfl
theorem wI{a:List Nat}{o:Bool}{b:List Sl->Res Fl}{d:D}{r:List D}{ρ:List Sl}:jb a o b (d::r) ρ=match bQ ρ a o d with|none=>.stuck|some ρ=>(b ρ).bind λfl ρ=>match fl with|.next=>jb a o b r ρ|.cont=>jb a o b r ρ|.brk=>.ok .next ρ|.ret r=>.ok (.ret r) ρ:=rfl
noncomputable def rH(a:List Sl->Res Bool)(body:List Sl->Res Fl):Nat->List Sl->Res Fl|0,_=>.stuck|n+1,ρ=>(a ρ).bind λb ρ=>if b then(body ρ).bind λfl ρ=>match fl with|.next=>rH a body n ρ|.cont=>rH a body n ρ|.brk=>.ok .next ρ|.ret r=>.ok (.ret r) ρ else .ok .next ρ
theorem Q4{f:List Sl->Res Bool}{b:List Sl->Res Fl}{ρ:List Sl}:rH f b 0 ρ=.stuck:=rfl
theorem Eb{f:List Sl->Res Bool}{b:List Sl->Res Fl}{n:Nat}{ρ:List Sl}:rH f b (n+1) ρ=(f ρ).bind λx ρ=>if x then(b ρ).bind λfl ρ=>match fl with|.next=>rH f b n ρ|.cont=>rH f b n ρ|.brk=>.ok .next ρ|.ret r=>.ok (.ret r) ρ else .ok .next ρ:=rfl
noncomputable def Hk(c:List Nat)(one:Bool)(b:Ev):List D->List (List D)->List Sl->Res (List (List D))|[],a,ρ=>.ok a ρ|d::r,a,ρ=>match bQ ρ c one d with|none=>.stuck|some ρ=>(b ρ).bind λx ρ=>match x with|.own e=>Hk c one b r (a++[e]) ρ|.val _=>.stuck
noncomputable def rowAt(rows:List (List D))(k:Int):Option (List D):=(jt rows.length k).bind λr=>rows[r]?
noncomputable def RN(rows:List (List D))(k:Int)(f:List D->Option (List D)):Option (List (List D)):=(jt rows.length k).bind λr=>(rows[r]?).bind λa=>(f a).map λb=>rows.set r b
noncomputable def setAt(l:Int)(d:D)(a:List D):Option (List D):=(jt a.length l).map λm=>a.set m d
noncomputable def ue(ρ:List Sl)(x:Nat):Option (List (List D)):=match ρ[x]?with|some (.hold rows)=>some rows|_=>none
noncomputable def rowK(ρ:List Sl)(x:Nat)(k:D):Option (List D):=(ue ρ x).bind λrows=>(lZ k).bind λk=>rowAt rows k
noncomputable def TX(ρ:List Sl)(x:Nat)(o:Option (List (List D))):Res Fl:=match o with|some rows=>.ok .next (ρ.set x (.hold rows))|none=>.stuck
noncomputable def rowOne(x r:Nat)(b c e:List Sl->Res D)(ρ:List Sl):Res Fl:=(c ρ).bind λk ρ=>(lift ((ue ρ x).bind λrows=>(rows[r]?).bind λa=>(lZ k).bind λk=>(at' a k).bind lZ) ρ).bind λu ρ=>(e ρ).bind λl ρ=>(lift ((ue ρ x).bind λrows=>(rows[r]?).bind λa=>(lZ l).bind λl=>(at' a l).bind lZ) ρ).bind λv ρ=>(b ρ).bind λj ρ=>TX ρ x ((ue ρ x).bind λrows=>(rows[r]?).bind λa=>(lZ j).bind λj=>(setAt j (.int (u+v)) a).map λf=>rows.set r f)
noncomputable def Fw(x y:Nat)(a b c:List Sl->Res D):Nat->Nat->List Sl->Res Fl|0,_,ρ=>.ok .next ρ|m+1,r,ρ=>(lift (put ρ y .aC) ρ).bind λρ _=>(rowOne x r a b c ρ).bind λ_ ρ=>Fw x y a b c m (r+1) ρ
noncomputable def FQ(a:List Nat)(one:Bool)(body:List Sl->Res Fl)(b:List Sl->Option (Nat×List Sl)):List D->List Sl->Option (Nat×List Sl)|[],_=>none|d::r,ρ=>match bQ ρ a one d with|none=>none|some ρ=>match b ρ with|some x=>some x|none=>match body ρ with|.ok .next ρ1=>FQ a one body b r ρ1|.ok .cont ρ1=>FQ a one body b r ρ1|_=>none
noncomputable def Nr(a:List Sl->Res Bool)(body:List Sl->Res Fl)(c:List Sl->Option (Nat×List Sl)):Nat->List Sl->Option (Nat×List Sl)|0,_=>none|n+1,ρ=>match a ρ with
   |.ok true ρ1=>match c ρ1 with|some x=>some x|none=>match body ρ1 with|.ok .next b=>Nr a body c n b|.ok .cont b=>Nr a body c n b|_=>none
   |_=>none
noncomputable def G7:P->P|.idx a _=>a|.blt .sum [.comp s _ _ _ _ _]=>s|e=>e
noncomputable def arg0:P->P|.call _ (a::_)=>a|e=>e
noncomputable def uh(c:Call)(e:P)(ρ:List Sl):Option (Nat×List Sl):=match G7 e with
 |.call f as=>match rN c as ρ with
   |.ok xs ρ1=>match bF ρ1 xs []with
     |some args=>match c f args with|.exc k a=>some (k,cT xs a 0 ρ1)|_=>none
     |none=>none
   |_=>none
 |_=>none
mutual
noncomputable def ex(c:Call)(n:Nat):S->List Sl->Res Fl
 |.pass,ρ=>.ok .next ρ|.brk,ρ=>.ok .brk ρ|.cont,ρ=>.ok .cont ρ|.bad,_=>.stuck|.expr e,ρ=>(ev c e ρ).bind λ_ ρ=>.ok .next ρ|.asg i e,ρ=>(ev c e ρ).bind λr ρ=>(lift (put ρ i (sE r)) ρ).bind λm _=>.ok .next m|.yE x i e,ρ=>(ev c e ρ).bind λr ρ=>(lift (pk ρ x) ρ).bind λ_ ρ=>(fU (isVar i) (ev c i) ρ).bind λk ρ=>match ρ[x]?,k with
   |some (.own b f),.int k=>match jt f.length k with|some j=>.ok .next (ρ.set x (.own b (f.set j r.d)))|none=>.stuck
   |_,_=>.stuck
 |.app x e,ρ=>(lift (M5 ρ x) ρ).bind λ_ ρ=>(ev c e ρ).bind λr ρ=>match ρ[x]?with|some (.own b f)=>if f.length<lim then .ok .next (ρ.set x (.own b (f++[r.d])))else .stuck|_=>.stuck
 |.ret e,ρ=>match isVar e with
   |some i=>match ρ[i]?with|some (.own false f)=>.ok (.ret (.own f)) (ρ.set i .aC)|_=>(ev c e ρ).bind λr ρ=>.ok (.ret r) ρ
   |none=>(ev c e ρ).bind λr ρ=>.ok (.ret r) ρ
 |.NB,ρ=>.ok (.ret (.val .non)) ρ|.ifs t a b,ρ=>(iK (ev c t) ρ).bind λk ρ=>if k then fj c n a ρ else fj c n b ρ|.oW src q one body,ρ=>(srcOf (isVar src) (ev c src) ρ).bind λf h=>(jb q one (fj c n body) f h).bind λfl l=>.ok fl (bB ρ (isVar src) l)|.yF o xs body,ρ=>(lift (uK ρ xs) ρ).bind λρ1 _=>(yL o (fj c n body) xs ρ1).bind λ_ p=>.ok .next (jn p xs)|.emp B x o g,ρ=>if(ρ.map jc).all yO=true/\((put (ρ.map jc) o .aC).isSome=true/\(put (ρ.map jc) x .aC).isSome=true)/\Gf c g=true then(fj c n B (ρ.map jc)).bind (lg (ρ.map jc) x o)else .stuck
noncomputable def fj(c:Call)(n:Nat):List S->List Sl->Res Fl|[],ρ=>.ok .next ρ|s::r,ρ=>(ex c n s ρ).bind λfl ρ=>match fl with|.next=>fj c n r ρ|fl=>.ok fl ρ
noncomputable def exX(c:Call)(n:Nat):S->List Sl->Option (Nat×List Sl)
 |.ifs t a b,ρ=>match iK (ev c t) ρ with|.ok x ρ1=>if x then ye c n a ρ1 else ye c n b ρ1|_=>none
 |.oW src f one body,ρ=>match uh c src ρ with|some x=>some x|none=>match srcOf (isVar src) (ev c src) ρ with|.ok g ρ1=>(FQ f one (fj c n body) (ye c n body) g ρ1).map λx=>(x.1,bB ρ (isVar src) x.2)|_=>none
 |.ret e,ρ=>uh c e ρ|.asg _ e,ρ=>uh c e ρ|.expr e,ρ=>uh c e ρ|_,_=>none
noncomputable def ye(c:Call)(n:Nat):List S->List Sl->Option (Nat×List Sl)|[],_=>none|s::r,ρ=>match exX c n s ρ with|some x=>some x|none=>match ex c n s ρ with|.ok .next ρ1=>ye c n r ρ1|_=>none
end
theorem X1{c n ρ}:ex c n (.pass) ρ=.ok .next ρ:=(rfl)
theorem X2{c n ρ}:ex c n (.brk) ρ=.ok .brk ρ:=(rfl)
theorem X3{c n ρ}:ex c n (.cont) ρ=.ok .cont ρ:=(rfl)
theorem X4{c n ρ}:ex c n (.bad) ρ=.stuck:=(rfl)
theorem X5{c n e ρ}:ex c n (.expr e) ρ=(ev c e ρ).bind λ_ ρ=>.ok .next ρ:=(rfl)
theorem X6{c n i e ρ}:ex c n (.asg i e) ρ=(ev c e ρ).bind λr ρ=>(lift (put ρ i (sE r)) ρ).bind λa _=>.ok .next a:=(rfl)
theorem X7{c n x i e ρ}:ex c n (.yE x i e) ρ=(ev c e ρ).bind λr ρ=>(lift (pk ρ x) ρ).bind λ_ ρ=>(fU (isVar i) (ev c i) ρ).bind λk ρ=>match ρ[x]?,k with
 |some (.own b a),.int k=>match jt a.length k with|some j=>.ok .next (ρ.set x (.own b (a.set j r.d)))|none=>.stuck
 |_,_=>.stuck:=(rfl)
theorem X8{c n x e ρ}:ex c n (.app x e) ρ=(lift (M5 ρ x) ρ).bind λ_ ρ=>(ev c e ρ).bind λr ρ=>match ρ[x]?with|some (.own b a)=>if a.length<lim then .ok .next (ρ.set x (.own b (a++[r.d])))else .stuck|_=>.stuck:=(rfl)
theorem X9{c n e ρ}:ex c n (.ret e) ρ=match isVar e with
 |some i=>match ρ[i]?with|some (.own false a)=>.ok (.ret (.own a)) (ρ.set i .aC)|_=>(ev c e ρ).bind λr ρ=>.ok (.ret r) ρ
 |none=>(ev c e ρ).bind λr ρ=>.ok (.ret r) ρ:=(rfl)
theorem VR{c n ρ}:ex c n (.NB) ρ=.ok (.ret (.val .non)) ρ:=(rfl)
theorem RQ{c n t a b ρ}:ex c n (.ifs t a b) ρ=(iK (ev c t) ρ).bind λk ρ=>if k then fj c n a ρ else fj c n b ρ:=(rfl)
theorem RZ{c n src is one body ρ}:ex c n (.oW src is one body) ρ=(srcOf (isVar src) (ev c src) ρ).bind λe a=>(jb is one (fj c n body) e a).bind λfl b=>.ok fl (bB ρ (isVar src) b):=(rfl)
theorem X13{c n o xs body ρ}:ex c n (.yF o xs body) ρ=(lift (uK ρ xs) ρ).bind λρ1 _=>(yL o (fj c n body) xs ρ1).bind λ_ a=>.ok .next (jn a xs):=(rfl)
theorem X14{c n x o g ρ}:ex c n (.emp B x o g) ρ=if(ρ.map jc).all yO=true/\((put (ρ.map jc) o .aC).isSome=true/\(put (ρ.map jc) x .aC).isSome=true)/\Gf c g=true then(fj c n B (ρ.map jc)).bind (lg (ρ.map jc) x o)else .stuck:=(rfl)
structure Fd where
 np:Nat
 nn:Nat
 body:List S deriving Inhabited
noncomputable abbrev Tab:=Nat->Option Fd
noncomputable def enter(c:Call)(n:Nat)(d:Fd)(args:List Sl):Res R:=if args.length=d.np/\d.np<=d.nn then match fj c n d.body (args++replicate (d.nn-d.np) .aC)with|.ok .next ρ=>.ok (.val .non) (ρ.take d.np)|.ok (.ret r) ρ=>.ok r (ρ.take d.np)|_=>match ye c n d.body (args++replicate (d.nn-d.np) .aC)with|some (k,ρ)=>.exc k (ρ.take d.np)|none=>.stuck else .stuck
noncomputable def run(Γ:Tab)(w:Nat):Nat->Call|0,_,_=>.stuck|n+1,f,args=>match Γ f with|some d=>enter (run Γ w n) w d args|none=>.stuck
end HH
end
section
namespace HH
open PySem L2
variable{v:V}{vs:List V}{ρ:List Sl}{σ:St}
noncomputable def Dc.ho:Dc->HO|.k a=>.dK (a.map λp=>(Sum.inl p.1,V.int p.2))|.t a=>.dT (a.map λp=>(p.1.map Sum.inl,V.int p.2))
noncomputable def vX(a:List Int)(vs:List V):HO:=.dK ((a.zip vs).map λp=>(Sum.inl p.1,p.2))
section
variable(K:PySem.W.Frag)
mutual
def Rep(F:Hp):V->D->Prop|v,.non=>v=.non|v,.bl b=>v=.bl b|v,.int i=>v=.int i|v,.str x=>v=.str x|v,.tup c=>∃a xs,v=.ref a/\fV K F a xs/\az F xs c|v,.lst c=>∃a xs,v=.ref a/\cR K F a xs/\az F xs c|v,.dC m=>∃a o,v=.ref a/\F a=some (.dI o m.ho)|v,.dv e c=>∃a o vs,v=.ref a/\F a=some (.dI o (vX e vs))/\az F vs c/\e.length=c.length
def az(F:Hp):List V->List D->Prop|vs,[]=>vs=[]|vs,d::a=>∃v r,vs=v::r/\Rep F v d/\az F r a
end
end
section
variable{K:PySem.W.Frag}{F F' H H':Hp}
theorem aB.gG{a:Addr}{xs:List V}(e:aB H H')(h:fV K H a xs):fV K H' a xs:=by
 rcases h with(h|⟨o,h⟩)|h;.exact .inl (.inl (e _ _ h))
 .exact .inl (.inr ⟨o,e _ _ h⟩)
 .exact .inr h
mutual
theorem Rep.mono(e:aB F F'):∀{d:D}{v:V},Rep K F v d->Rep K F' v d|.non,_,h=>by rw[Rep]at h ⊢;exact h|.bl _,_,h=>by rw[Rep]at h ⊢;exact h|.int _,_,h=>by rw[Rep]at h ⊢;exact h|.str _,_,h=>by rw[Rep]at h ⊢;exact h|.tup b,_,h=>by rw[Rep]at h ⊢;obtain⟨a,xs,rfl,hs,r⟩:=h;exact⟨a,xs,rfl,aB.gG e hs,az.mono e r⟩|.lst b,_,h=>by rw[Rep]at h ⊢;obtain⟨a,xs,rfl,hs,r⟩:=h;exact⟨a,xs,rfl,e.seq hs,az.mono e r⟩|.dC m,_,h=>by rw[Rep]at h ⊢;obtain⟨a,o,rfl,hs⟩:=h;exact⟨a,o,rfl,e _ _ hs⟩|.dv f b,_,h=>by rw[Rep]at h ⊢;obtain⟨a,o,vs,rfl,hs,r,c⟩:=h;exact⟨a,o,vs,rfl,e _ _ hs,az.mono e r,c⟩theorem az.mono(e:aB F F'):∀{a:List D}{vs:List V},az K F vs a->az K F' vs a|[],_,h=>by rw[az]at h ⊢;exact h|d::a,_,h=>by rw[az]at h ⊢;obtain⟨v,r,rfl,h1,b⟩:=h;exact⟨v,r,rfl,Rep.mono e h1,az.mono e b⟩end
theorem az.nil:az K F [] []:=by rw[az]
theorem az.cons{d:D}{a:List D}(h:Rep K F v d)(t:az K F vs a):az K F (v::vs) (d::a):=by rw[az];exact⟨v,vs,rfl,h,t⟩
theorem az.bT{d:D}{a:List D}(h:az K F vs (d::a)):∃v r,vs=v::r/\Rep K F v d/\az K F r a:=by rw[az]at h;exact h
theorem az.fC(h:az K F vs []):vs=[]:=by rw[az]at h;exact h
theorem az.length:∀{a:List D}{vs:List V},az K F vs a->vs.length=a.length|[],_,h=>by rw[h.fC];rfl|d::a,_,h=>by obtain⟨v,r,rfl,_,t⟩:=h.bT;simp[az.length t]
theorem az.get:∀{a:List D}{vs:List V}{i:Nat}{d:D},az K F vs a->a[i]?=some d->∃v,vs[i]?=some v/\Rep K F v d|[],_,_,_,h,e=>by simp at e|d::a,_,0,_,h,e=>by obtain⟨v,r,rfl,h1,t⟩:=h.bT;simp at e;subst e;exact⟨v,rfl,h1⟩|d::a,_,i+1,_,h,e=>by obtain⟨v,r,rfl,_,t⟩:=h.bT;simp at e;obtain⟨w,b,c⟩:=t.get e;exact⟨w,by simpa using b,c⟩
theorem az.append:∀{a b:List D}{vs c:List V},az K F vs a->az K F c b->az K F (vs++c) (a++b)|[],_,_,_,h,h'=>by rw[h.fC];exact h'|d::a,_,_,_,h,h'=>by obtain⟨v,r,rfl,h1,t⟩:=h.bT;exact .cons h1 (t.append h')
theorem az.set{v:V}{d:D}(hr:Rep K F v d):∀{a:List D}{vs:List V}(i:Nat),az K F vs a->az K F (vs.set i v) (a.set i d)|[],_,_,h=>by rw[h.fC];exact .nil|_::_,_,0,h=>by obtain⟨w,r,rfl,h1,t⟩:=h.bT;exact .cons hr t|_::_,_,i+1,h=>by obtain⟨w,r,rfl,h1,t⟩:=h.bT;exact .cons h1 (az.set hr i t)
theorem az.take:∀{a:List D}{vs:List V}(n:Nat),az K F vs a->az K F (vs.take n) (a.take n)|[],_,n,h=>by rw[h.fC];simpa using az.nil|_::_,_,0,h=>.nil|_::_,_,n+1,h=>by obtain⟨w,r,rfl,h1,t⟩:=h.bT;exact .cons h1 (t.take n)
theorem az.drop:∀{a:List D}{vs:List V}(n:Nat),az K F vs a->az K F (vs.drop n) (a.drop n)|[],_,n,h=>by rw[h.fC];simpa using az.nil|_::_,_,0,h=>h|_::_,_,n+1,h=>by obtain⟨w,r,rfl,h1,t⟩:=h.bT;exact t.drop n
theorem az.rep{a:List D}{vs:List V}(h:az K F vs a):∀n,az K F (replicate n vs).flatten (replicate n a).flatten|0=>by simpa using az.nil|n+1=>by simpa[replicate_succ]using h.append (az.rep h n)
inductive Oc where|l(ds:List D)|d(m:Dc)|v(kvs:List (Int×D))
noncomputable def lst?:Sl->Option Oc|.own _ a=>some (.l a)|.lent a=>some (.l a)|.oU m=>some (.d m)|.oV b=>some (.v b)|_=>none
def mJ(K:PySem.W.Frag)(F:Hp)(o:HO):Oc->Prop|.l b=>∃xs,o=.lst xs/\az K F xs b|.d m=>o=m.ho|.v a=>∃vs,o=vX (a.map (·.1)) vs/\az K F vs (a.map (·.2))
theorem mJ.mono{o:HO}{x:Oc}(e:aB F F')(h:mJ K F o x):mJ K F' o x:=by cases x with|l c=>obtain⟨xs,a,h⟩:=h;exact⟨xs,a,h.mono e⟩|d m=>exact h|v b=>obtain⟨xs,a,h⟩:=h;exact⟨xs,a,h.mono e⟩
def aM(ρ:List Sl)(σ:St)(i:Nat)(a:Addr):Prop:=(∃s b,ρ[i]?=some s/\lst? s=some b)/\σ[i]?=some (some (V.ref a))
def Own(ρ:List Sl)(σ:St)(a:Addr):Prop:=∃i,aM ρ σ i a
structure GS(K:PySem.W.Frag)(F:Hp)(ρ:List Sl)(σ:St)(H:Hp):Prop where
 sub:aB F H
 len:ρ.length=σ.length
 val:∀(i:Nat)(b:Bool)(d:D),ρ[i]?=some (Sl.val b d)->∃v:V,σ[i]?=some (some v)/\Rep K F v d
 own:∀(i:Nat)(s:Sl)(ds:Oc),ρ[i]?=some s->lst? s=some ds->∃(a:Addr)(xs:HO),σ[i]?=some (some (V.ref a))/\H a=some xs/\F a=none/\mJ K F xs ds
 dis:∀(i j:Nat)(a:Addr),aM ρ σ i a->aM ρ σ j a->i=j
theorem GS.nF(g:GS K F ρ σ H)(i:Nat)(s:Sl)(b:List D)(e:ρ[i]?=some s)(c:lst? s=some (.l b)):∃(a:Addr)(xs:List V),σ[i]?=some (some (V.ref a))/\H a=some (.lst xs)/\F a=none/\az K F xs b:=by obtain⟨a,o,h1,f,h,xs,rfl,j⟩:=g.own i s (.l b) e c;exact⟨a,xs,h1,f,h,j⟩
noncomputable def xu:Sl->Bool|.val b _=>b|.own b _=>b|.lent _=>true|.aC=>false|.oU _=>false|.oV _=>false|.hold _=>true
def jk:Sl->Sl->Prop|.val true d,s=>s=.val true d|.own true _,s=>(∃a,s=.own true a)\/∃d,s=.val true d|.lent a,s=>s=.lent a|.hold a,s=>s=.hold a|_,_=>True
theorem jk.refl(s:Sl):jk s s:=by unfold jk;split<;>first|rfl|exact .inl ⟨_,rfl⟩|trivial
theorem jk.xu{s a:Sl}(h:jk s a)(l:xu s=true):HH.xu a=true:=by cases s with
 |aC=>cases l|oU _=>cases l|oV _=>cases l|val b d=>cases b with|true=>cases h;rfl|false=>cases l
 |own b d=>cases b with|true=>rcases h with⟨_,rfl⟩|⟨_,rfl⟩<;>rfl|false=>cases l
 |lent d=>cases h;rfl|hold d=>cases h;rfl
theorem jk.trans{s c a:Sl}(l:HH.xu s=true)(h:jk s c)(h':jk c a):jk s a:=by cases s with
 |aC=>cases l|oU _=>cases l|oV _=>cases l|val b d=>cases b with|true=>cases h;exact h'|false=>cases l
 |own b d=>cases b with
   | true => rcases h with⟨_,rfl⟩|⟨d,rfl⟩;.exact h'
             .exact .inr ⟨d,h'⟩|false=>cases l
 |lent d=>cases h;exact h'|hold d=>cases h;exact h'
noncomputable def nt:Option HO->Option HO|some (.tup _)=>none|o=>o
theorem jT{o:Option HO}(h:o=none):nt o=none:=by rw[h];rfl
theorem wg{H:Hp}{b:Addr}{xs:List V}(h:H b=some (.lst xs))(z:nt (H b)=none):False:=by rw[h]at z;cases z
theorem yc{o:HO}{x:Oc}(h:mJ K F o x)(z:nt (some o)=none):False:=by cases x with|l b=>obtain⟨xs,rfl,_⟩:=h;cases z|d m=>cases m<;>(cases(show o=_ from h);cases z)|v a=>obtain⟨xs,rfl,_⟩:=h;cases z
structure aZ(K:PySem.W.Frag)(F:Hp)(ρ:List Sl)(σ:St)(H:Hp)(F':Hp)(ρ':List Sl)(σ':St)(H':Hp):Prop where
 gs:GS K F' ρ' σ' H'
 cA:aB F F'
 oX:∀b,F b=none->F' b≠none->Own ρ σ b\/nt (H b)=none
 keep:∀b o,H b=some o->¬ Own ρ σ b->H' b=some o
 mF:∀b,Own ρ' σ' b->Own ρ σ b\/H b=none
 len:ρ'.length=ρ.length
 lk:∀(i:Nat)(s:Sl),ρ[i]?=some s->xu s=true->σ'[i]?=σ[i]?/\∃s',ρ'[i]?=some s'/\jk s s'
theorem aZ.refl{ρ:List Sl}{σ:St}(g:GS K F ρ σ H):aZ K F ρ σ H F ρ σ H:=⟨g,aB.refl _,λb h h'=>absurd h h',λ_ _ h _=>h,λ_ h=>.inl h,rfl,λi s h _=>⟨rfl,s,h,.refl s⟩⟩
theorem aZ.trans{k p m H2:Hp}{ρ ρ1 g:List Sl}{σ f j:St}(a:aZ K F ρ σ H k ρ1 f m)(b:aZ K k ρ1 f m p g j H2):aZ K F ρ σ H p g j H2:=by
 have back:∀c,Own ρ1 f c\/m c=none->Own ρ σ c\/H c=none:=λc h=>by
  rcases h with h|h;.exact a.mF c h
  . by_cases ho:Own ρ σ c;.exact .inl ho
    .right;cases e:H c with|none=>rfl|some o=>rw[a.keep c o e ho]at h;cases h
 refine⟨b.gs,a.cA.trans b.cA,λc h h'=>?_,λc o h n=>?_,λc h=>back c (b.mF c h),b.len.trans a.len,λi s h l=>?_⟩
 . by_cases e:k c=none
   . by_cases ho:Own ρ σ c;.exact .inl ho
     . rcases b.oX c e h' with z|z;.exact(back c (.inl z)).imp id jT
       .right;cases q:H c with|none=>rfl|some o=>rw[a.keep c o q ho]at z;exact z
   .exact a.oX c h e
 . refine b.keep c o (a.keep c o h n) λh'=>?_;rcases a.mF c h' with h'|h';.exact n h'
   .rw[h]at h';cases h'
 .obtain⟨t,s1,h1,r⟩:=a.lk i s h l;obtain⟨u,s2,w,x⟩:=b.lk i s1 h1 (r.xu l);exact⟨u.trans t,s2,w,.trans l r x⟩
def cj(K:PySem.W.Frag)(F H:Hp)(v:V)(d:D):Prop:=Rep K F v d\/∃a xs b,v=.ref a/\H a=some (.lst xs)/\az K F xs b/\d=.lst b
def bO(K:PySem.W.Frag)(F':Hp)(b:List Sl)(c:St)(H':Hp)(ρ:List Sl)(σ:St)(H:Hp)(v:V):R->Prop|.val d=>Rep K F' v d|.own e=>∃a xs,v=.ref a/\H' a=some (.lst xs)/\F' a=none/\az K F' xs e/\¬ Own b c a/\(Own ρ σ a\/H a=none)
theorem aB.cz{F:Hp}{a:Addr}{o:HO}(h:F a=none):aB F (upd F a o):=λb u e=>by
 have:b≠a:=by rintro rfl;rw[h]at e;cases e
 rw[aD this];exact e
theorem aZ.dI{c:List Sl}{f:St}{r:R}(s:aZ K F ρ σ H F' c f H')(h:bO K F' c f H' ρ σ H v r):∃g,aZ K F ρ σ H g c f H'/\aB F' g/\Rep K g v r.d:=by cases r with|val d=>exact⟨F',s,.refl _,h⟩|own w=>
   obtain⟨a,xs,rfl,h1,x,y,z,A⟩:=h;have k:aB F' (upd F' a (.lst xs)):=aB.cz x;refine⟨upd F' a (.lst xs),⟨⟨λb o e=>?_,s.gs.len,λi b d e=>?_,λi q l e t=>?_,s.gs.dis⟩,s.cA.trans k,λb n u=>?_,s.keep,s.mF,s.len,s.lk⟩,k,?_⟩
   . by_cases j:b=a;.subst j;rw[aO]at e;cases e;exact h1
     .rw[aD j]at e;exact s.gs.sub b o e
   .obtain⟨v,m,p⟩:=s.gs.val i b d e;exact⟨v,m,p.mono k⟩
   . obtain⟨b,ys,m,p,B,C⟩:=s.gs.own i q l e t;have j:b≠a:=by rintro rfl;exact z ⟨i,⟨q,l,e,t⟩,m⟩
     exact⟨b,ys,m,p,by rw[aD j];exact B,C.mono k⟩
   . by_cases j:b=a;.subst j;exact A.imp id jT
     .rw[aD j]at u;exact s.oX b n u
   .show Rep K _ _ (.lst w);rw[Rep];exact⟨a,xs,rfl,cR.of aO,y.mono k⟩
theorem cj.mono{v:V}(e:aB F F')(k:∀a xs,v=.ref a->H a=some (.lst xs)->H' a=some (.lst xs)){d:D}(h:cj K F H v d):cj K F' H' v d:=by
 rcases h with h|⟨a,xs,b,h1,c,f,g⟩;.exact .inl (h.mono e)
 .exact .inr ⟨a,xs,b,h1,k a xs h1 c,f.mono e,g⟩
theorem GS.pk{ρ:List Sl}{σ:St}{i:Nat}{d:D}(g:GS K F ρ σ H)(e:HH.pk ρ i=some d):∃v:V,σ[i]?=some (some v)/\cj K F H v d:=by
 unfold HH.pk at e;split at e;.rename_i b d' h;cases e;obtain⟨v,h1,c⟩:=g.val i b d h;exact⟨v,h1,.inl c⟩
 .rename_i b f h;cases e;obtain⟨a,xs,h1,c,k,j⟩:=g.nF i _ f h rfl;exact⟨.ref a,h1,.inr ⟨a,xs,f,rfl,c,j,rfl⟩⟩
 .rename_i f h;cases e;obtain⟨a,xs,h1,c,k,j⟩:=g.nF i _ f h rfl;exact⟨.ref a,h1,.inr ⟨a,xs,f,rfl,c,j,rfl⟩⟩
 .cases e
structure Ext(F H F' H':Hp):Prop where
 hs:aB H H'
 fs:aB F F'
 sub:aB F' H'
 gr:∀b,F b=none->F' b≠none->nt (H b)=none
theorem Ext.refl(h:aB F H):Ext F H F H:=⟨.refl _,.refl _,h,λ_ a b=>absurd a b⟩
theorem Ext.stp(g:GS K F ρ σ H)(e:Ext F H F' H'):aZ K F ρ σ H F' ρ σ H':=by
 refine⟨⟨e.sub,g.len,λi b d h=>?_,λi s j h h'=>?_,g.dis⟩,e.fs,λb n k=>.inr (e.gr b n k),λb o h _=>e.hs b o h,λ_ h=>.inl h,rfl,λi s h _=>⟨rfl,s,h,.refl s⟩⟩;.obtain⟨v,h1,c⟩:=g.val i b d h;exact⟨v,h1,c.mono e.fs⟩
 .obtain⟨a,xs,h1,c,l,f⟩:=g.own i s j h h';refine⟨a,xs,h1,e.hs _ _ c,?_,f.mono e.fs⟩;cases q:F' a with|none=>rfl|some o=>have:=e.gr a l (by rw[q];simp);rw[c]at this;exact(yc f this).elim
def bY(K:PySem.W.Frag)(F' H' H:Hp)(v:V):R->Prop|.val d=>Rep K F' v d|.own b=>∃a xs,v=.ref a/\H' a=some (.lst xs)/\F' a=none/\az K F' xs b/\H a=none
theorem bY.nM{r:R}(g:GS K F ρ σ H)(h:bY K F' H' H v r):bO K F' ρ σ H' ρ σ H v r:=by cases r with|val d=>exact h|own p=>obtain⟨a,xs,rfl,h1,l,m,f⟩:=h;refine⟨a,xs,rfl,h1,l,m,?_,.inr f⟩;rintro⟨i,⟨s,c,e,n⟩,o⟩;obtain⟨b,ys,j,k,_⟩:=g.own i s c e n;rw[o]at j;cases j;rw[f]at k;cases k
theorem bO.later{k i j H2:Hp}{ρ1 c:List Sl}{f g:St}{r:R}(a:aZ K F ρ σ H k ρ1 f i)(h:bO K j c g H2 ρ1 f i v r):bO K j c g H2 ρ σ H v r:=by cases r with|val d=>exact h|own p=>
   obtain⟨b,xs,rfl,h1,l,m,n,h5⟩:=h;refine⟨b,xs,rfl,h1,l,m,n,?_⟩;rcases h5 with h5|h5;.exact a.mF b h5
   . by_cases ho:Own ρ σ b;.exact .inl ho
     .right;cases e:H b with|none=>rfl|some o=>rw[a.keep b o e ho]at h5;cases h5
end
end HH
end
section
namespace HH
open PySem L2 PySem.Spec PyProof.Rows
variable{ρ' ρ ρ₀:List Sl}{es:List Expr}{K:PySem.W.Frag}{F H H₀:Hp}{σ:L2.St}{i n:Nat}{ds:List D}{x:Str}{v:V}{vs:List V}{op:CmpOp}{p':Pos}{as:List Arg}
theorem aa{c e:Type}{x:Res c}{f:c->List Sl->Res e}{b:e}(h:x.bind f=.ok b ρ'):∃a ρ,x=.ok a ρ/\f a ρ=.ok b ρ':=by cases x with|ok a ρ=>exact⟨a,ρ,rfl,h⟩|exc _ _=>cases h|stuck=>cases h
theorem aJ{c:Type}{o:Option c}{a:c}(h:lift o ρ=.ok a ρ'):o=some a/\ρ=ρ':=by cases o with|none=>cases h|some b=>cases h;exact⟨rfl,rfl⟩
theorem map_some{c e:Type}{o:Option c}{f:c->e}{b:e}(h:o.map f=some b):∃a,o=some a/\f a=b:=by cases o with|none=>cases h|some a=>cases h;exact⟨a,rfl,rfl⟩
theorem iz{c e:Type}{o:Option c}{f:c->Option e}{b:e}(h:o.bind f=some b):∃a,o=some a/\f a=some b:=by cases o with|none=>cases h|some a=>exact⟨a,rfl,h⟩
theorem bU{e:Type}{c:Prop}[Decidable c]{a b:e}(h:(if c then some a else none)=some b):c/\a=b:=by
 split at h;.rename_i hc;cases h;exact⟨hc,rfl⟩
 .cases h
section
variable{X:Cx}{c:Call}{e a b:Expr}{p pa pb:P}{pos:Pos}
theorem di{t t':TE}(h:PE X e t)(i:∀σ H Q,t' σ H Q->t σ H Q):PE X e t':=λf s σ H Q I q=>h f s σ H Q I (i σ H Q q)
theorem vR{t t':TT}(h:PT X e t)(i:∀σ H Q,t' σ H Q->t σ H Q):PT X e t':=λf s σ H Q I q=>h f s σ H Q I (i σ H Q q)
theorem KD{t t':TT}(h:PW X e t)(i:∀σ H Q,t' σ H Q->t σ H Q):PW X e t':=λg f s σ H Q I q=>h g f s σ H Q I (i σ H Q q)
theorem iV{t t':TA}(h:PA X es t)(i:∀σ H Q,t' σ H Q->t σ H Q):PA X es t':=λpos f s σ H Q I q=>h pos f s σ H Q I (i σ H Q q)
inductive vf(K:PySem.W.Frag)(f:Ev)(σ:L2.St)(H:Hp)(Q:VK):Prop where|mk(F:Hp)(ρ:List Sl)(r:R)(ρ':List Sl)(g:GS K F ρ σ H)(e:f ρ=.ok r ρ')(k:∀v F' H',aZ K F ρ σ H F' ρ' σ H'->bO K F' ρ' σ H' ρ σ H v r->Q v H')
inductive Cr(K:PySem.W.Frag)(f:List Sl->Res Bool)(σ:L2.St)(H:Hp)(Q:Bool->Hp->Prop):Prop where|mk(F:Hp)(ρ:List Sl)(b:Bool)(ρ':List Sl)(g:GS K F ρ σ H)(e:f ρ=.ok b ρ')(k:∀F' H',aZ K F ρ σ H F' ρ' σ H'->Q b H')
inductive QF(K:PySem.W.Frag)(f:List Sl->Res (List D))(σ:L2.St)(H:Hp)(Q:List V->Hp->Prop):Prop where|mk(F:Hp)(ρ:List Sl)(ds:List D)(ρ':List Sl)(g:GS K F ρ σ H)(e:f ρ=.ok ds ρ')(k:∀vs F' H',aZ K F ρ σ H F' ρ' σ H'->az K F' vs ds->Q vs H')
structure SX(X:Cx)(c:Call)(e:Expr)(p:P):Prop where ev:PE X e (vf X.K (HH.ev c p))var:∀i,isVar p=some i->PE X e (jL i)
def SA(X:Cx)(c:Call)(es:List Expr)(ps:List P):Prop:=PA X es (QF X.K (evs c ps))/\ps.length=es.length
theorem SX.fU(h:SX X c e p):∃t,PE X e t/\∀{σ:L2.St}{H F:Hp}{ρ ρ':List Sl}{d:D}{Q:VK},GS X.K F ρ σ H->fU (isVar p) (HH.ev c p) ρ=.ok d ρ'->(∀v j f,aZ X.K F ρ σ H j ρ' σ f->cj X.K j f v d->Q v f)->t σ H Q:=by cases hv:isVar p with|none=>refine⟨_,h.ev,λ{σ H F ρ ρ' d Q}g e k=>?_⟩;obtain⟨r,ρ1,l,m⟩:=aa e;cases m;refine⟨F,ρ,r,_,g,l,λv j f s q=>?_⟩;obtain⟨o,u,_,w⟩:=s.dI q;exact k v o f u (.inl w)|some i=>refine⟨_,h.var i hv,λ{σ H F ρ ρ' d Q}g e k=>?_⟩;obtain⟨l,m⟩:=aJ e;subst m;obtain⟨v,h1,y⟩:=g.pk l;exact⟨v,h1,k v F H (.refl g) y⟩
theorem SX.gF(E:SX X c a pa)(L:SX X c b pb):∃G h,PE X a G/\PE X b h/\∀{σ:L2.St}{H F:Hp}{ρ ρ':List Sl}{j:D×D}{R:V->V->Hp->Prop},GS X.K F ρ σ H->gF (isVar pa) (HH.ev c pa) (isVar pb) (HH.ev c pb) ρ=.ok j ρ'->(∀v u w l,aZ X.K F ρ σ H w ρ' σ l->cj X.K w l v j.1->cj X.K w l u j.2->R v u l)->G σ H λx z=>h σ z λy H2=>R x y H2:=by obtain⟨h,m,o⟩:=L.fU;cases hv:isVar pa with|none=>refine⟨_,h,E.ev,m,λ{σ H F ρ ρ' j R}g e k=>?_⟩;obtain⟨x,ρ1,q,e⟩:=aa e;obtain⟨y,A,f,e⟩:=aa e;cases e;obtain⟨r,I,q,B⟩:=aa q;cases B;refine⟨F,ρ,r,_,g,q,λv w l s M=>?_⟩;obtain⟨J,s1,_,N⟩:=s.dI M;refine o s1.gs f λu O H2 s2 C=>?_;exact k v u O H2 (s1.trans s2) (.inl (N.mono s2.cA)) C|some i=>refine⟨_,h,E.var i hv,m,λ{σ H F ρ ρ' j R}g e k=>?_⟩;obtain⟨x0,Q,B,e⟩:=aa e;obtain⟨U,W⟩:=aJ B;subst W;obtain⟨y,ρ1,q,e⟩:=aa e;obtain⟨x,A,f,e⟩:=aa e;cases e;have Y:=aJ f;clear f;obtain⟨f,Z⟩:=Y;subst Z;obtain⟨v,h1,_⟩:=g.pk U;refine⟨v,h1,o g q λu J z s1 C=>?_⟩;obtain⟨v',t,pv⟩:=s1.gs.pk f;rw[h1]at t;cases t;exact k v u J z s1 pv C
inductive rD(K:PySem.W.Frag)(f:D->D->Option R)(x y:V)(H:Hp)(Q:VK):Prop where|mk(F:Hp)(d e:D)(r:R)(sm:aB F H)(px:cj K F H x d)(py:cj K F H y e)(he:f d e=some r)(k:∀v F' H',Ext F H F' H'->bY K F' H' H v r->Q v H')
inductive Vo(K:PySem.W.Frag)(f:D->Option R)(x:V)(H:Hp)(Q:VK):Prop where|mk(F:Hp)(d:D)(r:R)(sm:aB F H)(px:cj K F H x d)(he:f d=some r)(k:∀v F' H',Ext F H F' H'->bY K F' H' H v r->Q v H')
theorem rZ{E:Expr}{f:D->D->Option R}{q:P}(t:∀{m o},PE X a m->PE X b o->PE X E (JC (rD X.K f) m o))(y:SX X c a pa)(z:SX X c b pb)(A:∀ρ,HH.ev c q ρ=(HH.gF (isVar pa) (HH.ev c pa) (isVar pb) (HH.ev c pb) ρ).bind λj ρ=>lift (f j.1 j.2) ρ)(B:isVar q=none):SX X c E q:=by obtain⟨m,o,h1,C,G⟩:=y.gF z;refine⟨di (t h1 C) ?_,λi h=>by rw[B]at h;cases h⟩;rintro σ H Q⟨F,ρ,r,ρ',g,e,k⟩;rw[A]at e;obtain⟨j,ρ1,I,l⟩:=aa e;have J:=aJ l;clear l;obtain⟨l,L⟩:=J;subst L;refine G g I λv u M Y s N O=>⟨M,j.1,j.2,r,s.gs.sub,N,O,l,λw U H2 x W=>?_⟩;exact k w U H2 (s.trans (x.stp s.gs)) (.later s (W.nM s.gs))
theorem FN{E:Expr}{f:D->Option R}{q:P}(m:∀{l},PE X a l->PE X E (Vw (Vo X.K f) l))(o:SX X c a pa)(t:∀ρ,HH.ev c q ρ=(HH.fU (isVar pa) (HH.ev c pa) ρ).bind λx ρ=>lift (f x) ρ)(u:isVar q=none):SX X c E q:=by obtain⟨l,h1,y⟩:=o.fU;refine⟨di (m h1) ?_,λi h=>by rw[u]at h;cases h⟩;rintro σ H Q⟨F,ρ,r,ρ',g,e,k⟩;rw[t]at e;obtain⟨x,ρ1,z,j⟩:=aa e;have A:=aJ j;clear j;obtain⟨j,B⟩:=A;subst B;refine y g z λv C L s G=>⟨C,x,r,s.gs.sub,G,j,λw I H2 x J=>?_⟩;exact k w I H2 (s.trans (x.stp s.gs)) (.later s (J.nM s.gs))
theorem GS.freeze{b:Bool}(g:GS K F ρ σ H)(e:ρ[i]?=some (.own b ds)):∃v A,σ[i]?=some (some v)/\aZ K F ρ σ H A (ρ.set i (.val b (.lst ds))) σ H/\Rep K A v (.lst ds):=by
 obtain⟨a,xs,h1,E,G,I⟩:=g.nF i _ ds e rfl;have hi:i<ρ.length:=(gw e).1;have y:aB F (upd F a (.lst xs)):=aB.cz G;have B:Rep K (upd F a (.lst xs)) (.ref a) (.lst ds):=by rw[Rep];exact⟨a,xs,rfl,cR.of aO,I.mono y⟩
 have J:Own ρ σ a:=⟨i,⟨_,_,e,rfl⟩,h1⟩;have r:∀j x,aM (ρ.set i (.val b (.lst ds))) σ j x->aM ρ σ j x/\j≠i:=λj x⟨⟨s,h,m,u⟩,z⟩=>by
  by_cases f:j=i;.subst f;rw[getElem?_set_self hi]at m;cases m;cases u
  .rw[eX f]at m;exact⟨⟨⟨s,h,m,u⟩,z⟩,f⟩
 refine⟨.ref a,upd F a (.lst xs),h1,⟨⟨λx o q=>?_,by simpa using g.len,λj L d q=>?_,λj s h q w=>?_,λj k x q w=>g.dis j k x (r j x q).1 (r k x w).1⟩,y,λx n C=>?_,λ_ _ q _=>q,λx⟨j,q⟩=>.inl ⟨j,(r j x q).1⟩,by simp,λj s q l=>⟨rfl,?_⟩⟩,B⟩
 . by_cases t:x=a;.subst t;rw[aO]at q;cases q;exact E
   .rw[aD t]at q;exact g.sub x o q
 . by_cases f:j=i;.subst f;rw[getElem?_set_self hi]at q;cases q;exact⟨_,h1,B⟩
   .rw[eX f]at q;obtain⟨v,m,u⟩:=g.val j L d q;exact⟨v,m,u.mono y⟩
 . by_cases f:j=i;.subst f;rw[getElem?_set_self hi]at q;cases q;cases w
   . rw[eX f]at q;obtain⟨x,ys,m,u,z,M⟩:=g.own j s h q w;have t:x≠a:=by rintro rfl;exact f (g.dis j i x ⟨⟨s,h,q,w⟩,m⟩ ⟨⟨_,_,e,rfl⟩,h1⟩)
     exact⟨x,ys,m,u,by rw[aD t];exact z,M.mono y⟩
 . by_cases t:x=a;.subst t;exact .inl J
   .rw[aD t]at C;exact absurd n C
 . by_cases f:j=i;.subst f;rw[e]at q;cases q;refine⟨_,getElem?_set_self hi,?_⟩;cases b with|true=>exact .inr ⟨_,rfl⟩|false=>cases l
   .exact⟨s,by rw[eX f];exact q,.refl s⟩
theorem GS.Af{m:Dc}(g:GS K F ρ σ H)(e:ρ[i]?=some (.oU m)):∃a,σ[i]?=some (some (.ref a))/\H a=some m.ho/\∀u,aZ K F ρ σ H (upd F a (.dI u m.ho)) (ρ.set i (.val false (.dC m))) σ (upd H a (.dI u m.ho))/\Rep K (upd F a (.dI u m.ho)) (.ref a) (.dC m):=by
 obtain⟨a,I,h1,J,L,M⟩:=g.own i _ _ e rfl;cases(show I=m.ho from M);have hi:i<ρ.length:=(gw e).1;refine⟨a,h1,J,λu=>?_⟩;have A:aB F (upd F a (.dI u m.ho)):=aB.cz L;have C:Rep K (upd F a (.dI u m.ho)) (.ref a) (.dC m):=by rw[Rep];exact⟨a,u,rfl,aO⟩
 have E:Own ρ σ a:=⟨i,⟨_,_,e,rfl⟩,h1⟩;have w:∀j x,aM (ρ.set i (.val false (.dC m))) σ j x->aM ρ σ j x/\j≠i:=λj x⟨⟨s,r,t,y⟩,B⟩=>by
  by_cases f:j=i;.subst f;rw[getElem?_set_self hi]at t;cases t;cases y
  .rw[eX f]at t;exact⟨⟨⟨s,r,t,y⟩,B⟩,f⟩
 refine⟨⟨⟨λx o q=>?_,by simpa using g.len,λj N d q=>?_,λj s r q z=>?_,λj k x q z=>g.dis j k x (w j x q).1 (w k x z).1⟩,A,λx n G=>?_,λx o q n=>?_,λx⟨j,q⟩=>.inl ⟨j,(w j x q).1⟩,by simp,λj s q l=>⟨rfl,?_⟩⟩,C⟩
 . by_cases h:x=a;.subst h;rw[aO]at q ⊢;exact q
   .rw[aD h]at q ⊢;exact g.sub x o q
 . by_cases f:j=i;.subst f;rw[getElem?_set_self hi]at q;cases q;exact⟨_,h1,C⟩
   .rw[eX f]at q;obtain⟨v,t,y⟩:=g.val j N d q;exact⟨v,t,y.mono A⟩
 . by_cases f:j=i;.subst f;rw[getElem?_set_self hi]at q;cases q;cases z
   . rw[eX f]at q;obtain⟨x,ys,t,y,B,O⟩:=g.own j s r q z;have h:x≠a:=by rintro rfl;exact f (g.dis j i x ⟨⟨s,r,q,z⟩,t⟩ ⟨⟨_,_,e,rfl⟩,h1⟩)
     exact⟨x,ys,t,by rw[aD h];exact y,by rw[aD h];exact B,O.mono A⟩
 . by_cases h:x=a;.subst h;exact .inl E
   .rw[aD h]at G;exact absurd n G
 . have h:x≠a:=by rintro rfl;exact n E
   rw[aD h];exact q
 . by_cases f:j=i;.subst f;rw[e]at q;cases q;cases l
   .exact⟨s,by rw[eX f];exact q,.refl s⟩
theorem GS.Bs{f:List (Int×D)}(g:GS K F ρ σ H)(e:ρ[i]?=some (.oV f)):∃a vs,σ[i]?=some (some (.ref a))/\H a=some (vX (f.map (·.1)) vs)/\∀u,aZ K F ρ σ H (upd F a (.dI u (vX (f.map (·.1)) vs))) (ρ.set i (.val false (.dv (f.map (·.1)) (f.map (·.2))))) σ (upd H a (.dI u (vX (f.map (·.1)) vs)))/\Rep K (upd F a (.dI u (vX (f.map (·.1)) vs))) (.ref a) (.dv (f.map (·.1)) (f.map (·.2))):=by
 obtain⟨a,Q,h1,I,J,L⟩:=g.own i _ _ e rfl;obtain⟨vs,rfl,M⟩:=L;have hi:i<ρ.length:=(gw e).1;refine⟨a,vs,h1,I,λu=>?_⟩;have A:aB F (upd F a (.dI u (vX (f.map (·.1)) vs))):=aB.cz J;have C:Rep K (upd F a (.dI u (vX (f.map (·.1)) vs))) (.ref a) (.dv (f.map (·.1)) (f.map (·.2))):=by rw[Rep];exact⟨a,u,vs,rfl,aO,M.mono A,by simp⟩
 have E:Own ρ σ a:=⟨i,⟨_,_,e,rfl⟩,h1⟩;have w:∀j x,aM (ρ.set i (.val false (.dv (f.map (·.1)) (f.map (·.2))))) σ j x->aM ρ σ j x/\j≠i:=λj x⟨⟨s,r,t,y⟩,B⟩=>by
  by_cases h:j=i;.subst h;rw[getElem?_set_self hi]at t;cases t;cases y
  .rw[eX h]at t;exact⟨⟨⟨s,r,t,y⟩,B⟩,h⟩
 refine⟨⟨⟨λx o q=>?_,by simpa using g.len,λj N d q=>?_,λj s r q z=>?_,λj k x q z=>g.dis j k x (w j x q).1 (w k x z).1⟩,A,λx n G=>?_,λx o q n=>?_,λx⟨j,q⟩=>.inl ⟨j,(w j x q).1⟩,by simp,λj s q l=>⟨rfl,?_⟩⟩,C⟩
 . by_cases m:x=a;.subst m;rw[aO]at q ⊢;exact q
   .rw[aD m]at q ⊢;exact g.sub x o q
 . by_cases h:j=i;.subst h;rw[getElem?_set_self hi]at q;cases q;exact⟨_,h1,C⟩
   .rw[eX h]at q;obtain⟨v,t,y⟩:=g.val j N d q;exact⟨v,t,y.mono A⟩
 . by_cases h:j=i;.subst h;rw[getElem?_set_self hi]at q;cases q;cases z
   . rw[eX h]at q;obtain⟨x,ys,t,y,B,O⟩:=g.own j s r q z;have m:x≠a:=by rintro rfl;exact h (g.dis j i x ⟨⟨s,r,q,z⟩,t⟩ ⟨⟨_,_,e,rfl⟩,h1⟩)
     exact⟨x,ys,t,by rw[aD m];exact y,by rw[aD m];exact B,O.mono A⟩
 . by_cases m:x=a;.subst m;exact .inl E
   .rw[aD m]at G;exact absurd n G
 . have m:x≠a:=by rintro rfl;exact n E
   rw[aD m];exact q
 . by_cases h:j=i;.subst h;rw[e]at q;cases q;cases l
   .exact⟨s,by rw[eX h];exact q,.refl s⟩
theorem Inv.Ly{X:Cx}{f:List (Addr×Obj)}{s:Shared}{a:Addr}{g:List (Key×V)}(I:L2.Inv X f σ H s)(h:H a=some (.dK g)):∃o,L2.Inv X f σ (upd H a (.dI o (.dK g))) s:=by obtain⟨k,l,vs,r,j⟩:=(show cG X.prog X.w H s.heap a (.dK g)from I.hok a _ h);obtain⟨o,ho,_⟩:=j.typeIs;exact⟨o,I.write (h':=s.heap) (t':=s.toks) (by rw[h];exact trivial) (.inl rfl) (λb u _ e=>e) ⟨o,ho⟩ ⟨ho,k,l,vs,r,j⟩⟩
theorem Ek(A:X.N[i]?=some x)(B:vG X.env.scope x)(hd:(x==("__debug__":Str))=false:=by decide)(t:(x==("__classdict__":Str))=false:=by decide):SX X c (.Name x pos) (.var i):=by
 have h:=gQ (X:=X) (pos:=pos) A B hd t;refine⟨?_,λj C=>by cases C;exact h⟩;rintro f s σ H Q I⟨F,ρ,r,ρ',g,e,k⟩;rw[HH.E1]at e;split at e;.rename_i b d q;cases e;obtain⟨v,h1,l⟩:=g.val i b d q;exact h f s σ H Q I ⟨v,h1,k v F H (.refl g) l⟩
 .rename_i b ds q;cases e;obtain⟨v,E,h1,l,m⟩:=g.freeze q;exact h f s σ H Q I ⟨v,h1,k v E H l m⟩
 .rename_i w q;cases e;obtain⟨a,h1,l,m⟩:=g.Af q;refine cY (h f s σ H (λv y=>v=.ref a/\y=H) I ⟨.ref a,h1,rfl,rfl⟩) λu s1⟨v,H1,I1,r1,e1,e2⟩=>?_;subst e1 e2;obtain⟨o,z⟩:=Inv.Ly I1 l;exact⟨.ref a,_,z,r1,k _ _ _ (m o).1 (m o).2⟩
 .rename_i w q;cases e;obtain⟨a,vs,h1,l,m⟩:=g.Bs q;refine cY (h f s σ H (λv y=>v=.ref a/\y=H) I ⟨.ref a,h1,rfl,rfl⟩) λu s1⟨v,H1,I1,r1,e1,e2⟩=>?_;subst e1 e2;obtain⟨o,z⟩:=Inv.Ly I1 l;exact⟨.ref a,_,z,r1,k _ _ _ (m o).1 (m o).2⟩
 .cases e
theorem rF{d:D}(h:PE X e (tC v))(hr:∀F,Rep X.K F v d):SX X c e (.con d):=⟨di h λσ H Q⟨F,ρ,r,ρ',g,e,k⟩=>by rw[HH.E2]at e;cases e;exact k v F H (.refl g) (hr F),λi h=>by cases h⟩
theorem aj{i j}:SX X c (.Constant (.int i) j pos) (.con (.int i)):=rF Gx λF=>by rw[Rep]
theorem mV{i j}:SX X c (.Constant (.bool i) j pos) (.con (.bl i)):=rF Ku λF=>by rw[Rep]
theorem cL{j}:SX X c (.Constant .none j pos) (.con .non):=rF Hf λF=>by rw[Rep]
theorem eH{i:Int}{t:Tok}(f:Gl X x)(j:X.mg x=some (.int i t))(hd:(x==("__debug__":Str))=false:=by decide):SX X c (.Name x pos) (.glob x (.int i)):=⟨di (zF (v:=.int i) f j ⟨t,rfl⟩ hd) λσ H Q⟨F,ρ,r,ρ',g,e,k⟩=>by rw[HH.E3]at e;cases e;exact k (.int i) F H (.refl g) (show Rep X.K F (.int i) (.int i)by rw[Rep]),λi h=>by cases h⟩
theorem cj.int{K:PySem.W.Frag}{F H:Hp}{v:V}{i:Int}(h:cj K F H v (.int i)):v=.int i:=by
 rcases h with h|⟨_,_,_,_,_,_,h⟩;.rw[Rep]at h;exact h
 .cases h
theorem cj.bl{K:PySem.W.Frag}{F H:Hp}{v:V}{i:Bool}(h:cj K F H v (.bl i)):v=.bl i:=by
 rcases h with h|⟨_,_,_,_,_,_,h⟩;.rw[Rep]at h;exact h
 .cases h
theorem cj.str{K:PySem.W.Frag}{F H:Hp}{v:V}{i:Str}(h:cj K F H v (.str i)):v=.str i:=by
 rcases h with h|⟨_,_,_,_,_,_,h⟩;.rw[Rep]at h;exact h
 .cases h
theorem cj.non{K:PySem.W.Frag}{F H:Hp}{v:V}(h:cj K F H v .non):v=.non:=by
 rcases h with h|⟨_,_,_,_,_,_,h⟩;.rw[Rep]at h;exact h
 .cases h
theorem cj.tup{K:PySem.W.Frag}{F H:Hp}{v:V}{ds:List D}(s:aB F H)(h:cj K F H v (.tup ds)):∃a xs,v=.ref a/\fV K H a xs/\az K F xs ds/\Rep K F v (.tup ds):=by
 rcases h with h|⟨_,_,_,_,_,_,h⟩;.have h':=h;rw[Rep]at h;obtain⟨a,xs,rfl,h1,f⟩:=h;exact⟨a,xs,rfl,aB.gG s h1,f,h'⟩
 .cases h
theorem cj.lst{K:PySem.W.Frag}{F H:Hp}{v:V}{ds:List D}(s:aB F H)(h:cj K F H v (.lst ds)):∃a xs,v=.ref a/\cR K H a xs/\az K F xs ds:=by
 rcases h with h|⟨a,xs,es,h1,f,g,h⟩;.rw[Rep]at h;obtain⟨a,xs,rfl,h1,f⟩:=h;exact⟨a,xs,rfl,s.seq h1,f⟩
 .cases h;exact⟨a,xs,h1,cR.of f,g⟩
theorem cj.dC{m:Dc}(s:aB F H)(h:cj K F H v (.dC m)):∃a o,v=.ref a/\H a=some (.dI o m.ho):=by
 rcases h with h|⟨_,_,_,_,_,_,h⟩;.rw[Rep]at h;obtain⟨a,o,rfl,h⟩:=h;exact⟨a,o,rfl,s _ _ h⟩
 .cases h
theorem ym{X:Cx}{f:List (Addr×Obj)}{s:Shared}{a:Addr}{j:Obj}{m:Dc}(I:L2.Inv X f σ H s)(h:H a=some (.dI j m.ho)):∃o,s.heap.get? a=some o/\o.cls=.type "dict":=by have z:=(show cG X.prog X.w H s.heap a (.dI j m.ho)from I.hok a _ h).2;cases m with|k g=>obtain⟨_,_,vs,_,d2⟩:=(show cG X.prog X.w H s.heap a (.dK _)from z);exact d2.typeIs|t g=>obtain⟨_,_,xs,_,o,es,q,h1,l,_⟩:=(show cG X.prog X.w H s.heap a (.dT _)from z);exact⟨o,h1,l.1⟩
theorem cj.dv{f:List Int}(s:aB F H)(h:cj K F H v (.dv f ds)):∃a o vs,v=.ref a/\H a=some (.dI o (vX f vs))/\az K F vs ds/\f.length=ds.length:=by
 rcases h with h|⟨_,_,_,_,_,_,h⟩;.rw[Rep]at h;obtain⟨a,o,vs,rfl,h,h1,g⟩:=h;exact⟨a,o,vs,rfl,s _ _ h,h1,g⟩
 .cases h
theorem xR{X:Cx}{f:List (Addr×Obj)}{s:Shared}{a:Addr}{g:Obj}{j:List Int}(I:L2.Inv X f σ H s)(h:H a=some (.dI g (vX j vs))):∃o,s.heap.get? a=some o/\o.cls=.type "dict":=by have z:=(show cG X.prog X.w H s.heap a (.dI g (vX j vs))from I.hok a _ h).2;obtain⟨_,_,vs,_,d2⟩:=(show cG X.prog X.w H s.heap a (.dK _)from z);exact d2.typeIs
theorem cj.items{d:D}(s:aB F H)(h:cj K F H v d)(e:items d=some ds):∃a xs,v=.ref a/\(cR K H a xs\/fV K H a xs)/\az K F xs ds:=by cases d with|tup es=>cases e;obtain⟨a,xs,h1,f,g,_⟩:=h.tup s;exact⟨a,xs,h1,.inr f,g⟩|lst es=>cases e;obtain⟨a,xs,h1,f,g⟩:=h.lst s;exact⟨a,xs,h1,.inl f,g⟩|_=>cases e
theorem bY.dw{Q:VK}{d:D}(s:aB F H)(r:Rep K F v d)(k:∀v g f,Ext F H g f->bY K g f H v (.val d)->Q v f):Q v H:=k v F H (.refl s) r
theorem cX(i:Int):Rep K F (.int i) (.int i):=by rw[Rep]
theorem fu(i:Bool):Rep K F (.bl i) (.bl i):=by rw[Rep]
theorem GK(i:Str):Rep K F (.str i) (.str i):=by rw[Rep]
theorem Hd:Rep K F .non .non:=by rw[Rep]
theorem xH{Q:VK}{xs:List V}{p:Addr}(s:aB F H)(r:az K F xs ds)(f:H p=none)(k:∀v h g,Ext F H h g->bY K h g H v (.own ds)->Q v g):Q (.ref p) (upd H p (.lst xs)):=by
 have j:F p=none:=by cases q:F p with|none=>rfl|some o=>rw[s p o q]at f;cases f
 exact k _ F _ ⟨aB.cz f,.refl _,s.trans (aB.cz f),λ_ a b=>absurd a b⟩ ⟨p,xs,rfl,aO,j,r,f⟩
theorem uY{Q:VK}{xs:List V}{p:Addr}(s:aB F H)(r:az K F xs ds)(g:H p=none)(k:∀v j h,Ext F H j h->bY K j h H v (.val (.tup ds))->Q v h):Q (.ref p) (upd H p (.tup xs)):=by
 have t:F p=none:=by cases q:F p with|none=>rfl|some o=>rw[s p o q]at g;cases g
 have l:aB F (upd F p (.tup xs)):=aB.cz t;refine k _ (upd F p (.tup xs)) _ ⟨aB.cz g,l,λb o e=>?_,λb n m=>?_⟩ ?_
 . by_cases f:b=p;.subst f;rw[aO]at e ⊢;exact e
   .rw[aD f]at e ⊢;exact s b o e
 . by_cases f:b=p;.subst f;exact jT g
   .rw[aD f]at m;exact absurd n m
 .show Rep K _ _ (.tup ds);rw[Rep];exact⟨p,xs,rfl,fV.of aO,r.mono l⟩
end
theorem mD(k:Int)(t:Tok)(l:Addr)(a:Array Value)(n:Nat)(b:Option Addr)(c:Array (Option Value)):Meets (Builtin.«int.__rmul__» ⟨[.int k t,.ref l],[]⟩) (λ_ R s=>s.heap.get? l=some ⟨.type "list",b,.seq a n,c⟩/\R (.ok (.ret Value.notImplemented)) s):=.of_wp λprog w A R s h=>by obtain⟨e,g,d,f,os⟩:=s;obtain⟨j,h⟩:=h;wp_walk;exact⟨_,rfl,h⟩
theorem u0(l:Addr)(a:Array Value)(n:Nat)(b:Option Addr)(c:Array (Option Value))(k:Int)(t:Tok)(h0:¬(!Builtin.List.listFitsIndex k)=true)(h1:¬a.size*k.toNat>(2^63-1)/8)(e:¬listTooLong (a.size*k.toNat)=true):Meets (Builtin.«list.__mul__» ⟨[.ref l,.int k t],[]⟩) (λ_ R s=>s.heap.get? l=some ⟨.type "list",b,.seq a n,c⟩/\R (.ok (.ret (Value.ref s.heap.objs.size))) {s with heap:=s.heap.push {cls:=.type "list",data:=.seq (foldl (·++·) #[] (replicate (if a.isEmpty=true then 0 else k.toNat) a))}}):=.of_wp λprog w A R s h=>by obtain⟨m,g,d,o,os⟩:=s;obtain⟨f,h⟩:=h;have j:=AutoListH.joined_fits e;wp_walk using wpAny_loadPart' f;refine wpAny_ite_false (decide_eq_false (Nat.not_lt.mpr j)) ?_;wp_walk;exact⟨_,rfl,h⟩
section
variable{X:Cx}{c:Call}{e a b d:Expr}{p pa pb pd:P}{pos:Pos}
theorem zf:fB X (binaryOp .Add) (λx y H Q=>∃l b xs o,x=.ref l/\y=.ref b/\cR X.K H l xs/\cR X.K H b o/\xs.length+o.length<=sizeLine/\∀p,H p=none->Q (.ref p) (upd H p (.lst (xs++o)))):=by
 intro z s σ H x y v u Q I E G h;obtain⟨l,b,xs,o,rfl,rfl,J,L,A,q⟩:=h;cases E;cases G;obtain⟨g,r,M,_⟩:=I.list J;obtain⟨f,B,N,_⟩:=I.list L;obtain⟨⟨cls,O,data,U⟩,ho,hc,n,hd⟩:=id M.isList;obtain⟨⟨C,t,data2,w⟩,j,k,W,m⟩:=id N.isList;simp only at hc hd k m;subst hc hd k m;have e:g.toArray++f.toArray=(g++f).toArray:=by simp
 refine concat_meets ⟨_,ho,rfl⟩ ⟨_,j,rfl⟩ noFill_list_add seq_list_add PySem.F.slot_list_add PySem.F.entry_list_add (PySem.F.args_list_add_2 _ _) (list_addW l b g.toArray f.toArray n W O t U w (by simp only[size_toArray];rw[<-r.length,<-B.length];exact A)) ⟨ho,j,?_⟩;rw[e];exact⟨.ref _,_,I.Hx (t':=s.toks) (r.append B) (by rw[length_append];exact A),rfl,q _ I.fresh⟩
theorem wJ:fB X (binaryOp .Add) (λx y H Q=>∃a b ys,x=.ref a/\y=.ref b/\fV X.K H a []/\fV X.K H b ys/\Q (.ref b) H):=by intro r s σ H x y v u Q I w z h;obtain⟨a,b,ys,rfl,rfl,A,B,q⟩:=h;cases w;cases z;obtain⟨l,C,E,_⟩:=I.tuple A;obtain⟨f,O,G,_⟩:=I.tuple B;obtain⟨⟨cls,J,data,L⟩,ho,hc,n,hd⟩:=id E;obtain⟨⟨t,m,data2,o⟩,g,j,M,k⟩:=id G;simp only at hc hd j k;subst hc hd j k;have N:l=[]:=C.jZ.mpr rfl;subst N;exact concat_meets ⟨_,ho,rfl⟩ ⟨_,g,rfl⟩ noFill_tuple_add seq_tuple_add slot_tuple_add entry_tuple_add (args_tuple_add_2 _ _) (tuple_addW0 a b _ f.toArray n M J m L o (by simp)) ⟨ho,g,⟨.ref b,H,I,rfl,q⟩⟩
theorem bD:fB X (binaryOp .Add) (rD X.K (o5 .add)):=by
 rintro f s σ H x y v u Q I h j⟨F,d,e,r,g,q,t,he,k⟩;replace he:lR d e=some r:=he;unfold lR at he;split at he;.cases he;rw[q.int]at h;rw[t.int]at j;exact DY f s σ H _ _ v u Q I h j ⟨_,_,rfl,rfl,bY.dw g (cX _) k⟩
 .rename_i xs ys;obtain⟨o,he⟩:=bU he;subst he;obtain⟨a,vs,rfl,w,l⟩:=q.lst g;obtain⟨b,z,rfl,A,m⟩:=t.lst g;exact zf f s σ H _ _ v u Q I h j ⟨a,b,vs,z,rfl,rfl,w,A,by rw[l.length,m.length];exact o,λp B=>xH g (l.append m) B k⟩
 . rename_i xs ys;obtain⟨o,he⟩:=bU he;subst he;obtain⟨a,vs,rfl,w,l,E⟩:=q.tup g;obtain⟨b,z,rfl,A,m,G⟩:=t.tup g;by_cases h0:vs=[]
   . subst h0;have C:xs=[]:=by have:=l.length;exact List.eq_nil_of_length_eq_zero this.symm
     subst C;exact wJ f s σ H _ _ v u Q I h j ⟨a,b,z,rfl,rfl,w,A,bY.dw g G k⟩
   . refine Aw f s σ H _ _ v u Q I h j ⟨a,b,vs,z,rfl,rfl,w,A,h0,by rw[l.length,m.length];exact o,λe=>?_,λ_ p B=>uY g (l.append m) B k⟩;subst e;have C:ys=[]:=by have:=m.length;exact List.eq_nil_of_length_eq_zero this.symm
     subst C;rw[append_nil]at k;exact bY.dw g E k
 .rename_i J L;obtain⟨o,he⟩:=bU he;subst he;rw[q.str]at h;rw[t.str]at j;exact qM f s σ H _ _ v u Q I h j ⟨_,_,rfl,rfl,o,bY.dw g (GK _) k⟩
 .cases he
theorem gq:fB X (binaryOp .Sub) (rD X.K (o5 .sub)):=by
 rintro f s σ H x y v u Q I g h⟨F,d,e,r,j,l,m,he,k⟩;replace he:pC d e=some r:=he;unfold pC at he;split at he;.cases he;rw[l.int]at g;rw[m.int]at h;exact Ex f s σ H _ _ v u Q I g h ⟨_,_,rfl,rfl,bY.dw j (cX _) k⟩
 .cases he
theorem za:fB X (binaryOp .Mult) (λx y H Q=>∃l k xs,x=.ref l/\y=.int k/\cR X.K H l xs/\-(2^63)<=k/\k<2^63/\xs.length*k.toNat<=sizeLine/\∀p,H p=none->Q (.ref p) (upd H p (.lst (replicate k.toNat xs).flatten))):=by
 intro o s σ H x y v u Q I B C h;obtain⟨l,k,xs,rfl,rfl,E,h1,G,w,q⟩:=h;cases B;obtain⟨t,rfl⟩:=C;obtain⟨f,r,J,_⟩:=I.list E;obtain⟨⟨cls,z,data,A⟩,ho,hc,n,hd⟩:=id J.isList;simp only at hc hd;subst hc hd;have g:f.toArray.size*k.toNat<=sizeLine:=by rw[size_toArray,<-r.length];exact w
 have L:¬ f.toArray.size*k.toNat>(2^63-1)/8:=by
  have:(sizeLine:Nat)<=(2^63-1)/8:=by decide
  omega
 have j:foldl (·++·) #[] (replicate (if f.toArray.isEmpty=true then 0 else k.toNat) f.toArray)=(replicate k.toNat f).flatten.toArray:=by
  have f0:∀m:Nat,foldl (·++·) #[] (replicate m f.toArray)=(replicate m f).flatten.toArray:=λm=>by have:=foldl_rep f m [];rw[nil_append]at this;exact this
  rw[f0];cases f with|nil=>simp|cons a N=>rw[if_neg (by simp)]
 refine wpAny_binaryOp_repeat_ref (T:="list") (U:="int") (by decide) ⟨_,ho,rfl⟩ (λM=>typeIs_int M k t) noFill_list_mul F.fills_int_mul F.slot_int_rmul repeat_list F.slot_int_index.lookup ?_;refine call_meets F.slot_int_rmul (typeIs_int s k t) F.entry_int_rmul (F.args_int_rmul_2 _ _) (mD k t l f.toArray n z A) ⟨ho,rfl,⟨_,ho,rfl⟩,?_⟩;refine call_meets F.slot_list_mul ⟨_,ho,rfl⟩ F.entry_list_mul (F.args_list_mul_2 _ _) (u0 l f.toArray n z A k t (by rw[fitsIndex_both h1 G];exact Bool.false_ne_true) L (by rw[yu g];exact Bool.false_ne_true)) ⟨ho,?_⟩;rw[j];exact⟨.ref _,_,I.Hx (t':=s.toks) (r.rep k.toNat) (by rw[len_rep,Nat.mul_comm];exact w),rfl,q _ I.fresh⟩
theorem jx:fillsNumberSlot (.type "tuple") "mul"=pure false:=PySem.fillsNumberSlot_seq (id:="tuple.__mul__") (r:=some (.builtin "tuple.__rmul__")) slot_tuple_mul.lookup (by decide+kernel) PySem.F.slot_tuple_rmul.lookup (by decide+kernel)
theorem oA:seqRepeat? (.type "tuple")=pure (some (.builtin "tuple.__mul__")):=by unfold seqRepeat?;rw[PySem.seqSlot_of (T:="tuple") (name:="__mul__") (id:="tuple.__mul__") slot_tuple_mul.lookup (by decide+kernel),PySem.seqSlot_of (T:="tuple") (name:="__rmul__") (id:="tuple.__rmul__") PySem.F.slot_tuple_rmul.lookup (by decide+kernel)];rfl
theorem j5(k:Int)(t:Tok)(l:Addr)(f:Array Value)(n:Nat)(j:Option Addr)(m:Array (Option Value)):Meets (Builtin.«int.__rmul__» ⟨[.int k t,.ref l],[]⟩) (λ_ R s=>s.heap.get? l=some ⟨.type "tuple",j,.seq f n,m⟩/\R (.ok (.ret Value.notImplemented)) s):=.of_wp λprog w A R s h=>by obtain⟨o,g,d,q,os⟩:=s;obtain⟨r,h⟩:=h;wp_walk;exact⟨_,rfl,h⟩
theorem rP(l:Addr)(f:Array Value)(n:Nat)(u:Option Addr)(y:Array (Option Value))(k:Int)(t:Tok)(h0:0<=k)(h1:k<2^63)(o:f.size*k.toNat<=sizeLine)(z:0<f.size):Meets (Builtin.«tuple.__mul__» ⟨[.ref l,.int k t],[]⟩) (λ_ R s=>s.heap.get? l=some ⟨.type "tuple",u,.seq f n,y⟩/\(k=1->R (.ok (.ret (Value.ref l))) s)/\(k≠1->R (.ok (.ret (Value.ref s.heap.objs.size))) {s with heap:=s.heap.push {cls:=.type "tuple",data:=.seq (foldl (·++·) #[] (replicate k.toNat f))}})):=.of_wp λprog w A R s h=>by
  obtain⟨B,g,d,L,os⟩:=s;obtain⟨m,C,E⟩:=h;have r:f.isEmpty=false:=by cases e:f.isEmpty with|false=>rfl|true=>rw[Array.isEmpty_iff_size_eq_zero]at e;omega
  show wpAny _ _ (asIndex (.int k t)>>=_) _ _ _;wp_walk using wpAny_loadPart' m;have G:IsTup B l f:=⟨_,m,rfl,n,rfl⟩;rw[if_neg (by simp;omega)];refine wpAny_bind (PyProof.Rows.tupleItemsOf_ G ?_);try dsimp only
  by_cases j:k=1;.rw[if_pos (by simp[j])];wp_walk using wpAny_loadPart' m;exact⟨_,rfl,C j⟩
  . have q:=E j;rw[if_neg (by simp[r,j])];by_cases I:k=0;.subst I;rw[if_pos (by simp)];unfold tupleExact;refine wpAny_bind (wpAny_newObj_type ?_);exact wpAny_pure ⟨_,rfl,q⟩
    . have M:(f.size:Int)*k<=sizeLine:=by
       have:((f.size*k.toNat:Nat):Int)<=(sizeLine:Nat):=by exact_mod_cast o
       rw[Int.natCast_mul,show((k.toNat:Nat):Int)=k by omega]at this;exact this
      have J:(sizeLine:Int)<=(2^63-1)/8:=by decide
      rw[if_neg (by simp[r];omega),if_neg (by omega),if_neg (by simp[Builtin.Tuple.tupleTooMany];omega)];unfold tupleExact;refine wpAny_bind (wpAny_newObj_type ?_ ?_);.exact wpAny_pure ⟨_,rfl,q⟩
      .have:=foldl_rep f.toList k.toNat [];rw[nil_append,show f.toList.toArray=f by simp]at this;show(foldl (·++·) #[] (replicate k.toNat f)).size<=sizeLine;rw[show(#[]:Array Value)=([]:List Value).toArray from rfl,this,size_toArray,len_rep,length_toList,Nat.mul_comm];exact o
theorem zY:fB X (binaryOp .Mult) (λx y H Q=>∃l k xs,x=.ref l/\y=.int k/\fV X.K H l xs/\0<xs.length/\0<=k/\k<2^63/\xs.length*k.toNat<=sizeLine/\(k=1->Q (.ref l) H)/\(k≠1->∀p,H p=none->Q (.ref p) (upd H p (.tup (replicate k.toNat xs).flatten)))):=by
 intro w s σ H x y v u Q I C E h;obtain⟨l,k,xs,rfl,rfl,G,m,h1,J,z,L,M⟩:=h;cases C;obtain⟨t,rfl⟩:=E;obtain⟨f,r,N,_⟩:=I.tuple G;obtain⟨⟨cls,A,data,B⟩,ho,hc,n,hd⟩:=id N;simp only at hc hd;subst hc hd;have g:f.toArray.size*k.toNat<=sizeLine:=by rw[size_toArray,<-r.length];exact z
 have j:foldl (·++·) #[] (replicate k.toNat f.toArray)=(replicate k.toNat f).flatten.toArray:=by have:=foldl_rep f k.toNat [];rw[nil_append]at this;exact this
 refine wpAny_binaryOp_repeat_ref (T:="tuple") (U:="int") (by decide) ⟨_,ho,rfl⟩ (λO=>typeIs_int O k t) jx F.fills_int_mul F.slot_int_rmul oA F.slot_int_index.lookup ?_;refine call_meets F.slot_int_rmul (typeIs_int s k t) F.entry_int_rmul (F.args_int_rmul_2 _ _) (j5 k t l f.toArray n A B) ⟨ho,rfl,⟨_,ho,rfl⟩,?_⟩;refine call_meets slot_tuple_mul ⟨_,ho,rfl⟩ PySem.F.entry_tuple_mul (PySem.F.args_tuple_mul_2 _ _) (rP l f.toArray n A B k t h1 J g (by rw[size_toArray,<-r.length];exact m)) ⟨ho,λe=>⟨.ref l,H,I,rfl,L e⟩,λe=>?_⟩;rw[j];refine⟨.ref s.heap.objs.size,_,I.laid (t':=s.toks) (o:=.tup (replicate k.toNat xs).flatten) (λb W q=>mq q) (dH) ?_,rfl,M e _ (I.hok.fresh (dH))⟩;exact⟨by rw[len_rep,Nat.mul_comm];exact z,_,r.rep k.toNat,IsTup.new _ _⟩
theorem fH:fB X (binaryOp .Mult) (rD X.K (o5 .mul)):=by
 rintro f s σ H x y v u Q I m g⟨F,d,e,r,h,q,t,he,k⟩;replace he:kh d e=some r:=he;unfold kh at he;split at he;.obtain⟨hc,he⟩:=bU he;subst he;rw[q.int]at m;rw[t.int]at g;exact Hh f s σ H _ _ v u Q I m g ⟨_,_,rfl,rfl,hc,bY.dw h (cX _) k⟩
 . rename_i xs i;obtain⟨⟨h1,o,l⟩,he⟩:=bU he;subst he;obtain⟨a,vs,rfl,w,j⟩:=q.lst h;rw[t.int]at g;have z:i<2^63:=by have A:=Nat.le_mul_of_pos_left i.toNat o;have C:i.toNat<=16777216:=le_trans A l;omega
   exact za f s σ H _ _ v u Q I m g ⟨a,i,vs,rfl,rfl,w,by omega,z,by rw[j.length];exact l,λp B=>xH h (j.rep i.toNat) B k⟩
 . rename_i xs i;obtain⟨⟨h1,o,l⟩,he⟩:=bU he;subst he;obtain⟨a,vs,rfl,w,j,E⟩:=q.tup h;rw[t.int]at g;have z:i<2^63:=by have A:=Nat.le_mul_of_pos_left i.toNat o;have C:i.toNat<=16777216:=le_trans A l;omega
   refine zY f s σ H _ _ v u Q I m g ⟨a,i,vs,rfl,rfl,w,by rw[j.length];exact o,h1,z,by rw[j.length];exact l,λe=>?_,λe p B=>uY h (j.rep i.toNat) B k⟩;subst e;refine bY.dw h ?_ k;have G:(replicate (1:Int).toNat xs).flatten=xs:=by simp
   rw[G];exact E
 .cases he
theorem ql:fB X (binaryOp .FloorDiv) (rD X.K (o5 .fdiv)):=by
 rintro f s σ H x y v u Q I g h⟨F,d,e,r,l,m,o,he,k⟩;replace he:j6 d e=some r:=he;unfold j6 at he;split at he
 . rename_i i j;obtain⟨⟨h1,w⟩,he⟩:=bU he;subst he;rw[m.int]at g;rw[o.int]at h;obtain⟨t,rfl⟩:=g;obtain⟨t',rfl⟩:=h;have q:j.natAbs.log2<9000:=by
    have:j.natAbs<2^200:=by
     have:(2:Nat)^200=1606938044258990275541962092341162602522202993782792835301376:=by decide
     omega
    have z:=(Nat.log2_lt (by omega)).mpr this;omega
   exact floordiv_int (by omega) (by rw[Int.fdiv_eq_ediv_of_nonneg i (by omega)];exact⟨.int _,H,I.tok _,⟨_,rfl⟩,bY.dw l (cX _) k⟩) (.inl (PyProof.noPylong_of_log2 q))
 .cases he
theorem eZ:fB X (binaryOp .Mod) (rD X.K (o5 .mod)):=by
 rintro f s σ H x y v u Q I g h⟨F,d,e,r,j,l,m,he,k⟩;replace he:pM d e=some r:=he;unfold pM at he;split at he;.obtain⟨h1,he⟩:=bU he;subst he;rw[l.int]at g;rw[m.int]at h;exact GJ f s σ H _ _ v u Q I g h ⟨_,_,rfl,rfl,h1,bY.dw j (cX _) k⟩
 .cases he
theorem je:fB X (binaryOp .Pow) (rD X.K (o5 .pow)):=by
 rintro f s σ H x y v u Q I g h⟨F,d,e,r,j,l,m,he,k⟩;replace he:pR d e=some r:=he;unfold pR at he;split at he;.obtain⟨⟨h1,q,o⟩,he⟩:=bU he;subst he;rw[l.int]at g;rw[m.int]at h;exact Hy f s σ H _ _ v u Q I g h ⟨_,_,rfl,rfl,⟨h1,by omega,o⟩,bY.dw j (cX _) k⟩
 .cases he
theorem aA{o:Op}{op:Operator}(ho:fB X (binaryOp op) (rD X.K (o5 o)))(f:SX X c a pa)(g:SX X c b pb):SX X c (.BinOp a op b pos) (.bin o pa pb):=rZ (λh1 h=>Lk ho h1 h) f g (λρ=>rfl) rfl
theorem Ga(j:SX X c a pa):SX X c (.UnaryOp .USub a pos) (.neg pa):=by refine FN (f:=wz) (λh1=>Kz ?_ h1) j (λρ=>rfl) rfl;rintro g s σ H x v Q I h⟨F,d,r,l,m,he,k⟩;unfold wz at he;obtain⟨i,o,q⟩:=map_some he;subst q;cases d<;>cases o;rw[m.int]at h;exact Fp g s σ H _ v Q I h ⟨_,rfl,bY.dw l (cX _) k⟩
theorem Bg{f:Int->Int->Bool}(ho:fB X (compareOp op) (Cq λi j=>.bl (f i j))):fB X (compareOp op) (rD X.K λx y=>(De f x y).map λk=>.val (.bl k)):=by
 rintro g s σ H x y v u Q I l m⟨F,d,e,r,o,q,w,he,k⟩;obtain⟨t,h,z⟩:=map_some (show(De f d e).map _=some r from he);subst z;unfold De at h;split at h;.cases h;rw[q.int]at l;rw[w.int]at m;exact ho g s σ H _ _ v u Q I l m ⟨_,_,rfl,rfl,bY.dw o (fu _) k⟩
 .cases h
theorem vO{f:Int->Int->Bool}(ho:fB X (compareOp op) (Cq λi j=>.bl (f i j))){o:Cm}(hc:cm o=De f):fB X (compareOp op) (rD X.K (mC o)):=by
 have e:mC o=λx y=>(De f x y).map λk=>.val (.bl k):=by funext x y;unfold mC;rw[hc]
 rw[e];exact Bg ho
theorem qI:fB X (compareOp .LtE) (rD X.K (mC .le)):=vO M9 rfl
theorem rR:fB X (compareOp .Gt) (rD X.K (mC .gt)):=vO Mw rfl
theorem mL{d:D}(h:cj K F H v d):decide (v=.non)=gO d:=by cases d with
 |non=>rw[h.non];rfl|bl _=>rw[h.bl];rfl|int _=>rw[h.int];rfl|str _=>rw[h.str];rfl|tup _=>
   rcases h with h|⟨a,_,_,rfl,_⟩;.rw[Rep]at h;obtain⟨a,_,rfl,_⟩:=h;rfl
   .rfl|lst _=>
   rcases h with h|⟨a,_,_,rfl,_⟩;.rw[Rep]at h;obtain⟨a,_,rfl,_⟩:=h;rfl
   .rfl|dC _=>
   rcases h with h|⟨a,_,_,rfl,_⟩;.rw[Rep]at h;obtain⟨a,_,rfl,_⟩:=h;rfl
   .rfl|dv _ _=>
   rcases h with h|⟨a,_,_,rfl,_⟩;.rw[Rep]at h;obtain⟨a,_,_,rfl,_⟩:=h;rfl
   .rfl
theorem jw:fB X (compareOp .Is) (rD X.K (mC .yS)):=by
 rintro f s σ H x y v u Q I h j⟨F,d,e,r,l,m,o,he,k⟩;obtain⟨t,g,q⟩:=map_some (show(Jx false d e).map _=some r from he);subst q;unfold Jx at g;split at g;.cases g;exact Gs f s σ H x y v u Q I h j ⟨o.non,by rw[mL m];exact bY.dw l (fu _) k⟩
 .cases g
theorem tQ:fB X (compareOp .IsNot) (rD X.K (mC .yD)):=by
 rintro f s σ H x y v u Q I h j⟨F,d,e,r,l,m,o,he,k⟩;obtain⟨t,g,q⟩:=map_some (show(Jx true d e).map _=some r from he);subst q;unfold Jx at g;split at g;.cases g;exact zc f s σ H x y v u Q I h j ⟨o.non,by rw[mL m];exact bY.dw l (fu _) k⟩
 .cases g
theorem fL{o:Cm}(ho:fB X (compareOp op) (rD X.K (mC o)))(f:SX X c a pa)(g:SX X c b pb)(h:behindInMarks op b=false):SX X c (.Compare a [op] [b] pos) (.cmp o pa pb):=rZ (λh1 j=>Bl ho h1 j h) f g (λρ=>rfl) rfl
theorem yp{o E:Cm}{l:CmpOp}(ho:fB X (compareOp op) (rD X.K (mC o)))(A:fB X (compareOp l) (rD X.K (mC E)))(G:SX X c a pa)(I:SX X c b pb)(hd:SX X c d pd)(J:lastMarks [op,l] [b,d]=false:=by with_unfolding_all rfl):SX X c (.Compare a [op,l] [b,d] pos) (.chain o E pa pb pd):=by
 obtain⟨ta,tb,h1,L,M⟩:=G.gF I;obtain⟨td,N,O⟩:=hd.fU;refine⟨di (xq ho A h1 L N J) ?_,λi h=>by cases h⟩;rintro σ H Q⟨F,ρ,r,ρ',g,e,k⟩;rw[HH.E10]at e;obtain⟨m,ρ1,U,e⟩:=aa e;obtain⟨t,W,j,e⟩:=aa e;have Y:=aJ j;clear j;obtain⟨j,B⟩:=Y;subst B;have f:flat m.2=true/\cm o m.1 m.2=some t:=by
  split at j;.rename_i Z;exact⟨Z,j⟩
  .cases j
 obtain⟨f,j⟩:=f;refine M g U λv u F' H' s pv y=>⟨F',m.1,m.2,.val (.bl t),s.gs.sub,pv,y,by unfold mC;rw[j];rfl,λw C H2 x q=>?_⟩;have s2:=s.trans (x.stp s.gs);have q:Rep X.K C w (.bl t):=q;rw[Rep]at q;subst q;refine⟨t,rfl,?_⟩;cases t with|false=>rw[if_neg Bool.false_ne_true]at e ⊢;cases e;exact k _ C H2 s2 (show Rep X.K C _ _ from fu _)|true=>
   rw[if_pos rfl]at e ⊢;obtain⟨z,ab,B,e⟩:=aa e;obtain⟨e4,e5⟩:=aJ e;subst e5;refine O s2.gs B λw F3 H3 s3 pw=>⟨F3,m.2,z,r,s3.gs.sub,?_,pw,e4,λw' F4 H4 x4 q=>?_⟩
   . have x1:=x.fs;have x2:=s3.cA;rcases y with y|⟨_,_,_,_,_,_,h⟩;.exact .inl ((y.mono x1).mono x2)
     .rw[h]at f;cases f
   .have s4:=s2.trans s3;exact k w' F4 H4 (s4.trans (x4.stp s4.gs)) (.later s4 (q.nM s4.gs))
end
section
variable{X:Cx}{c:Call}{e a b d:Expr}{p pa pb pd:P}{pos:Pos}{rest:List Expr}
theorem iW{x:D}{k:Bool}(h:u6 x=some k):x=.bl k:=by cases x<;>cases h;rfl
theorem j8{x:D}{k:Int}(h:lZ x=some k):x=.int k:=by cases x<;>cases h;rfl
theorem bO.bool{g j:Hp}{f:L2.St}{r:R}{k:Bool}(h:bO K g ρ' f j ρ σ H v r)(e:r.d=.bl k):v=.bl k:=by cases r with|val d=>cases(show d=.bl k from e);have h:Rep K g v (.bl k):=h;rw[Rep]at h;exact h|own ds=>cases e
def ST(X:Cx)(c:Call)(e:Expr)(p:P):Prop:=PT X e (Cr X.K (iK (HH.ev c p)))
def SW(X:Cx)(c:Call)(e:Expr)(p:P):Prop:=PW X e (Cr X.K (iK (HH.ev c p)))
theorem SW.st(h:SW X c e p):ST X c e p:=PW.pt h
theorem lE{t:TE}{Q:Bool->Hp->Prop}(hi:∀Q,vf X.K (HH.ev c p) σ H Q->t σ H Q)(h:Cr X.K (iK (HH.ev c p)) σ H Q):t σ H λx j=>∃k,x=.bl k/\Q k j:=by obtain⟨F,ρ,k,ρ',g,e,q⟩:=h;obtain⟨r,ρ1,l,f⟩:=aa e;have m:=aJ f;clear f;obtain⟨f,o⟩:=m;subst o;exact hi _ ⟨F,ρ,r,ρ1,g,l,λv u w s y=>⟨k,y.bool (iW f),q u w s⟩⟩
theorem dD(h:SX X c e p)(he:∀f,isTrue e X.env f=(do let v<-f;standAt e.pos;holding [v] (truthy v)):=by intro _;rfl):ST X c e p:=vR (wA h.ev he) λσ H Q q=>lE (λ_ z=>z) q
theorem dF{o:Cm}(ho:fB X (compareOp op) (rD X.K (mC o)))(j:SX X c a pa)(l:SX X c b pb)(m:behindInMarks op b=false):ST X c (.Compare a [op] [b] pos) (.cmp o pa pb):=by obtain⟨y,A,h1,B,C⟩:=j.gF l;refine vR (Bc ho h1 B m) λσ H Q q=>lE (t:=JC (rD X.K (mC o)) y A) (λQ z=>?_) q;obtain⟨F,ρ,r,ρ',g,e,k⟩:=z;rw[HH.E9]at e;obtain⟨h,ρ1,E,f⟩:=aa e;have G:=aJ f;clear f;obtain⟨f,I⟩:=G;subst I;refine C g E λv u J U s L M=>⟨J,h.1,h.2,r,s.gs.sub,L,M,f,λw N H2 x O=>?_⟩;exact k w N H2 (s.trans (x.stp s.gs)) (.later s (O.nM s.gs))
theorem dX(l:ST X c a pa):ST X c (.UnaryOp .Not a pos) (.not pa):=by
 refine vR (G9 l) ?_;rintro σ H Q⟨F,ρ,k,ρ',g,e,q⟩;unfold iK at e;rw[HH.E6]at e;obtain⟨r,ρ1,m,f⟩:=aa e;obtain⟨h,o,t,u⟩:=aa m;cases u;have w:=aJ f;clear f;obtain⟨f,y⟩:=w;subst y;have f:(!h)=k:=by cases f;rfl
 exact⟨F,ρ,h,_,g,t,λz j s=>by show Q (!h) j;rw[f];exact q z j s⟩
theorem Eu(ρ:List Sl):iK (HH.ev c (.or pa pb)) ρ=(iK (HH.ev c pa) ρ).bind λx ρ=>if x then .ok true ρ else iK (HH.ev c pb) ρ:=by unfold iK;rw[HH.E8];unfold iK;cases HH.ev c pa ρ with|exc _ _=>rfl|stuck=>rfl|ok r ρ1=>simp only[Res.bind];cases h:u6 r.d with|none=>rfl|some k=>cases k with|true=>rfl|false=>simp only[lift,false_eq_true,if_false];cases HH.ev c pb ρ1 with|exc _ _=>rfl|stuck=>rfl|ok f g=>simp only[Res.bind];cases h2:u6 f.d with|none=>rfl|some j=>rfl
theorem nY(f:ST X c a pa):SW X c (.BoolOp .Or [a] pos) pa:=Fx f
theorem ni(h:ST X c a pa)(j:SW X c (.BoolOp .Or (b::rest) pos) pb):SW X c (.BoolOp .Or (a::b::rest) pos) (.or pa pb):=by refine KD (KQ h j) ?_;rintro σ H Q⟨F,ρ,k,ρ',g,e,q⟩;rw[Eu]at e;obtain⟨x,ρ1,l,e⟩:=aa e;refine⟨F,ρ,x,ρ1,g,l,λf m s1=>?_⟩;cases x with|true=>rw[if_pos rfl]at e ⊢;cases e;exact q f m s1|false=>rw[if_neg Bool.false_ne_true]at e ⊢;exact⟨f,ρ1,k,ρ',s1.gs,e,λo H2 s2=>q o H2 (s1.trans s2)⟩
theorem wK(j:SX X c a pa):SX X c (.UnaryOp .Not a pos) (.not pa):=by refine⟨di (GF j.ev) ?_,λi h=>by cases h⟩;rintro σ H Q⟨F,ρ,r,ρ',g,e,k⟩;rw[HH.E6]at e;obtain⟨x,ρ1,l,m⟩:=aa e;cases m;exact lE (c:=c) (λ_ z=>z) ⟨F,ρ,x,_,g,l,λf o s=>k _ f o s (show Rep X.K f _ _ from fu _)⟩
theorem dJ{op}(f:SX X c a pa):PE X (.BoolOp op [a] pos) (vf X.K (HH.ev c pa)):=HN f.ev
theorem bW(o:SX X c a pa)(q:PE X (.BoolOp .And (b::rest) pos) (vf X.K (HH.ev c pb))):SX X c (.BoolOp .And (a::b::rest) pos) (.and pa pb):=by refine⟨di (DW o.ev q) ?_,λi h=>by cases h⟩;rintro σ H Q⟨F,ρ,r,ρ',g,e,k⟩;rw[HH.E7]at e;obtain⟨x,ρ1,s,e⟩:=aa e;refine lE (c:=c) (λ_ z=>z) (Q:=λx f=>if x=true then vf X.K (HH.ev c pb) σ f Q else Q (.bl false) f) ⟨F,ρ,x,ρ1,g,s,λl f s1=>?_⟩;cases x with|true=>rw[if_pos rfl]at e ⊢;obtain⟨y,t,u,w⟩:=aa e;cases w;obtain⟨A,B,C,j⟩:=aa u;have E:=aJ j;clear j;obtain⟨j,G⟩:=E;subst G;refine⟨l,ρ1,A,_,s1.gs,C,λv m H2 s2 I=>?_⟩;rw[I.bool (iW j)];exact k _ m H2 (s1.trans s2) (show Rep X.K m _ _ from fu _)|false=>rw[if_neg Bool.false_ne_true]at e ⊢;cases e;exact k _ l f s1 (show Rep X.K l _ _ from fu _)
theorem Kv(o:SX X c a pa)(q:PE X (.BoolOp .Or (b::rest) pos) (vf X.K (HH.ev c pb))):SX X c (.BoolOp .Or (a::b::rest) pos) (.or pa pb):=by refine⟨di (xM o.ev q) ?_,λi h=>by cases h⟩;rintro σ H Q⟨F,ρ,r,ρ',g,e,k⟩;rw[HH.E8]at e;obtain⟨x,ρ1,s,e⟩:=aa e;refine lE (c:=c) (λ_ z=>z) (Q:=λx f=>if x=true then Q (.bl true) f else vf X.K (HH.ev c pb) σ f Q) ⟨F,ρ,x,ρ1,g,s,λl f s1=>?_⟩;cases x with|true=>rw[if_pos rfl]at e ⊢;cases e;exact k _ l f s1 (show Rep X.K l _ _ from fu _)|false=>rw[if_neg Bool.false_ne_true]at e ⊢;obtain⟨y,t,u,w⟩:=aa e;cases w;obtain⟨A,B,C,j⟩:=aa u;have E:=aJ j;clear j;obtain⟨j,G⟩:=E;subst G;refine⟨l,ρ1,A,_,s1.gs,C,λv m H2 s2 I=>?_⟩;rw[I.bool (iW j)];exact k _ m H2 (s1.trans s2) (show Rep X.K m _ _ from fu _)
theorem rC(hc:ST X c e p)(u:SX X c a pa)(w:SX X c b pb):SX X c (.IfExp e a b pos) (.Dy p pa pb):=by refine⟨di (wB hc u.ev w.ev) ?_,λi h=>by cases h⟩;rintro σ H Q⟨F,ρ,r,ρ',g,e,k⟩;rw[HH.E11]at e;obtain⟨x,ρ1,y,e⟩:=aa e;refine⟨F,ρ,x,ρ1,g,y,λt A s1=>?_⟩;cases x with|true=>rw[if_pos rfl]at e ⊢;obtain⟨f,j,l,m⟩:=aa e;cases m;refine⟨t,ρ1,f,_,s1.gs,l,λv z H2 s2 o=>?_⟩;obtain⟨q,s3,_,s⟩:=s2.dI o;exact k v q H2 (s1.trans s3) s|false=>rw[if_neg Bool.false_ne_true]at e ⊢;obtain⟨f,j,l,m⟩:=aa e;cases m;refine⟨t,ρ1,f,_,s1.gs,l,λv z H2 s2 o=>?_⟩;obtain⟨q,s3,_,s⟩:=s2.dI o;exact k v q H2 (s1.trans s3) s
theorem nu:∀{ps:List P}{ρ ρ':List Sl}{ds:List D},evs c ps ρ=.ok ds ρ'->ds.length=ps.length|[],_,_,_,h=>by rw[yl]at h;cases h;rfl|p::ps,_,_,_,h=>by rw[nG]at h;obtain⟨r,ρ1,_,h⟩:=aa h;obtain⟨xs,f,g,h⟩:=aa h;cases h;simp[nu g]
theorem bu:SA X c [] []:=⟨iV dU λσ H Q⟨F,ρ,ds,ρ',g,e,k⟩=>by rw[yl]at e;cases e;exact k [] F H (.refl g) .nil,rfl⟩
theorem j0{ps:List P}(f:SX X c a pa)(hr:SA X c es ps)(hs:starEach (a::es) X.env=(false,eval a X.env)::starEach es X.env:=by rfl):SA X c (a::es) (pa::ps):=by refine⟨iV (bR f.ev hr.1 hs) ?_,by simp[hr.2]⟩;rintro σ H Q⟨F,ρ,ds,ρ',g,e,k⟩;rw[nG]at e;obtain⟨r,ρ1,h,e⟩:=aa e;obtain⟨xs,j,l,e⟩:=aa e;cases e;refine⟨F,ρ,r,ρ1,g,h,λv w y s m=>?_⟩;obtain⟨o,s1,_,q⟩:=s.dI m;refine⟨o,ρ1,xs,_,s1.gs,l,λvs t H2 s2 u=>?_⟩;exact k _ t H2 (s1.trans s2) (.cons (q.mono s2.cA) u)
theorem Ext.Ah{H0 h:Hp}{Q:VK}{xs:List V}(s:aZ K h ρ σ H0 F ρ' σ H)(r:az K F xs ds)(k:∀v g f,aZ K h ρ σ H0 g ρ' σ f->bO K g ρ' σ f ρ σ H0 v (.val (.tup ds))->Q v f)(p:Addr)(j:H p=none):Q (.ref p) (upd H p (.tup xs)):=uY s.gs.sub r j λv g f x l=>k v g f (s.trans (x.stp s.gs)) l
theorem cN{ps:List P}{x1}(h:SA X c es ps)(l:ps.length<=sizeLine:=by decide):SX X c (.Tuple es x1 pos) (.tup ps):=by refine⟨di (xG h.1) ?_,λi h=>by cases h⟩;rintro σ H Q⟨F,ρ,r,ρ',g,e,k⟩;rw[HH.E12]at e;obtain⟨ds,ρ1,f,e⟩:=aa e;cases e;exact⟨F,ρ,ds,_,g,f,λvs o q s j=>⟨by rw[j.length,nu f];exact l,λp m=>Ext.Ah s j k p m⟩⟩
theorem fO{ps:List P}(h:SA X c es ps)(l:ps.length<=sizeLine:=by decide):SX X c (.List es pos) (.lst ps):=by refine⟨di (xK h.1) ?_,λi h=>by cases h⟩;rintro σ H Q⟨F,ρ,r,ρ',g,e,k⟩;rw[HH.E13]at e;obtain⟨ds,ρ1,f,e⟩:=aa e;cases e;exact⟨F,ρ,ds,_,g,f,λvs t u s j=>⟨by rw[j.length,nu f];exact l,λp m=>xH s.gs.sub j m λv o H2 x q=>k v o H2 (s.trans (x.stp s.gs)) (.later s (q.nM s.gs))⟩⟩
theorem Ha{i:Int}{d:D}(h:at' ds i=some d):∃j,L2.jt ds.length i=some j/\ds[j]?=some d:=iz h
theorem QW:Pj X (rD X.K sH):=by
 rintro f slice g s σ H x y v u Q I o l⟨F,d,e,r,m,A,B,he,k⟩hs;unfold sH at he;obtain⟨ds,C,he⟩:=iz he;obtain⟨i,E,he⟩:=iz he;obtain⟨z,G,he⟩:=map_some he;subst he;cases j8 E;rw[B.int]at l;obtain⟨p,xs,rfl,hq,q⟩:=A.items m C;obtain⟨j,h1,J⟩:=Ha G;obtain⟨w,L,t⟩:=q.get J;have h:JT xs i=some w:=by unfold JT;rw[q.length,h1];exact L
 rcases hq with hq|hq;.exact zP f slice g s σ H _ _ v u Q I o l ⟨p,xs,i,w,rfl,rfl,hq,h,bY.dw m t k⟩ hs
 .exact Hs f slice g s σ H _ _ v u Q I o l ⟨p,xs,i,w,rfl,rfl,hq,h,bY.dw m t k⟩ hs
theorem aG(g:SX X c a pa)(h:SX X c b pb)(hs:uw b:=by intro _ _;rfl):SX X c (.Subscript a b pos) (.idx pa pb):=rZ (f:=sH) (λh1 j=>Lq QW h1 j hs) g h (λρ=>rfl) rfl
def Hm(K:PySem.W.Frag)(f:D->Option R):List V->Hp->VK->Prop:=λxs H Q=>∃x,xs=[x]/\Vo K f x H Q
theorem m8{E:Expr}{f:D->Option R}{q:P}(l:∀{t},PA X [a] t->PE X E (MJ (Hm X.K f) t))(m:SX X c a pa)(o:∀ρ,HH.ev c q ρ=(HH.fU (isVar pa) (HH.ev c pa) ρ).bind λx ρ=>lift (f x) ρ)(u:isVar q=none)(hs:starEach [a] X.env=(false,eval a X.env)::starEach [] X.env:=by rfl):SX X c E q:=by obtain⟨L,h1,y⟩:=m.fU;refine⟨di (l (bR h1 dU hs)) ?_,λi h=>by rw[u]at h;cases h⟩;rintro σ H Q⟨F,ρ,r,ρ',g,e,k⟩;rw[o]at e;obtain⟨x,ρ1,z,j⟩:=aa e;have A:=aJ j;clear j;obtain⟨j,B⟩:=A;subst B;refine y g z λv C M s G=>⟨v,rfl,C,x,r,s.gs.sub,G,j,λw I H2 x J=>?_⟩;exact k w I H2 (s.trans (x.stp s.gs)) (.later s (J.nM s.gs))
theorem KZ:dm X (.builtin "len") (Hm X.K λx=>blt .len [x]):=by rintro f s σ H xs h Q I r⟨x,j,F,d,l,g,m,he,k⟩;obtain⟨ds,o,he⟩:=map_some (show(items d).map _=some l from he);subst he;obtain⟨p,ys,rfl,q,t⟩:=m.items g o;exact nT f s σ H xs h Q I r ⟨p,ys,j,q,by rw[t.length];exact bY.dw g (cX _) k⟩
theorem Ep:dm X (.type "list") (Hm X.K λx=>blt .list [x]):=by rintro f s σ H xs h Q I r⟨x,j,F,d,m,g,o,he,k⟩;obtain⟨ds,q,he⟩:=map_some (show(items d).map _=some m from he);subst he;obtain⟨p,ys,rfl,t,u⟩:=o.items g q;exact nC f s σ H xs h Q I r ⟨p,ys,j,t,λl w=>xH g u w k⟩
theorem zm:dm X (.type "tuple") (Hm X.K λx=>blt .tuple [x]):=by rintro f s σ H xs m Q I r⟨x,o,F,d,u,g,q,he,k⟩;obtain⟨ds,h,he⟩:=map_some (show(items d).map _=some u from he);subst he;cases d with|tup es=>cases h;obtain⟨a,ys,rfl,j,t,rt⟩:=q.tup g;exact iB f s σ H xs m Q I r ⟨a,ys,o,.inr ⟨j,bY.dw g rt k⟩⟩|lst es=>cases h;obtain⟨a,ys,rfl,j,t⟩:=q.lst g;exact iB f s σ H xs m Q I r ⟨a,ys,o,.inl ⟨j,λl w=>uY g t w k⟩⟩|_=>cases h
theorem eF(f:x="len")(g:Gl X x)(j:X.mg x=none)(k:SX X c a pa)(hs:starEach [a] X.env=(false,eval a X.env)::starEach [] X.env:=by rfl):SX X c (.Call (.Name x p') [a] [] pos) (.blt .len [pa]):=by subst f;exact m8 (λh=>dR KZ g j PySem.boot_len h (he:=hs)) k (λρ=>rfl) rfl hs
theorem uc(f:x="list")(g:Gl X x)(j:X.mg x=none)(k:SX X c a pa)(hs:starEach [a] X.env=(false,eval a X.env)::starEach [] X.env:=by rfl):SX X c (.Call (.Name x p') [a] [] pos) (.blt .list [pa]):=by subst f;exact m8 (λh=>jA Ep g j (by decide+kernel) h (he:=hs)) k (λρ=>rfl) rfl hs
theorem cM(f:x="tuple")(g:Gl X x)(j:X.mg x=none)(k:SX X c a pa)(hs:starEach [a] X.env=(false,eval a X.env)::starEach [] X.env:=by rfl):SX X c (.Call (.Name x p') [a] [] pos) (.blt .tuple [pa]):=by subst f;exact m8 (λh=>jA zm g j (by decide+kernel) h (he:=hs)) k (λρ=>rfl) rfl hs
end
def yV(K:PySem.W.Frag)(np:Nat)(f:List Sl->Res R):Sp:=λvs H Q _=>vs.length=np/\∃F args r a,GS K F args (vs.map some) H/\f args=.ok r a/\∀v e b c,aZ K F args (vs.map some) H e a b c->bO K e a b c args (vs.map some) H v r->Q v c
section
variable{K:PySem.W.Frag}
def sy(K:PySem.W.Frag)(F:Hp)(ρ:List Sl)(σ:L2.St)(H:Hp)(ρ₀:List Sl)(H₀:Hp)(v:V):Arg->Prop|.dat d=>Rep K F v d|.tmp ds=>∃x xs,v=.ref x/\H x=some (.lst xs)/\F x=none/\az K F xs ds/\¬ Own ρ σ x/\(Own ρ₀ σ x\/H₀ x=none)|.dq i=>σ[i]?=some (some v)
structure qp(K:PySem.W.Frag)(F:Hp)(ρ:List Sl)(σ:L2.St)(H:Hp)(ρ₀:List Sl)(H₀:Hp)(as:List Arg)(vs:List V):Prop where
 len:as.length=vs.length
 one:∀(j:Nat)(a:Arg)(v:V),as[j]?=some a->vs[j]?=some v->sy K F ρ σ H ρ₀ H₀ v a
 dis:∀(j k:Nat)(ds es:List D)(x:Addr),as[j]?=some (.tmp ds)->as[k]?=some (.tmp es)->vs[j]?=some (.ref x)->vs[k]?=some (.ref x)->j=k
theorem sy.later{b f:Hp}{a:Arg}(s:aZ K F ρ σ H b ρ' σ f)(h:sy K F ρ σ H ρ₀ H₀ v a):sy K b ρ' σ f ρ₀ H₀ v a:=by cases a with|dat d=>exact Rep.mono s.cA h|dq i=>exact h|tmp ds=>
   obtain⟨x,xs,h1,c,g,j,e,k⟩:=h;refine⟨x,xs,h1,s.keep x _ c e,?_,j.mono s.cA,λo=>?_,k⟩;.cases q:b x with|none=>rfl|some o=>
       rcases s.oX x g (by rw[q];simp)with z|z;.exact absurd z e
       .exact(wg c z).elim
   . rcases s.mF x o with z|z;.exact e z
     .rw[c]at z;cases z
theorem qp.nil:qp K F ρ σ H ρ₀ H₀ [] []:=⟨rfl,λj a v h=>by simp at h,λj k ds es x h=>by simp at h⟩
theorem qp.cons{a:Arg}(h:sy K F ρ σ H ρ₀ H₀ v a)(t:qp K F ρ σ H ρ₀ H₀ as vs)(hd:∀ds x,a=.tmp ds->v=.ref x->∀(k:Nat)es,as[k]?=some (.tmp es)->vs[k]?≠some (.ref x)):qp K F ρ σ H ρ₀ H₀ (a::as) (v::vs):=by
 refine⟨by simp[t.len],λj b u h1 c=>?_,λj k ds es x h1 c e f=>?_⟩;.cases j with|zero=>simp at h1 c;subst h1;subst c;exact h|succ j=>exact t.one j b u (by simpa using h1) (by simpa using c)
 .cases j with
   |zero=>cases k with|zero=>rfl|succ k=>simp at h1 e;exact absurd (by simpa using f) (hd ds x h1 e k es (by simpa using c))
   |succ j=>cases k with|zero=>simp at c f;exact absurd (by simpa using e) (hd es x c f j ds (by simpa using h1))|succ k=>rw[t.dis j k ds es x (by simpa using h1) (by simpa using c) (by simpa using e) (by simpa using f)]
def vQ(ρ:List Sl):Arg->Sl->Prop|.dat d,s=>s=.val false d|.tmp ds,s=>s=.own false ds|.dq i,s=>(∃b d,ρ[i]?=some (.val b d)/\s=.val false d)\/(∃b ds,ρ[i]?=some (.own b ds)/\s=.own true ds)\/∃ds,ρ[i]?=some (.lent ds)/\s=.lent ds
theorem lA{ρ:List Sl}:∀{as:List Arg}{c:List Nat}{args:List Sl},bF ρ as c=some args->args.length=as.length/\(∀(j:Nat)(a:Arg)(s:Sl),as[j]?=some a->args[j]?=some s->vQ ρ a s)/\(∀(j:Nat)(i:Nat)(s:Sl)ds,as[j]?=some (.dq i)->args[j]?=some s->lst? s=some ds->i∉c)/\(∀(j k:Nat)(i:Nat)(s t:Sl)ds es,as[j]?=some (.dq i)->as[k]?=some (.dq i)->args[j]?=some s->args[k]?=some t->lst? s=some ds->lst? t=some es->j=k)
 |[],c,args,h=>by rw[qX]at h;cases h;exact⟨rfl,λj a s h=>by simp at h,λj i s ds h=>by simp at h,λj k i s t ds es h=>by simp at h⟩|a::as,c,args,h=>by--the Um slot,the Uo
   have A:∃s0 r u,args=s0::r/\bF ρ as u=some r/\vQ ρ a s0/\((∃i ds,a=.dq i/\lst? s0=some ds/\u=i::c/\i∉c)\/((∀i ds,a=.dq i->lst? s0≠some ds)/\u=c)):=by cases a with|dat d=>rw[qQ]at h;obtain⟨r,g,l⟩:=map_some h;exact⟨_,r,c,l.symm,g,rfl,.inr ⟨λi ds z=>(by cases z),rfl⟩⟩|tmp d=>rw[rA]at h;obtain⟨r,g,l⟩:=map_some h;exact⟨_,r,c,l.symm,g,rfl,.inr ⟨λi ds z=>(by cases z),rfl⟩⟩|dq i=>
      rw[kW]at h;split at h;.rename_i b d q;obtain⟨r,g,l⟩:=map_some h;exact⟨_,r,c,l.symm,g,.inl ⟨b,d,q,rfl⟩,.inr ⟨λ_ _ _ z=>(by cases z),rfl⟩⟩
      . rename_i b ds q;split at h;.cases h
        .rename_i o;obtain⟨r,g,l⟩:=map_some h;exact⟨_,r,_,l.symm,g,.inr (.inl ⟨b,ds,q,rfl⟩),.inl ⟨i,_,rfl,rfl,rfl,by simpa using o⟩⟩
      . rename_i ds q;split at h;.cases h
        .rename_i o;obtain⟨r,g,l⟩:=map_some h;exact⟨_,r,_,l.symm,g,.inr (.inr ⟨ds,q,rfl⟩),.inl ⟨i,_,rfl,rfl,rfl,by simpa using o⟩⟩
      .cases h
   obtain⟨s0,r,u,rfl,hr,B,o⟩:=A;obtain⟨O,Q,C,U⟩:=lA hr;have sub:∀i,i∉u->i∉c:=λi hi M=>by
    rcases o with⟨_,_,_,_,rfl,_⟩|⟨_,rfl⟩;.exact hi (mem_cons_of_mem _ M)
    .exact hi M
   refine⟨by simp[O],λj b s h1 f=>?_,λj i s ds h1 f p=>?_,λj k i s t ds es h1 f p y E G=>?_⟩;.cases j with|zero=>simp at h1 f;subst h1;subst f;exact B|succ j=>exact Q j b s (by simpa using h1) (by simpa using f)
   .cases j with|zero=>
       simp at h1 f;subst h1;subst f;rcases o with⟨N,_,e,_,_,m⟩|⟨m,_⟩;.cases e;exact m
       .exact absurd p (m i ds rfl)|succ j=>exact sub i (C j i s ds (by simpa using h1) (by simpa using f) p)
   . have W:∀(k:Nat)(t:Sl)es,a=.dq i->lst? s0=some ds->(as[k]?=some (.dq i))->r[k]?=some t->lst? t=some es->False:=λk t es w I J L he=>by
      rcases o with⟨N,_,e,_,rfl,m⟩|⟨m,_⟩;.rw[w]at e;cases e;exact C k i t es J L he mem_cons_self
      .exact m i ds w I
     have X:∀(k:Nat)(t:Sl)es,a=.dq i->lst? s0=some es->(as[k]?=some (.dq i))->r[k]?=some t->lst? t=some ds->False:=λk t es w I J L he=>by
      rcases o with⟨N,_,e,_,rfl,m⟩|⟨m,_⟩;.rw[w]at e;cases e;exact C k i t ds J L he mem_cons_self
      .exact m i es w I
     cases j with
     |zero=>cases k with|zero=>rfl|succ k=>simp at h1 p;subst p;exact(W k t es h1 E (by simpa using f) (by simpa using y) G).elim
     |succ j=>cases k with|zero=>simp at f y;subst y;exact(X j s es f G (by simpa using h1) (by simpa using p) E).elim|succ k=>rw[U j k i s t ds es (by simpa using h1) (by simpa using f) (by simpa using p) (by simpa using y) E G]
theorem qp.get(A:qp K F ρ σ H ρ₀ H₀ as vs){args:List Sl}{j:Nat}{s:Sl}(c:args.length=as.length)(h:args[j]?=some s):∃a v,as[j]?=some a/\vs[j]?=some v/\sy K F ρ σ H ρ₀ H₀ v a:=by
 have e:j<args.length:=(gw h).1;have h1:j<as.length:=by omega
 have b:j<vs.length:=by rw[<-A.len];exact h1
 exact⟨as[j],vs[j],by simp[h1],by simp[b],A.one j _ _ (by simp[h1]) (by simp[b])⟩
theorem args_gs{args:List Sl}(g:GS K F ρ σ H)(A:qp K F ρ σ H ρ₀ H₀ as vs)(h:bF ρ as []=some args):GS K F args (vs.map some) H:=by
 obtain⟨I,M,l3,l4⟩:=lA h;have N:∀{j:Nat}{v:V},vs[j]?=some v->(vs.map some)[j]?=some (some v):=λe=>by rw[getElem?_map,e];rfl
 have Y:∀{j:Nat}{v:V},(vs.map some)[j]?=some (some v)->vs[j]?=some v:=λ{j v}e=>by rw[getElem?_map]at e;cases q:vs[j]?with|none=>rw[q]at e;cases e|some w=>rw[q]at e;cases e;rfl
 refine⟨g.sub,by rw[I,A.len,length_map],λj b d e=>?_,λj s ds e J=>?_,λj k x⟨⟨s,ds,e1,e2⟩,O⟩⟨⟨t,es,f1,f2⟩,f3⟩=>?_⟩;.obtain⟨a,v,h1,u,m⟩:=A.get I e;have B:=M j a _ h1 e;refine⟨v,N u,?_⟩;cases a with|dat d'=>cases B;exact m|tmp ds=>cases B|dq i=>
     rcases B with⟨Q,d',r,c⟩|⟨_,_,_,c⟩|⟨_,_,c⟩;.cases c;obtain⟨w,f,p⟩:=g.val i Q d r;have m:σ[i]?=some (some v):=m;rw[m]at f;cases f;exact p
     .cases c
     .cases c
 .obtain⟨a,v,h1,u,m⟩:=A.get I e;have B:=M j a _ h1 e;cases a with|dat d'=>cases B;cases J|tmp es=>cases B;cases J;obtain⟨x,xs,rfl,c,f,p,_⟩:=m;exact⟨x,_,N u,c,f,xs,rfl,p⟩|dq i=>
     have m:σ[i]?=some (some v):=m;rcases B with⟨Q,d',r,c⟩|⟨Q,es,r,c⟩|⟨es,r,c⟩;.cases c;cases J
     .cases c;cases J;obtain⟨x,xs,f,p⟩:=g.own i _ _ r rfl;rw[m]at f;cases f;exact⟨x,xs,N u,p⟩
     .cases c;cases J;obtain⟨x,xs,f,p⟩:=g.own i _ _ r rfl;rw[m]at f;cases f;exact⟨x,xs,N u,p⟩
 . obtain⟨a,v,h1,u,m⟩:=A.get I e1;obtain⟨U,v',C,L,E⟩:=A.get I f1;have O:=Y O;have f3:=Y f3;rw[u]at O;cases O;rw[L]at f3;cases f3;have s1:=M j a _ h1 e1;have s2:=M k U _ C f1;have W:∀{i:Nat}{s:Sl}{ds:Oc},lst? s=some ds->vQ ρ (.dq i) s->∃G o,ρ[i]?=some G/\lst? G=some o:=λ{i s ds}l z=>by
    rcases z with⟨_,_,_,z⟩|⟨b,es,q,_⟩|⟨es,q,_⟩;.subst z;cases l
    .exact⟨_,_,q,rfl⟩
    .exact⟨_,_,q,rfl⟩
   cases a with
   |dat d=>cases s1;cases e2|tmp Ij=>cases U with|dat d=>cases s2;cases f2|tmp Z=>exact A.dis j k Ij Z x h1 C u L|dq i=>obtain⟨y,_,r,_,_,_,c,_⟩:=m;cases r;obtain⟨G,o,f,p⟩:=W f2 s2;exact absurd ⟨i,⟨G,o,f,p⟩,E⟩ c
   |dq i=>obtain⟨G,o,f,p⟩:=W e2 s1;cases U with|dat d=>cases s2;cases f2|tmp Z=>obtain⟨y,_,r,_,_,_,c,_⟩:=E;cases r;exact absurd ⟨i,⟨G,o,f,p⟩,m⟩ c|dq i'=>obtain⟨X,Up,q5,q6⟩:=W f2 s2;have:=g.dis i i' x ⟨⟨G,o,f,p⟩,m⟩ ⟨⟨X,Up,q5,q6⟩,E⟩;subst this;exact l4 j k i s t ds es h1 C e1 f1 e2 f2
theorem jC{as:List Arg}{ss:List Sl}:∀(ρ:List Sl)(n i:Nat),(cT as ss n ρ)[i]?=(ρ[i]?).map λs=>dj s (aK (n+i) as ss)
 |[],n,i=>by simp[lr,iD]|s::ρ,n,0=>by simp[lr,iD]|s::ρ,n,i+1=>by
   rw[iD];simp only[List.getElem?_cons_succ];rw[jC ρ (n+1) i];have:n+1+i=n+(i+1):=by omega
   rw[this]
theorem jE{as:List Arg}{ss:List Sl}:∀(ρ:List Sl)(n:Nat),(cT as ss n ρ).length=ρ.length|[],n=>rfl|s::ρ,n=>by rw[iD];simp[jE ρ]
theorem gA{i:Nat}:∀{as:List Arg}{ss:List Sl}{t:Sl},aK i as ss=some t->∃j:Nat,as[j]?=some (.dq i)/\ss[j]?=some t
 |[],_,_,h=>by simp[aK]at h|a::as,[],_,h=>by cases a<;>simp[aK]at h|a::as,s::ss,t,h=>by
   have b:aK i as ss=some t->∃j:Nat,(a::as)[j]?=some (.dq i)/\(s::ss)[j]?=some t:=λh=>by obtain⟨j,h1,c⟩:=gA h;exact⟨j+1,by simpa using h1,by simpa using c⟩
   cases a with|dat d=>exact b (by simpa[aK]using h)|tmp d=>exact b (by simpa[aK]using h)|dq k=>
     rw[aK]at h;split at h;.rename_i e;cases h;subst e;exact⟨0,rfl,rfl⟩
     .exact b h
theorem iG{i:Nat}:∀{as:List Arg}{ss:List Sl},as.length=ss.length->aK i as ss=none->∀j:Nat,as[j]?≠some (.dq i)
 |[],_,_,_=>λj h=>by simp at h|a::as,[],b,_=>by simp at b|a::as,s::ss,b,h=>λj c=>by
   have f:as.length=ss.length:=by simpa using b
   have g:aK i as ss=none/\a≠.dq i:=by cases a with|dat d=>exact⟨by simpa[aK]using h,by simp⟩|tmp d=>exact⟨by simpa[aK]using h,by simp⟩|dq k=>
      rw[aK]at h;split at h;.cases h
      .rename_i l;exact⟨h,λe=>l (by cases e;rfl)⟩
   cases j with|zero=>simp at c;exact g.2 c|succ j=>exact iG f g.1 j (by simpa using c)
theorem xm{Q X H':Hp}{args c:List Sl}{Y:L2.St}(s0:aZ K Q ρ₀ σ H₀ F ρ σ H)(A:qp K F ρ σ H ρ₀ H₀ as vs)(hb:bF ρ as []=some args)(s:aZ K F args (vs.map some) H X c Y H'):aZ K Q ρ₀ σ H₀ X (cT as c 0 ρ) σ H'/\∀v r,bO K X c Y H' args (vs.map some) H v r->bO K X (cT as c 0 ρ) σ H' ρ₀ σ H₀ v r:=by
 have g:=s0.gs;obtain⟨M,l2,l3,l4⟩:=lA hb;have up:∀{j:Nat}{v:V},vs[j]?=some v->(vs.map some)[j]?=some (some v):=λe=>by rw[getElem?_map,e];rfl
 have dn:∀{j:Nat}{v:V},(vs.map some)[j]?=some (some v)->vs[j]?=some v:=λ{j v}e=>by rw[getElem?_map]at e;cases q:vs[j]?with|none=>rw[q]at e;cases e|some w=>rw[q]at e;cases e;rfl
 have la:as.length=c.length:=by rw[s.len,M]--whose are the lists that the callee holds
 have own:∀b,Own args (vs.map some) b->(∃(j:Nat)(ds:List D),as[j]?=some (Arg.tmp ds)/\vs[j]?=some (V.ref b)/\¬ Own ρ σ b/\(Own ρ₀ σ b\/H₀ b=none))\/Own ρ σ b:=λb⟨j,⟨sl,ds,E,U⟩,e3⟩=>by obtain⟨a,v,h1,C,J⟩:=A.get M E;have s1:=l2 j a _ h1 E;have e3:=dn e3;rw[C]at e3;cases e3;cases a with|dat d=>cases s1;cases U|tmp es=>obtain⟨x,_,k,_,_,_,f,N⟩:=J;cases k;exact .inl ⟨j,es,h1,C,f,N⟩|dq i=>
    right;rcases s1 with⟨_,_,_,z⟩|⟨b',es,q,_⟩|⟨es,q,_⟩;.subst z;cases U
    .exact⟨i,⟨_,_,q,rfl⟩,J⟩
    .exact⟨i,⟨_,_,q,rfl⟩,J⟩
 have back:∀b,Own ρ σ b\/H b=none->Own ρ₀ σ b\/H₀ b=none:=λb h=>by
  rcases h with h|h;.exact s0.mF b h
  . by_cases ho:Own ρ₀ σ b;.exact .inl ho
    .right;cases e:H₀ b with|none=>rfl|some o=>rw[s0.keep b o e ho]at h;cases h
 have L:∀b,Own args (vs.map some) b->Own ρ₀ σ b\/H₀ b=none:=λb h=>by
  rcases own b h with⟨_,_,_,_,_,z⟩|z;.exact z
  .exact back b (.inl z)--a name's slot behind the call
 have slot:∀{i:Nat}{t:Sl},(cT as c 0 ρ)[i]?=some t->∃s1,ρ[i]?=some s1/\t=dj s1 (aK i as c):=λ{i t}h=>by rw[jC]at h;obtain⟨s1,E,U⟩:=map_some h;exact⟨s1,E,by rw[<-U,Nat.zero_add]⟩
 have NK:∀{i:Nat}{s1:Sl},ρ[i]?=some s1->(cT as c 0 ρ)[i]?=some (dj s1 (aK i as c)):=λ{i s1}h=>by rw[jC,h,Nat.zero_add];rfl--what the callee left of a list that was lent to it
 have lent:∀{i j:Nat}{s1 t:Sl}{ds:List D},ρ[i]?=some s1->lst? s1=some (.l ds)->as[j]?=some (.dq i)->c[j]?=some t->∃v s2,σ[i]?=some (some v)/\Y[j]?=some (some v)/\args[j]?=some s2/\jk s2 t/\((∃b,s1=.own b ds/\s2=.own true ds)\/(s1=.lent ds/\s2=.lent ds)):=λ{i j s1 t ds}h1 C J h4=>by
  have Z:j<args.length:=by rw[M];exact(gw J).1
  have E:args[j]?=some args[j]:=by simp[Z]
  obtain⟨a,v,k,f,N⟩:=A.get M E;rw[J]at k;cases k;have q4:=l2 j _ _ J E;have kind:(∃b,s1=.own b ds/\args[j]=.own true ds)\/(s1=.lent ds/\args[j]=.lent ds):=by
   rcases q4 with⟨_,_,z,_⟩|⟨b,es,z,z'⟩|⟨es,z,z'⟩;.rw[h1]at z;cases z;cases C
   .rw[h1]at z;cases z;cases C;exact .inl ⟨b,rfl,z'⟩
   .rw[h1]at z;cases z;cases C;exact .inr ⟨rfl,z'⟩
  have lk:xu args[j]=true:=by rcases kind with⟨_,_,z⟩|⟨_,z⟩<;>rw[z]<;>rfl
  obtain⟨u,s',y,z3⟩:=s.lk j _ E lk;rw[h4]at y;cases y;exact⟨v,_,N,by rw[u];exact up f,E,z3,kind⟩
 have BP:∀{i:Nat}{x:Addr},aM (cT as c 0 ρ) σ i x->aM ρ σ i x:=λ{i x}⟨⟨t,ds,E,U⟩,e3⟩=>by obtain⟨s1,k,f⟩:=slot E;refine⟨?_,e3⟩;cases s1 with|aC=>subst f;cases U|val b d=>subst f;cases U|own b es=>exact⟨_,_,k,rfl⟩|lent es=>exact⟨_,_,k,rfl⟩|oU m=>exact⟨_,_,k,rfl⟩|oV m=>exact⟨_,_,k,rfl⟩|hold _=>subst f;cases U
 refine⟨?_,λv r h=>?_⟩;rotate_left;.cases r with|val d=>exact h|own ds=>
     obtain⟨x,xs,h1,C,J,h4,h5,h6⟩:=h;refine⟨x,xs,h1,C,J,h4,λ⟨i,h⟩=>?_,?_⟩
     . have hO:=BP h;obtain⟨⟨s1,Ij,k,f⟩,N⟩:=hO;obtain⟨x',ag,w1,w2,_⟩:=g.own i s1 Ij k f;rw[N]at w1;cases w1;rcases h6 with h6|h6
       . rcases own x h6 with⟨_,_,_,_,z,_⟩|_;.exact z ⟨i,⟨s1,Ij,k,f⟩,N⟩
         .--a name was lent
           obtain⟨j,⟨sl,es,w3,w4⟩,w5⟩:=h6;obtain⟨a',v',G,O,y3⟩:=A.get M w3;have sa:=l2 j a' _ G w3;have w5:=dn w5;rw[O]at w5;cases w5;cases a' with|dat d=>cases sa;cases w4|tmp ah=>obtain⟨_,_,u1,_,_,_,u2,_⟩:=y3;cases u1;exact u2 ⟨i,⟨s1,Ij,k,f⟩,N⟩|dq i'=>
             have ex:∃s' ab,ρ[i']?=some s'/\lst? s'=some ab:=by
              rcases sa with⟨_,_,_,z⟩|⟨b,es,q,_⟩|⟨es,q,_⟩;.subst z;cases w4
              .exact⟨_,_,q,rfl⟩
              .exact⟨_,_,q,rfl⟩
             have:=g.dis i i' x ⟨⟨s1,Ij,k,f⟩,N⟩ ⟨ex,y3⟩;subst this;have hk:∃BL,Ij=.l BL:=by
              rcases sa with⟨_,_,_,z⟩|⟨b,es,q,_⟩|⟨es,q,_⟩;.subst z;cases w4
              .rw[k]at q;cases q;cases f;exact⟨_,rfl⟩
              .rw[k]at q;cases q;cases f;exact⟨_,rfl⟩
             obtain⟨BL,rfl⟩:=hk;have Z:j<c.length:=by rw[<-la];exact(gw G).1
             have B:c[j]?=some c[j]:=by simp[Z]
             obtain⟨v2,s2,u1,u2,u3,u4,u5⟩:=lent k f G B;rw[N]at u1;cases u1--the slot behind the call is a list's
             obtain⟨⟨t,dt,t1,t2⟩,_⟩:=h;obtain⟨s3,t3,t4⟩:=slot t1;rw[k]at t3;cases t3;have lo:∃t5,aK i as c=some t5:=by cases I:aK i as c with|none=>exact absurd G (iG la I j)|some t5=>exact⟨t5,rfl⟩
             obtain⟨t5,I⟩:=lo;obtain⟨j2,t6,t7⟩:=gA I;have ai:j2<args.length:=by rw[M];exact(gw t6).1
             obtain⟨_,s6,_,am,ac,ap,ae⟩:=lent k f t6 t7;have af:j2=j:=by
              have a1:lst? s6=some (.l BL):=by rcases ae with⟨_,_,z⟩|⟨_,z⟩<;>rw[z]<;>rfl
              have a2:lst? s2=some (.l BL):=by rcases u5 with⟨_,_,z⟩|⟨_,z⟩<;>rw[z]<;>rfl
              exact l4 j2 j i s6 s2 _ _ t6 G ac u3 a1 a2
             subst af;rw[B]at t7;cases t7;rw[I]at t4;refine h5 ⟨j2,?_,u2⟩;rcases u5 with⟨b,u,y⟩|⟨u,y⟩
             . subst u;subst y;rcases u4 with⟨d2,z⟩|⟨d2,z⟩;.exact⟨_,.l d2,B,by rw[z];rfl⟩
               .rw[z]at t4;subst t4;cases t2
             .subst u;subst y;exact⟨_,.l BL,B,by rw[show c[j2]=.lent BL from u4];rfl⟩
       .rw[w2]at h6;cases h6
     . rcases h6 with h6|h6;.exact L x h6
       .exact back x (.inr h6)
 refine⟨⟨s.gs.sub,by rw[jE];exact g.len,λi b d e=>?_,λi t ds e B=>?_,λi j x h1 C=>g.dis i j x (BP h1) (BP C)⟩,s0.cA.trans s.cA,λb n n'=>?_,λb o h n=>?_,λb⟨i,h⟩=>back b (.inl ⟨i,BP h⟩),by rw[jE];exact s0.len,λi s1 h l=>?_⟩;.--data
   obtain⟨s1,k,f⟩:=slot e;cases s1 with|aC=>cases f|lent es=>cases f|oU _=>cases f|oV _=>cases f|hold _=>cases f|val b' d'=>cases f;obtain⟨v,u,y⟩:=g.val i b d k;exact⟨v,u,y.mono s.cA⟩|own b' es=>cases I:aK i as c with|none=>rw[I]at f;cases f|some t=>rw[I]at f;obtain⟨j,u,y⟩:=gA I;obtain⟨v,s2,G,O,y3,y4,p⟩:=lent k rfl u y;cases t with|aC=>cases f|own _ _=>cases f|lent _=>cases f|oU _=>cases f|oV _=>cases f|hold _=>cases f|val b2 d2=>cases f;obtain⟨w,W,x2⟩:=s.gs.val j b2 d y;rw[O]at W;cases W;exact⟨v,G,x2⟩
 .--lists
   obtain⟨s1,k,f⟩:=slot e--a list that was not lent
   have stay:∀es,lst? s1=some es->(∀j:Nat,as[j]?≠some (.dq i))->t=s1->∃(a:Addr)(xs:HO),σ[i]?=some (some (V.ref a))/\H' a=some xs/\X a=none/\mJ K X xs ds:=λes he hn ht=>by
    subst ht;rw[he]at B;cases B;obtain⟨a,xs,u,y,z3,z4⟩:=g.own i _ ds k he;have no:¬ Own args (vs.map some) a:=λh=>by obtain⟨j,⟨sl,es,w1,w2⟩,w3⟩:=h;obtain⟨a',v,h1,C,J⟩:=A.get M w1;have sa:=l2 j a' _ h1 w1;have w3:=dn w3;rw[C]at w3;cases w3;cases a' with|dat d=>cases sa;cases w2|tmp es=>obtain⟨x,_,G,_,_,_,O,_⟩:=J;cases G;exact O ⟨i,⟨_,ds,k,he⟩,u⟩|dq i'=>
       have:∃s' ab,ρ[i']?=some s'/\lst? s'=some ab:=by
        rcases sa with⟨_,_,_,z⟩|⟨b,es,q,_⟩|⟨es,q,_⟩;.subst z;cases w2
        .exact⟨_,_,q,rfl⟩
        .exact⟨_,_,q,rfl⟩
       have:=g.dis i i' a ⟨⟨_,ds,k,he⟩,u⟩ ⟨this,J⟩;subst this;exact hn j h1
    refine⟨a,xs,u,s.keep a _ y no,?_,z4.mono s.cA⟩;cases q:X a with|none=>rfl|some o=>
      rcases s.oX a z3 (by rw[q];simp)with z|z;.exact absurd z no
      .rw[y]at z;exact(yc z4 z).elim
   cases I:aK i as c with
   |none=>have hn:=iG la I;rw[I]at f;cases s1 with|aC=>subst f;cases B|val b' d'=>subst f;cases B|own b' es=>exact stay _ rfl hn f|lent es=>exact stay _ rfl hn f|oU m=>exact stay _ rfl hn f|oV m=>exact stay _ rfl hn f|hold _=>subst f;cases B
   |some t2=>rw[I]at f;obtain⟨j,u,y⟩:=gA I;cases s1 with
     |aC=>subst f;cases B|val b' d'=>subst f;cases B|hold _=>subst f;cases B|oU m=>
       have Z:j<args.length:=by rw[M];exact(gw u).1
       rcases l2 j _ _ u (show args[j]?=some args[j]by simp[Z])with⟨_,_,z,_⟩|⟨_,_,z,_⟩|⟨_,z,_⟩<;>(rw[k]at z;cases z)|oV m=>
       have Z:j<args.length:=by rw[M];exact(gw u).1
       rcases l2 j _ _ u (show args[j]?=some args[j]by simp[Z])with⟨_,_,z,_⟩|⟨_,_,z,_⟩|⟨_,z,_⟩<;>(rw[k]at z;cases z)|own b' es=>
       obtain⟨v,s2,G,O,y3,y4,p⟩:=lent k rfl u y;have:t2≠.aC/\∀x,t2≠.lent x:=by
        rcases p with⟨_,_,p⟩|⟨p,_⟩;.subst p;rcases y4 with⟨_,rfl⟩|⟨_,rfl⟩<;>simp
        .cases p
       cases t2 with
       |aC=>exact absurd rfl this.1|hold x=>
         rcases p with⟨_,_,p⟩|⟨p,_⟩;.subst p;rcases y4 with⟨_,h⟩|⟨_,h⟩<;>cases h
         .cases p|oU x=>
         rcases p with⟨_,_,p⟩|⟨p,_⟩;.subst p;rcases y4 with⟨_,h⟩|⟨_,h⟩<;>cases h
         .cases p|oV x=>
         rcases p with⟨_,_,p⟩|⟨p,_⟩;.subst p;rcases y4 with⟨_,h⟩|⟨_,h⟩<;>cases h
         .cases p|lent x=>exact absurd rfl (this.2 x)|val b2 d2=>subst f;cases B|own b2 ar=>subst f;cases B;obtain⟨a,xs,W,x2⟩:=s.gs.own j _ _ y rfl;rw[O]at W;cases W;exact⟨a,xs,G,x2⟩
     |lent es=>
       obtain⟨v,s2,G,O,y3,y4,p⟩:=lent k rfl u y;have ht:t=.lent es:=by rw[f];cases t2<;>rfl
       subst ht;cases B;rcases p with⟨_,p,_⟩|⟨_,p⟩;.cases p
       .subst p;cases(show t2=.lent es from y4);obtain⟨a,xs,W,x2⟩:=s.gs.own j _ _ y rfl;rw[O]at W;cases W;exact⟨a,xs,G,x2⟩
 . by_cases q:F b=none
   . rcases s.oX b q n' with z|z;.exact(L b z).imp id jT
     . by_cases ho:Own ρ₀ σ b;.exact .inl ho
       .right;cases f:H₀ b with|none=>rfl|some o=>rw[s0.keep b o f ho]at z;exact z
   .exact s0.oX b n q
 . refine s.keep b o (s0.keep b o h n) λz=>?_;rcases L b z with z|z;.exact n z
   .rw[h]at z;cases z
 .obtain⟨E,s2,C,k2⟩:=s0.lk i s1 h l;refine⟨E,_,NK C,?_⟩;have Qn:=k2.xu l;refine jk.trans l k2 ?_;cases s2 with
   |aC=>cases Qn|oU _=>cases Qn|oV _=>cases Qn|hold _=>exact jk.refl _|val b d=>exact jk.refl _|lent es=>cases aK i as c with|none=>rfl|some t=>cases t<;>rfl
   |own b es=>cases b with|false=>cases Qn|true=>cases aK i as c with|none=>exact .inl ⟨_,rfl⟩|some t=>cases t with|aC=>exact .inl ⟨_,rfl⟩|lent _=>exact .inl ⟨_,rfl⟩|oU _=>exact .inl ⟨_,rfl⟩|oV _=>exact .inl ⟨_,rfl⟩|hold _=>exact .inl ⟨_,rfl⟩|own _ ds=>exact .inl ⟨_,rfl⟩|val _ d=>exact .inr ⟨_,rfl⟩
theorem qp.rebase{k f g H2:Hp}{ρ1 c:List Sl}(a:aZ K F ρ σ H k ρ1 σ f)(A:qp K g c σ H2 ρ1 f as vs):qp K g c σ H2 ρ H as vs:=by refine⟨A.len,λj b v h1 l=>?_,A.dis⟩;have h:=A.one j b v h1 l;cases b with|dat d=>exact h|dq i=>exact h|tmp ds=>
   obtain⟨x,xs,m,p,q,r,s,q6⟩:=h;refine⟨x,xs,m,p,q,r,s,?_⟩;rcases q6 with q6|q6;.exact a.mF x q6
   . by_cases ho:Own ρ σ x;.exact .inl ho
     .right;cases e:H x with|none=>rfl|some o=>rw[a.keep x o e ho]at q6;cases q6
theorem qp.K8{c b e H2:Hp}{ρ1 a:List Sl}{r:R}(s1:aZ K F ρ σ H c ρ1 σ b)(f:bO K c ρ1 σ b ρ σ H v r)(s2:aZ K c ρ1 σ b e a σ H2)(A:qp K e a σ H2 ρ1 b as vs):qp K e a σ H2 ρ H (m7 r::as) (v::vs):=by
 have h1:sy K c ρ1 σ b ρ H v (m7 r):=by cases r with|val d=>exact f|own ds=>exact f
 refine .cons (h1.later s2) (A.rebase s1) λds x l ev k es m g=>?_;cases r with|val d=>cases l|own o=>
   obtain⟨y,xs,j,p,t,u,q,w⟩:=f;rw[ev]at j;cases j;have h:=A.one k _ _ m g;obtain⟨z,B,s,_,_,_,_,w6⟩:=h;cases s;rcases w6 with w6|w6;.exact q w6
   .rw[p]at w6;cases w6
end
section
variable{K:PySem.W.Frag}{F F1 H H1:Hp}{ρ ρ1 ρ2:List Sl}{σ σ1:L2.St}
theorem lQ{s:Sl}(h:put ρ i s=some ρ1):∃s0,ρ[i]?=some s0/\xu s0=false/\ρ1=ρ.set i s:=by
 unfold put at h;split at h;.rename_i q;cases h;exact⟨_,q,rfl,rfl⟩
 .rename_i q;cases h;exact⟨_,q,rfl,rfl⟩
 .rename_i q;cases h;exact⟨_,q,rfl,rfl⟩
 .cases h
theorem aZ.put{r:R}(s:aZ K F ρ σ H F1 ρ1 σ1 H1)(w:bO K F1 ρ1 σ1 H1 ρ σ H v r)(h:HH.put ρ1 i (sE r)=some ρ2):aZ K F ρ σ H F1 ρ2 (σ1.set i (some v)) H1:=by
 obtain⟨s0,h0,A,rfl⟩:=lQ h;have hi:i<ρ1.length:=(gw h0).1;have m:i<σ1.length:=by rw[<-s.gs.len];exact hi
 have f:∀{j:Nat}{a:Addr},j≠i->aM (ρ1.set i (sE r)) (σ1.set i (some v)) j a->aM ρ1 σ1 j a:=λ{j a}c⟨⟨t,ds,o,p⟩,g⟩=>by rw[eX c]at o g;exact⟨⟨t,ds,o,p⟩,g⟩
 have new:∀{a:Addr},aM (ρ1.set i (sE r)) (σ1.set i (some v)) i a->¬ Own ρ1 σ1 a/\(Own ρ σ a\/H a=none):=λ{a}⟨⟨t,ds,o,p⟩,g⟩=>by rw[getElem?_set_self hi]at o;rw[getElem?_set_self m]at g;cases o;cases g;cases r with|val d=>cases p|own es=>obtain⟨x,xs,G,B,C,E,I,J⟩:=w;cases G;exact⟨I,J⟩
 refine⟨⟨s.gs.sub,by simp[s.gs.len],λj b d e=>?_,λj t ds e y=>?_,λj k a h1 z=>?_⟩,s.cA,s.oX,s.keep,λa⟨j,c⟩=>?_,by simp[s.len],λj t e l=>?_⟩
 . by_cases c:j=i;.subst c;rw[getElem?_set_self hi]at e;cases r with|own es=>cases e|val d'=>cases e;exact⟨v,getElem?_set_self m,w⟩
   .rw[eX c]at e ⊢;exact s.gs.val j b d e
 . by_cases c:j=i;.subst c;rw[getElem?_set_self hi]at e;cases r with|val d'=>cases e;cases y|own es=>cases e;cases y;obtain⟨x,xs,rfl,B,C,E,_⟩:=w;exact⟨x,_,getElem?_set_self m,B,C,xs,rfl,E⟩
   .rw[eX c]at e ⊢;exact s.gs.own j t ds e y
 . by_cases c:j=i
   . by_cases q:k=i;.rw[c,q]
     .subst c;exact absurd ⟨k,f q z⟩ (new h1).1
   . by_cases q:k=i;.subst q;exact absurd ⟨j,f c h1⟩ (new z).1
     .exact s.gs.dis j k a (f c h1) (f q z)
 . by_cases u:j=i;.subst u;exact(new c).2
   .exact s.mF a ⟨j,f u c⟩
 . obtain⟨o,t1,p,g⟩:=s.lk j t e l;have c:j≠i:=by rintro rfl;rw[h0]at p;cases p;rw[g.xu l]at A;cases A
   exact⟨by rw[eX c];exact o,t1,by rw[eX c];exact p,g⟩
theorem GS.mut{x:Nat}{b:Bool}{es:List D}{a:Addr}{ys:List V}(g:GS K F ρ σ H)(e:ρ[x]?=some (.own b ds))(s:σ[x]?=some (some (.ref a)))(r:az K F ys es):aZ K F ρ σ H F (ρ.set x (.own b es)) σ (upd H a (.lst ys)):=by
 have hi:x<ρ.length:=(gw e).1;have y:aM ρ σ x a:=⟨⟨_,_,e,rfl⟩,s⟩;obtain⟨L,xs,h1,M,z,N⟩:=g.nF x _ ds e rfl;rw[s]at h1;cases h1;have h:∀{j:Nat}{c:Addr},aM (ρ.set x (.own b es)) σ j c->aM ρ σ j c:=λ{j c}⟨⟨t,m,p,u⟩,q3⟩=>by
  by_cases f:j=x;.subst f;exact⟨⟨_,_,e,rfl⟩,q3⟩
  .rw[eX f]at p;exact⟨⟨t,m,p,u⟩,q3⟩
 refine⟨⟨λc o q=>?_,by simp[g.len],λj B d q=>?_,λj t m q w=>?_,λj k c p u=>g.dis j k c (h p) (h u)⟩,.refl _,λc n C=>absurd n C,λc o q n=>?_,λc⟨j,q⟩=>.inl ⟨j,h q⟩,by simp,λj t q l=>⟨rfl,?_⟩⟩
 . have:c≠a:=by rintro rfl;rw[z]at q;cases q
   rw[aD this];exact g.sub c o q
 . by_cases f:j=x;.subst f;rw[getElem?_set_self hi]at q;cases q
   .rw[eX f]at q;exact g.val j B d q
 . by_cases f:j=x;.subst f;rw[getElem?_set_self hi]at q;cases q;cases w;exact⟨a,_,s,aO,z,ys,rfl,r⟩
   . rw[eX f]at q;obtain⟨c,E,A,G,I,J⟩:=g.own j t m q w;have:c≠a:=by rintro rfl;exact f (g.dis j x c ⟨⟨t,m,q,w⟩,A⟩ y)
     exact⟨c,E,A,by rw[aD this];exact G,I,J⟩
 . have:c≠a:=by rintro rfl;exact n ⟨x,y⟩
   rw[aD this];exact q
 . by_cases f:j=x;.subst f;rw[e]at q;cases q;refine⟨_,getElem?_set_self hi,?_⟩;cases b with|true=>exact .inl ⟨_,rfl⟩|false=>cases l
   .exact⟨t,by rw[eX f];exact q,.refl t⟩
theorem GS.lend{b:Bool}(g:GS K F ρ σ H)(e:ρ[i]?=some (.own b ds)):GS K F (ρ.set i (.lent ds)) σ H:=by
 have hi:i<ρ.length:=(gw e).1;have f:∀{j:Nat}{c:Addr},aM (ρ.set i (.lent ds)) σ j c->aM ρ σ j c:=λ{j c}⟨⟨t,l,h,m⟩,q3⟩=>by
  by_cases a:j=i;.subst a;exact⟨⟨_,_,e,rfl⟩,q3⟩
  .rw[eX a]at h;exact⟨⟨t,l,h,m⟩,q3⟩
 refine⟨g.sub,by simp[g.len],λj p d q=>?_,λj t l q o=>?_,λj k c h m=>g.dis j k c (f h) (f m)⟩
 . by_cases a:j=i;.subst a;rw[getElem?_set_self hi]at q;cases q
   .rw[eX a]at q;exact g.val j p d q
 . by_cases a:j=i;.subst a;rw[getElem?_set_self hi]at q;cases q;cases o;exact g.own j _ _ e rfl
   .rw[eX a]at q;exact g.own j t l q o
theorem aZ.bB{b:Bool}(g:GS K F ρ σ H)(e:ρ[i]?=some (.own b ds))(s:aZ K F (ρ.set i (.lent ds)) σ H F1 ρ1 σ1 H1):aZ K F ρ σ H F1 (ρ1.set i (.own b ds)) σ1 H1/\∀v r,bO K F1 ρ1 σ1 H1 (ρ.set i (.lent ds)) σ H v r->bO K F1 (ρ1.set i (.own b ds)) σ1 H1 ρ σ H v r:=by
 have hi:i<ρ.length:=(gw e).1;have h1:(ρ.set i (.lent ds))[i]?=some (.lent ds):=getElem?_set_self hi;obtain⟨E,G,A,I⟩:=s.lk i _ h1 rfl;cases(show G=.lent ds from I);have u:i<ρ1.length:=(gw A).1;have B:∀{j:Nat}{c:Addr},aM (ρ.set i (.lent ds)) σ j c->aM ρ σ j c:=λ{j c}⟨⟨t,y,f,p⟩,m⟩=>by
  by_cases a:j=i;.subst a;exact⟨⟨_,_,e,rfl⟩,m⟩
  .rw[eX a]at f;exact⟨⟨t,y,f,p⟩,m⟩
 have J:∀{c:Addr},Own ρ σ c->Own (ρ.set i (.lent ds)) σ c:=λ{c}⟨j,⟨t,y,f,p⟩,m⟩=>by
  by_cases a:j=i;.subst a;exact⟨j,⟨_,_,h1,rfl⟩,m⟩
  .exact⟨j,⟨t,y,by rw[eX a];exact f,p⟩,m⟩
 have z:∀{j:Nat}{c:Addr},aM (ρ1.set i (.own b ds)) σ1 j c->aM ρ1 σ1 j c:=λ{j c}⟨⟨t,y,f,p⟩,m⟩=>by
  by_cases a:j=i;.subst a;exact⟨⟨_,_,A,rfl⟩,m⟩
  .rw[eX a]at f;exact⟨⟨t,y,f,p⟩,m⟩
 have w:∀{c:Addr}{h:Hp},Own (ρ.set i (.lent ds)) σ c\/h c=none->Own ρ σ c\/h c=none:=λ{c h}q=>q.imp (λ⟨j,q⟩=>⟨j,B q⟩) id;have L:∀{c:Addr}{h:Hp},Own (ρ.set i (.lent ds)) σ c\/nt (h c)=none->Own ρ σ c\/nt (h c)=none:=λ{c h}q=>q.imp (λ⟨j,q⟩=>⟨j,B q⟩) id;refine⟨⟨⟨s.gs.sub,by simp[s.gs.len],λj M d q=>?_,λj t y q C=>?_,λj k c f p=>s.gs.dis j k c (z f) (z p)⟩,s.cA,λc n N=>L (s.oX c n N),λc o q n=>s.keep c o q λ⟨j,x⟩=>n ⟨j,B x⟩,λc⟨j,q⟩=>w (s.mF c ⟨j,z q⟩),by simpa using s.len,λj t q l=>?_⟩,λv r h=>?_⟩
 . by_cases a:j=i;.subst a;rw[getElem?_set_self u]at q;cases q
   .rw[eX a]at q;exact s.gs.val j M d q
 . by_cases a:j=i;.subst a;rw[getElem?_set_self u]at q;cases q;cases C;exact s.gs.own j _ _ A rfl
   .rw[eX a]at q;exact s.gs.own j t y q C
 . by_cases a:j=i;.subst a;rw[e]at q;cases q;refine⟨E,_,getElem?_set_self u,?_⟩;cases b with|true=>exact .inl ⟨_,rfl⟩|false=>cases l
   .obtain⟨O,t',Q,U⟩:=s.lk j t (by rw[eX a];exact q) l;exact⟨O,t',by rw[eX a];exact Q,U⟩
 .cases r with|val d=>exact h|own es=>obtain⟨x,xs,f,p,m,W,X,Y⟩:=h;exact⟨x,xs,f,p,m,W,λ⟨j,q⟩=>X ⟨j,z q⟩,w Y⟩
theorem GS.give(g:GS K F ρ σ H)(e:ρ[i]?=some (.own false ds)):∃v,σ[i]?=some (some v)/\aZ K F ρ σ H F (ρ.set i .aC) σ H/\bO K F (ρ.set i .aC) σ H ρ σ H v (.own ds):=by
 have hi:i<ρ.length:=(gw e).1;obtain⟨a,xs,h1,s,u,w⟩:=g.nF i _ ds e rfl;have f:∀{j:Nat}{c:Addr},aM (ρ.set i .aC) σ j c->aM ρ σ j c/\j≠i:=λ{j c}⟨⟨t,o,h,m⟩,q3⟩=>by
  by_cases b:j=i;.subst b;rw[getElem?_set_self hi]at h;cases h;cases m
  .rw[eX b]at h;exact⟨⟨⟨t,o,h,m⟩,q3⟩,b⟩
 have p:aM ρ σ i a:=⟨⟨_,_,e,rfl⟩,h1⟩;refine⟨.ref a,h1,⟨⟨g.sub,by simp[g.len],λj y d q=>?_,λj t o q r=>?_,λj k c h m=>g.dis j k c (f h).1 (f m).1⟩,.refl _,λc n z=>absurd n z,λ_ _ q _=>q,λc⟨j,q⟩=>.inl ⟨j,(f q).1⟩,by simp,λj t q l=>⟨rfl,?_⟩⟩,a,xs,rfl,s,u,w,λ⟨j,q⟩=>?_,.inl ⟨i,p⟩⟩
 . by_cases b:j=i;.subst b;rw[getElem?_set_self hi]at q;cases q
   .rw[eX b]at q;exact g.val j y d q
 . by_cases b:j=i;.subst b;rw[getElem?_set_self hi]at q;cases q;cases r
   .rw[eX b]at q;exact g.own j t o q r
 . by_cases b:j=i;.subst b;rw[e]at q;cases q;cases l
   .exact⟨t,by rw[eX b];exact q,.refl t⟩
 .exact(f q).2 (g.dis j i a (f q).1 p)
theorem GS.more{τ:List (Option V)}(g:GS K F ρ σ H)(w:τ.length=n):GS K F (ρ++replicate n .aC) (σ++τ) H:=by
 have get:∀{j:Nat}{t:Sl},(ρ++replicate n Sl.aC)[j]?=some t->t≠.aC->ρ[j]?=some t/\j<ρ.length:=λ{j t}q ne=>by
  by_cases h:j<ρ.length;.rw[getElem?_append_left h]at q;exact⟨q,h⟩
  . rw[List.getElem?_append_right (by omega),List.getElem?_replicate]at q;split at q;.cases q;exact absurd rfl ne
    .cases q
 have m:∀{j:Nat}{v:Option V},j<ρ.length->(σ[j]?=some v↔(σ++τ)[j]?=some v):=λ{j v}h=>by rw[getElem?_append_left (by rw[<-g.len];exact h)]
 have e:∀{j:Nat}{c:Addr},aM (ρ++replicate n .aC) (σ++τ) j c->aM ρ σ j c:=λ{j c}⟨⟨t,o,p,l⟩,q3⟩=>by obtain⟨h1,f⟩:=get p (by rintro rfl;cases l);exact⟨⟨t,o,h1,l⟩,(m f).mpr q3⟩
 refine⟨g.sub,by simp[g.len,w],λj b d q=>?_,λj t o q u=>?_,λj k c p l=>g.dis j k c (e p) (e l)⟩;.obtain⟨h1,f⟩:=get q (by simp);obtain⟨v,r,s⟩:=g.val j b d h1;exact⟨v,(m f).mp r,s⟩
 .obtain⟨h1,f⟩:=get q (by rintro rfl;cases u);obtain⟨a,xs,r,s⟩:=g.own j t o h1 u;exact⟨a,xs,(m f).mp r,s⟩
theorem aZ.less{τ:List (Option V)}{m:Nat}(M:m=ρ.length)(g:GS K F ρ σ H)(hn:τ.length=n)(s:aZ K F (ρ++replicate n .aC) (σ++τ) H F1 ρ1 σ1 H1):aZ K F ρ σ H F1 (ρ1.take m) (σ1.take m) H1/\∀v r,bO K F1 ρ1 σ1 H1 (ρ++replicate n .aC) (σ++τ) H v r->bO K F1 (ρ1.take m) (σ1.take m) H1 ρ σ H v r:=by
 subst M;have N:ρ.length<=ρ1.length:=by rw[s.len];simp
 have l2:ρ.length<=σ1.length:=by rw[<-s.gs.len];exact N
 have A:∀{y:Type}{l:List y}{j:Nat}{x:y},(l.take ρ.length)[j]?=some x->l[j]?=some x/\j<ρ.length:=λ{y l j x}q=>by
  rw[List.getElem?_take]at q;split at q;.exact⟨q,by assumption⟩
  .cases q
 have C:∀{y:Type}{l:List y}{j:Nat}{x:y},j<ρ.length->l[j]?=some x->(l.take ρ.length)[j]?=some x:=λ{y l j x}f q=>by rw[List.getElem?_take,if_pos f];exact q
 have E:∀{c:Addr},Own (ρ++replicate n .aC) (σ++τ) c->Own ρ σ c:=λ{c}⟨j,⟨t,z,e,p⟩,u⟩=>by
  by_cases f:j<ρ.length;.rw[getElem?_append_left f]at e;rw[getElem?_append_left (by rw[<-g.len];exact f)]at u;exact⟨j,⟨t,z,e,p⟩,u⟩
  . rw[List.getElem?_append_right (by omega),List.getElem?_replicate]at e;split at e;.cases e;cases p
    .cases e
 have O:∀{c:Addr},Own ρ σ c->Own (ρ++replicate n .aC) (σ++τ) c:=λ{c}⟨j,⟨t,z,e,p⟩,u⟩=>by have f:j<ρ.length:=(gw e).1;exact⟨j,⟨t,z,by rw[getElem?_append_left f];exact e,p⟩,by rw[getElem?_append_left (by rw[<-g.len];exact f)];exact u⟩
 have B:∀{j:Nat}{c:Addr},aM (ρ1.take ρ.length) (σ1.take ρ.length) j c->aM ρ1 σ1 j c:=λ{j c}⟨⟨t,z,e,p⟩,u⟩=>⟨⟨t,z,(A e).1,p⟩,(A u).1⟩;have w:∀{c:Addr}{h:Hp},Own (ρ++replicate n .aC) (σ++τ) c\/h c=none->Own ρ σ c\/h c=none:=λ{c h}q=>q.imp E id;have Q:∀{c:Addr}{h:Hp},Own (ρ++replicate n .aC) (σ++τ) c\/nt (h c)=none->Own ρ σ c\/nt (h c)=none:=λ{c h}q=>q.imp E id;refine⟨⟨⟨s.gs.sub,by simp only[length_take];omega,λj b d q=>?_,λj t z q U=>?_,λj k c e p=>s.gs.dis j k c (B e) (B p)⟩,s.cA,λc a b=>Q (s.oX c a b),λc o q n=>s.keep c o q λx=>n (E x),λc⟨j,q⟩=>w (s.mF c ⟨j,B q⟩),by simp only[length_take];omega,λj t q l=>?_⟩,λv r h=>?_⟩;.obtain⟨h1,G⟩:=A q;obtain⟨v,I,J⟩:=s.gs.val j b d h1;exact⟨v,C G I,J⟩
 .obtain⟨h1,G⟩:=A q;obtain⟨a,xs,I,J⟩:=s.gs.own j t z h1 U;exact⟨a,xs,C G I,J⟩
 .have f:j<ρ.length:=(gw q).1;obtain⟨L,t',W,X⟩:=s.lk j t (by rw[getElem?_append_left f];exact q) l;rw[getElem?_append_left (by rw[<-g.len];exact f)]at L;refine⟨?_,t',C f W,X⟩;rw[List.getElem?_take,if_pos f];exact L
 .cases r with|val d=>exact h|own es=>obtain⟨x,xs,e,p,u,Y,Z,q6⟩:=h;exact⟨x,xs,e,p,u,Y,λ⟨j,q⟩=>Z ⟨j,B q⟩,w q6⟩
end
section
variable{X:Cx}{c:Call}{n:Nat}{e a b d:Expr}{p pa pb pd:P}{pos:Pos}{es:List Expr}{ps:List P}
inductive Rp(K:PySem.W.Frag)(f:List Sl->Res (List Arg))(σ:L2.St)(H:Hp)(Q:List V->Hp->Prop):Prop where|mk(F:Hp)(ρ:List Sl)(as:List Arg)(ρ':List Sl)(g:GS K F ρ σ H)(e:f ρ=.ok as ρ')(k:∀vs F' H',aZ K F ρ σ H F' ρ' σ H'->qp K F' ρ' σ H' ρ H as vs->Q vs H')
def SG(X:Cx)(c:Call)(es:List Expr)(ps:List P):Prop:=PA X es (Rp X.K (rN c ps))
theorem aq:SG X c [] []:=iV dU λσ H Q⟨F,ρ,as,ρ',g,e,k⟩=>by rw[xN]at e;cases e;exact k [] F H (.refl g) .nil
theorem zj(l:SX X c a pa)(hr:SG X c es ps)(hs:starEach (a::es) X.env=(false,eval a X.env)::starEach es X.env:=by rfl):SG X c (a::es) (pa::ps):=by cases hv:isVar pa with|none=>refine iV (bR l.ev hr hs) ?_;rintro σ H Q⟨F,ρ,as,ρ',g,e,k⟩;rw[qY,hv]at e;obtain⟨r,ρ1,m,e⟩:=aa e;obtain⟨xs,f,h,e⟩:=aa e;cases e;refine⟨F,ρ,r,ρ1,g,m,λv o y s1 q=>⟨o,ρ1,xs,_,s1.gs,h,λvs j H2 s2 A=>k _ j H2 (s1.trans s2) (qp.K8 s1 q s2 A)⟩⟩|some i=>refine iV (bR (l.var i hv) hr hs) ?_;rintro σ H Q⟨F,ρ,as,ρ',g,e,k⟩;rw[qY,hv]at e;obtain⟨B,s,t,e⟩:=aa e;obtain⟨u,w⟩:=aJ t;subst w;obtain⟨xs,f,h,e⟩:=aa e;cases e;obtain⟨v,h1,_⟩:=g.pk u;exact⟨v,h1,F,ρ,xs,_,g,h,λvs j H2 s2 A=>k _ j H2 s2 (.cons h1 A λds x z=>by cases z)⟩
theorem Bm{k f:Nat}{t:Addr}{fd:FuncData}{j:List Str}(I:gP X.prog X.w X.K X.mg X.base qD k t fd j (yV X.K j.length (c f)))(hr:fZ k X.A)(J:Gl X x)(L:X.mg x=some (.ref t))(M:keepIn X.K (.ref t)=true)(N:Binds X.K fd j [])(O:SG X c (e::es) ps)(U:(e::es).length=j.length)(u:(x==("__debug__":Str))=false:=by decide)(he:starEach (e::es) X.env=(false,eval e X.env)::starEach es X.env:=by rfl)(hpl:(backTo pos (starEach es X.env)).any (·.1)=false:=by rfl)(y:ps.length=(e::es).length:=by rfl):SX X c (.Call (.Name x p') (e::es) [] pos) (.call f ps):=by
 refine⟨di (tL (E:=E0) I hr J L M N .nil Dm O u he hpl) ?_,λi h=>by cases h⟩;rintro σ H Q⟨F,ρ,r,ρ',g,e,k⟩;rw[HH.E16]at e;obtain⟨as,ρ1,C,e⟩:=aa e;unfold j7 at e;split at e;.cases e
 . rename_i args m;split at e
   . rename_i r' l hc;cases e;refine⟨F,ρ,as,ρ1,g,C,λvs W Y s1 A=>?_⟩;have o:vs.length=j.length:=by
      have:∀{ps:List P}{ρ ρ':List Sl}{as:List Arg},rN c ps ρ=.ok as ρ'->as.length=ps.length:=by intro ps;induction ps with|nil=>intro ρ ρ' as h;rw[xN]at h;cases h;rfl|cons q j G=>
         intro ρ ρ' as h;rw[qY]at h;split at h;.obtain⟨_,_,_,h⟩:=aa h;obtain⟨xs,z,B,h⟩:=aa h;cases h;simp[G B]
         .obtain⟨_,_,_,h⟩:=aa h;obtain⟨xs,z,B,h⟩:=aa h;cases h;simp[G B]
      rw[<-A.len,this C,y,U]
     show yV X.K j.length (c f) (vs++[]) Y Q E0;rw[append_nil];refine⟨o,W,args,r,l,args_gs s1.gs A m,hc,λv Z ab H' s rr=>?_⟩;obtain⟨z1,z2⟩:=xm s1 A m s;exact k v Z H' z1 (z2 v r rr)
   .cases e
   .cases e
def Ni(K:PySem.W.Frag)(D:Ends)(h:Hp)(ρ':List Sl)(f:L2.St)(g:Hp)(ρ:List Sl)(σ:L2.St)(H:Hp)(fl:Fl):Prop:=match fl with|.next=>D.nx f g|.brk=>D.bk f g|.cont=>D.ct f g|.ret r=>∀v,bO K h ρ' f g ρ σ H v r->D.rt v g
inductive JK(K:PySem.W.Frag)(f:List Sl->Res Fl)(D:Ends)(σ:L2.St)(H:Hp):Prop where|mk(F:Hp)(ρ:List Sl)(fl:Fl)(ρ':List Sl)(g:GS K F ρ σ H)(e:f ρ=.ok fl ρ')(k:∀F' σ' H',aZ K F ρ σ H F' ρ' σ' H'->Ni K D F' ρ' σ' H' ρ σ H fl)
def SS(X:Cx)(c:Call)(n:Nat)(st:Stmt)(s:S):Prop:=PS X st (JK X.K (ex c n s))
def SB(X:Cx)(c:Call)(n:Nat)(st:List Stmt)(s:List S):Prop:=lY X st (JK X.K (fj c n s))
theorem jd{st:Stmt}{t t':TS}(h:PS X st t)(i:∀D σ H,t' D σ H->t D σ H):PS X st t':=λf s σ H D I q=>h f s σ H D I (i D σ H q)
theorem sr{st:List Stmt}{t t':TS}(h:lY X st t)(i:∀D σ H,t' D σ H->t D σ H):lY X st t':=λf s σ H D I q=>h f s σ H D I (i D σ H q)
theorem xs0{c:Call}:fj c n [] ρ=.ok .next ρ:=rfl
theorem Pa{c:Call}{s:S}{r:List S}:fj c n (s::r) ρ=(ex c n s ρ).bind λfl ρ=>match fl with|.next=>fj c n r ρ|fl=>.ok fl ρ:=rfl
theorem au:SB X c n [] []:=sr fc λD σ H⟨F,ρ,fl,ρ',g,e,k⟩=>by rw[xs0]at e;cases e;exact k F σ H (.refl g)
theorem aX{st:Stmt}{s:S}{f:List Stmt}{ss:List S}(h1:SS X c n st s)(l:SB X c n f ss):SB X c n (st::f) (s::ss):=by refine sr (cU h1 l) ?_;rintro D σ H⟨F,ρ,fl,ρ',g,e,k⟩;rw[Pa]at e;obtain⟨f1,ρ1,h,e⟩:=aa e;cases f1 with
 |next=>refine⟨F,ρ,.next,ρ1,g,h,λm o w s1=>⟨m,ρ1,fl,ρ',s1.gs,e,λt j H2 s2=>?_⟩⟩;have q:=k t j H2 (s1.trans s2);cases fl with|next=>exact q|brk=>exact q|cont=>exact q|ret r=>exact λv u=>q v (u.later s1)
 |brk=>cases e;exact⟨F,ρ,.brk,_,g,h,k⟩|cont=>cases e;exact⟨F,ρ,.cont,_,g,h,k⟩|ret r=>cases e;exact⟨F,ρ,.ret r,_,g,h,k⟩
theorem kI{st:Stmt}:SS X c n st .bad:=jd wD λD σ H⟨F,ρ,fl,ρ',g,e,k⟩=>by rw[HH.X4]at e;cases e
theorem xM{t1 g:TE}(h1:PE X e t1)(j:PE X e g):PE X e (λσ H Q=>t1 σ H Q\/g σ H Q):=λf s σ H Q I h=>h.elim (h1 f s σ H Q I) (j f s σ H Q I)
theorem Ge(he:SX X c e p):SS X c n (.Return (some e) pos) (.ret p):=by
 have plain:∀(D:Ends)(σ:L2.St)(H:Hp),(∃F ρ fl ρ',GS X.K F ρ σ H/\((HH.ev c p ρ).bind λr ρ=>.ok (Fl.ret r) ρ)=.ok fl ρ'/\∀j f h,aZ X.K F ρ σ H j ρ' f h->(match fl with|.next=>D.nx f h|.brk=>D.bk f h|.cont=>D.ct f h|.ret r=>∀v,bO X.K j ρ' f h ρ σ H v r->D.rt v h))->vf X.K (HH.ev c p) σ H D.rt:=λD σ H⟨F,ρ,fl,ρ',g,e,k⟩=>by obtain⟨r,ρ1,l,e⟩:=aa e;cases e;exact⟨F,ρ,r,_,g,l,λv m o s1 s=>k m σ o s1 v s⟩
 cases hv:isVar p with|none=>refine jd (yd he.ev) λD σ H⟨F,ρ,fl,ρ',g,e,k⟩=>plain D σ H ⟨F,ρ,fl,ρ',g,?_,k⟩;rw[HH.X9,hv]at e;exact e|some i=>--by the name itself:its own list is handed back,else its data
   have t:p=.var i:=by cases p<;>cases hv;rfl
   subst t;refine jd (yd (xM (he.var i hv) he.ev)) ?_;rintro D σ H⟨F,ρ,fl,ρ',g,e,k⟩;rw[HH.X9,hv]at e;dsimp only at e;split at e;.rename_i ds q;cases e;obtain⟨v,h1,u,w⟩:=g.give q;exact .inl ⟨v,h1,k F σ H u v w⟩
   .exact .inr (plain D σ H ⟨F,ρ,fl,ρ',g,e,k⟩)
theorem eN{l m:List Stmt}{o s:List S}(hc:ST X c e p)(t:SB X c n l o)(u:SB X c n m s):SS X c n (.If e l m pos) (.ifs p o s):=by refine jd (wM hc t u) ?_;rintro D σ H⟨F,ρ,fl,ρ',g,e,k⟩;rw[HH.RQ]at e;obtain⟨x,ρ1,w,e⟩:=aa e;refine⟨F,ρ,x,ρ1,g,w,λy z s1=>?_⟩;have go:∀{f:List Sl->Res Fl},f ρ1=.ok fl ρ'->JK X.K f D σ z:=λ{f}h=>⟨y,ρ1,fl,ρ',s1.gs,h,λA j H2 s2=>by have q:=k A j H2 (s1.trans s2);cases fl with|next=>exact q|brk=>exact q|cont=>exact q|ret r=>exact λv B=>q v (B.later s1)⟩;cases x with|true=>rw[if_pos rfl]at e;exact go e|false=>rw[if_neg Bool.false_ne_true]at e;exact go e
theorem qU{f:Pos}(j:X.N.Nodup)(hi:X.N[i]?=some x)(l:Loc X.env.scope x)(he:SX X c e p)(hs:swapsWith e (some (.Name x f)) pos.line X.env=pure false:=by rfl)(m:X.fn x=true\/X.env.scope.names.lookup x=some .local:=by first|exact .inl rfl|exact .inr rfl|assumption):SS X c n (.Assign [.Name x f] e pos) (.asg i p):=by refine jd (Gr j hi l he.ev hs m) ?_;rintro D σ H⟨F,ρ,fl,ρ',g,e,k⟩;rw[HH.X6]at e;obtain⟨r,ρ1,o,e⟩:=aa e;obtain⟨q,s,h,e⟩:=aa e;cases e;have t:=aJ h;clear h;obtain⟨h,z⟩:=t;exact⟨F,ρ,r,ρ1,g,o,λv u w s1 y=>k u _ w (s1.put y h)⟩
end
end HH
end
section
namespace L2
open PySem PySem.Spec PyProof.Rows
variable{env:Env}{scope:Scope}
noncomputable def qw(X:Cx)(scope:Scope)(N':List Str)(cl:List (Str×Addr))(C:Addr)(s₀:Shared)(H₀:Hp)(ex:List Addr):Cx:={X with N:=N',s₀:=s₀,H₀:=H₀,env:=compEnvC scope cl C X.env,outer:=X.stack,stack:=X.stack,ex:=ex,fn:=λx=>scope.names.lookup x==some .cell,pn:=[],xe:=λ_ _=>False}
theorem rz(l:List (Str×NameKind)):∀(b:List (Str×Addr)),(∀n,(n,NameKind.free)∈l->∃c,env.cells.lookup n=some c)->(∀n c,b.lookup n=some c->env.cells.lookup n=some c)->∃ cl,(forIn l b (λ(x:Str × NameKind)(r:List (Str × Addr))=>(if(x.2==NameKind.free)=true then(do let a<-cellOf env x.1;pure (ForInStep.yield ((x.1,a)::r)))else pure (ForInStep.yield r):Sem (ForInStep (List (Str × Addr))))):Sem (List (Str × Addr)))=pure cl/\(∀n c,cl.lookup n=some c->env.cells.lookup n=some c)/\(∀n,((n,NameKind.free)∈l\/(b.lookup n).isSome)->(cl.lookup n).isSome):=by induction l with|nil=>intro b _ h;exact⟨b,rfl,h,λn hn=>by rcases hn with hn|hn;cases hn;exact hn⟩|cons y l j=>
   obtain⟨n,k⟩:=y;intro b f hc;rw[forIn_cons];by_cases g:k=.free
   . subst g;obtain⟨a,o⟩:=f n mem_cons_self;obtain⟨cl,e,h1,i⟩:=j ((n,a)::b) (λm hm=>f m (mem_cons_of_mem _ hm)) λm c hm=>by
      rw[lookup_cons]at hm;split at hm;.rename_i q;have q:=eq_of_beq q;subst q;cases hm;exact o
      .exact hc m c hm
     refine⟨cl,?_,h1,λm hm=>i m ?_⟩
     . rw[<-e];have:cellOf env n=pure a:=by unfold cellOf;rw[o]
       simp only[beq_self_eq_true,if_true,this];rfl
     . rcases hm with hm|hm
       . rcases mem_cons.mp hm with hm|hm;.cases hm;right;simp[lookup_cons]
         .exact .inl hm
       . right;rw[lookup_cons];split;.rfl
         .exact hm
   . obtain⟨cl,e,h1,i⟩:=j b (λm hm=>f m (mem_cons_of_mem _ hm)) hc;refine⟨cl,?_,h1,λm hm=>i m ?_⟩
     . rw[<-e];have:(k==NameKind.free)=false:=by simpa using g
       simp only[this,false_eq_true,if_false];rfl
     . rcases hm with hm|hm
       . rcases mem_cons.mp hm with hm|hm;.cases hm;exact absurd rfl g
         .exact .inl hm
       .exact .inr hm
theorem qG(a:∀n,(n,NameKind.free)∈scope.names->∃c,env.cells.lookup n=some c):∃cl,closureFor scope env=pure cl/\(∀n c,cl.lookup n=some c->env.cells.lookup n=some c)/\∀n,(n,NameKind.free)∈scope.names->(cl.lookup n).isSome:=by obtain⟨cl,e,h1,b⟩:=rz (env:=env) scope.names [] a (by simp);refine⟨cl,?_,h1,λn f=>b n (.inl f)⟩;unfold closureFor;exact(congrArg (λt=>t>>=λr=>pure r) e).trans rfl
theorem cV{env:Env}:∀(names:List (Str×NameKind))(x:Str),(names.map λ(n,k)=>if(k==NameKind.free&&env.scope.kind==.function&&env.kindOf n==some .cell)then(n,NameKind.cell)else(n,k)).lookup x=(names.lookup x).map λk=>if(k==NameKind.free&&env.scope.kind==.function&&env.kindOf x==some .cell)=true then NameKind.cell else k
 |[],x=>rfl|(n,k)::r,x=>by
   have a:=cV (env:=env) r x;show List.lookup x ((if(k==NameKind.free&&env.scope.kind==.function&&env.kindOf n==some .cell)=true then(n,NameKind.cell)else(n,k))::_)=_;by_cases hc:(k==NameKind.free&&env.scope.kind==.function&&env.kindOf n==some .cell)=true;.rw[if_pos hc,lookup_cons,lookup_cons];cases hx:x==n with|true=>have:=eq_of_beq hx;subst this;show some NameKind.cell=some (if _ then _ else _);rw[if_pos hc]|false=>exact a
   .rw[if_neg hc,lookup_cons,lookup_cons];cases hx:x==n with|true=>have:=eq_of_beq hx;subst this;show some k=some (if _ then _ else _);rw[if_neg hc]|false=>exact a
noncomputable def Lh(N N':List Str)(a:Scope):Bool:=(N.zip N').all λp=>(p.1==p.2&&a.names.lookup p.2==some .free)||(a.names.lookup p.2!=some .local&&a.names.lookup p.2!=some .cell&&a.names.lookup p.2!=some .free)
structure eG(X:Cx)(scope:Scope)(N':List Str)(n:Nat):Prop where
 kind:scope.kind=.function
 cons:∀y∈scope.names,scope.names.lookup y.1=some y.2
 names:∀y∈scope.names,y.2=.local->scope.names.lookup y.1=some .local
 cap:∀y∈scope.names,y.2=.free->X.env.scope.names.lookup y.1=some .cell\/X.env.scope.names.lookup y.1=some .free
 len:N'.length=X.N.length+n
 same:Lh X.N N' scope=true
theorem eG.get{X:Cx}{N':List Str}{n:Nat}(c:eG X scope N' n){i:Nat}{x:Str}(hi:i<X.N.length)(h:N'[i]?=some x)(a:vG (relabel scope X.env) x):X.N[i]?=some x/\scope.names.lookup x=some .free:=by
 have g:(X.N.zip N')[i]?=some (X.N[i],x):=by rw[List.getElem?_zip_eq_some];exact⟨by simp[hi],h⟩
 have:=(all_eq_true.mp c.same) _ (mem_of_getElem? g);simp only[or_eq_true,and_eq_true]at this;rcases this with⟨h1,b⟩|⟨⟨h1,b⟩,f⟩;.have h1:=eq_of_beq h1;have b:=eq_of_beq b;exact⟨by simp[hi,h1],b⟩
 . exfalso;have h1:scope.names.lookup x≠some .local:=by simpa using h1
   have b:scope.names.lookup x≠some .cell:=by simpa using b
   have f:scope.names.lookup x≠some .free:=by simpa using f
   have e:=cV (env:=X.env) scope.names x;have a:(relabel scope X.env).names.lookup x=some .local\/(relabel scope X.env).names.lookup x=some .cell\/(relabel scope X.env).names.lookup x=some .free:=a;rw[show(relabel scope X.env).names.lookup x=_ from e]at a;cases q:scope.names.lookup x with|none=>rw[q]at a;simp at a|some k=>
     rw[q]at a h1 b f;have j:(k==NameKind.free)=false:=by cases k<;>first|rfl|exact absurd rfl f
     simp only[Option.map_some,j,Bool.false_and,false_eq_true,if_false,Option.some.injEq]at a;rcases a with rfl|rfl|rfl;.exact h1 rfl
     .exact b rfl
     .exact f rfl
structure CI(cl:List (Str×Addr))(z:Nat)(h:Heap)(acc:List (Str×Addr)):Prop where from':∀n c,acc.lookup n=some c->cl.lookup n=some c\/(z<=c/\h.IsCell c none)inj:∀n n' c,acc.lookup n=some c->acc.lookup n'=some c->n=n'
theorem xY{cl:List (Str×Addr)}{z:Nat}(i:∀n c,cl.lookup n=some c->c<z):∀(names:List (Str×NameKind))(h:Heap)(f:List (Str×Addr)),z<=h.objs.size->CI cl z h f->CI cl z (pushCells h names) (cellsFrom h.objs.size names f)/\(∀n,(f.lookup n).isSome->((cellsFrom h.objs.size names f).lookup n).isSome)/\(∀n,((∃c,f.lookup n=some c/\z<=c)\/(n,NameKind.cell)∈names)->∃c,(cellsFrom h.objs.size names f).lookup n=some c/\z<=c)/\(∀n c,(n,NameKind.cell)∉names->(cellsFrom h.objs.size names f).lookup n=some c->f.lookup n=some c)
 |[],h,f,j,x=>by
   refine⟨x,λ_ q=>q,λn q=>?_,λ_ _ _ q=>q⟩;rcases q with q|q;.exact q
   .cases q|(name,kind)::r,h,f,j,x=>by
   unfold pushCells cellsFrom;by_cases m:kind=.cell
   . subst m;rw[if_pos (by rfl),if_pos (by rfl)];have s:CI cl z (h.push {cls:=.type "cell",data:=.cell none}) ((name,h.objs.size)::f):=by
      have lt:∀n c,f.lookup n=some c->c<h.objs.size:=λn c e=>by
       rcases x.from' n c e with q|q;.exact lt_of_lt_of_le (i n c q) j
       .exact q.2.lt
      refine⟨λn c e=>?_,λn p c e k=>?_⟩
      . rw[lookup_cons]at e;split at e;.cases e;exact .inr ⟨j,_,get?_push_size _ rfl,rfl⟩
        . rcases x.from' n c e with q|q;.exact .inl q
          .exact .inr ⟨q.1,q.2.keeps λb o e=>mq e⟩
      . rw[lookup_cons]at e k;split at e<;>split at k;.rename_i _ a _ b;rw[eq_of_beq a,eq_of_beq b]
        .cases e;exact absurd (lt p _ k) (lt_irrefl _)
        .cases k;exact absurd (lt n _ e) (lt_irrefl _)
        .exact x.inj n p c e k
     have g:=xY i r (h.push {cls:=.type "cell",data:=.cell none}) ((name,h.objs.size)::f) (by rw[size_push];omega) s;rw[size_push]at g;refine⟨g.1,λn q=>g.2.1 n ?_,λn q=>g.2.2.1 n ?_,λn c q e=>?_⟩
     . rw[lookup_cons];split;.rfl
       .exact q
     . rcases q with⟨c,e,hc⟩|q
       . left;rw[lookup_cons];split;.exact⟨_,rfl,j⟩
         .exact⟨c,e,hc⟩
       . rcases mem_cons.mp q with q|q;.cases q;left;exact⟨_,by simp[lookup_cons],j⟩
         .exact .inr q
     . have:=g.2.2.2 n c (λz=>q (mem_cons_of_mem _ z)) e;rw[lookup_cons]at this;split at this;.rename_i a;exact absurd (by rw[eq_of_beq a];exact mem_cons_self) q
       .exact this
   . have l:(kind==NameKind.cell)=false:=by simpa using m
     rw[if_neg (by rw[l];decide),if_neg (by rw[l];decide)];have g:=xY i r h f j x;refine⟨g.1,g.2.1,λn q=>g.2.2.1 n ?_,λn c q e=>g.2.2.2 n c (λz=>q (mem_cons_of_mem _ z)) e⟩;rcases q with q|q;.exact .inl q
     . rcases mem_cons.mp q with q|q;.cases q;exact absurd rfl m
       .exact .inr q
structure wV(X:Cx)(scope:Scope)(z:Nat)(h:Heap)(cs:List (Str×Addr)):Prop where
 from':∀n c,cs.lookup n=some c->X.env.cells.lookup n=some c\/(z<c/\h.IsCell c none)inj:∀n n' c,cs.lookup n=some c->cs.lookup n'=some c->n=n'
 has:∀n,(scope.names.lookup n=some .free\/scope.names.lookup n=some .cell)->∃c,cs.lookup n=some c
 fre:∀n c,scope.names.lookup n=some .free->cs.lookup n=some c->X.env.cells.lookup n=some c
 own:∀n c,scope.names.lookup n=some .cell->cs.lookup n=some c->z<c
theorem uZ{M:Model}{A:Around}{E:Value->Shared->Prop}{X:Cx}{s:Shared}{N':List Str}{n:Nat}{cl:List (Str×Addr)}{Q:Env->Shared->Prop}(ok:eG X scope N' n)(h:∀n c,X.env.cells.lookup n=some c->c<s.heap.objs.size)(f:∀x y c,X.env.cells.lookup x=some c->X.env.cells.lookup y=some c->x=y)(a:∀n c,cl.lookup n=some c->X.env.cells.lookup n=some c)(m:∀n,(n,NameKind.free)∈scope.names->(cl.lookup n).isSome)(p:∀ k h',h'.Ns s.heap.objs.size (λ_=>none)->(∀ b o,s.heap.get? b=some o->h'.get? b=some o)->wV X scope s.heap.objs.size h' k->Q {scope:=scope,locals:=s.heap.objs.size,globals:=X.env.globals,cells:=k,qual:=X.env.qual,func:=none,code:=X.env.code,frame:=X.env.frame,builtins:=X.env.builtins} {s with heap:=h'}):wpAny M A (newFunctionEnv scope X.env.globals cl [] X.env.qual none .none (some X.env)) Q E s:=by
 simp only[newFunctionEnv,Option.isSome_some,if_true];refine wpAny_bind (wpAny_alloc ?_);refine wpAny_bind (wpAny_layCells _ (λname kind cells=>by cases i:kind==NameKind.cell<;>simp[i]) _ _ _ _ ?_);have r:=xY (cl:=cl) (z:=s.heap.objs.size+1) (λn c e=>Nat.lt_succ_of_lt (h n c (a n c e))) scope.names (s.heap.push {cls:=.type "dict",data:=.dict #[]}) cl (by rw[size_push];exact dH) ⟨λn c e=>.inl e,λn l c e g=>f n l c (a n c e) (a l c g)⟩;obtain⟨c1,c2,c3,c4⟩:=r;rw[show({s with heap:=s.heap.push {cls:=.type "dict",data:=.dict #[]}}:Shared).heap.objs.size=(s.heap.push {cls:=.type "dict",data:=.dict #[]}).objs.size from rfl];refine wpAny_bind ?_;rw[forIn_nil];refine wpAny_pure (wpAny_pure (p _ _ ((Heap.Ns.new s.heap (.type "dict")).keeps (pushCells_keeps _ _)) (λb o e=>pushCells_keeps _ _ b o (mq e)) ⟨λn c e=>?_,c1.inj,λn q=>?_,λn c q e=>?_,λn c q e=>?_⟩))
 . rcases c1.from' n c e with z|z;.exact .inl (a n c z)
   .exact .inr ⟨z.1,z.2⟩
 . rcases q with q|q;.exact Option.isSome_iff_exists.mp (c2 n (m n (PySem.mem_of_lookup q)))
   .obtain⟨c,e,_⟩:=c3 n (.inr (PySem.mem_of_lookup q));exact⟨c,e⟩
 .refine a n c (c4 n c (λz=>?_) e);have:=ok.cons _ z;rw[q]at this;cases this
 .obtain⟨t,g,j⟩:=c3 n (.inr (PySem.mem_of_lookup q));rw[e]at g;cases g;exact j
section
variable{X:Cx}{pins:List (Addr×Obj)}{σ:L2.St}{H:Hp}{s:Shared}{scope:Scope}{N':List Str}{n:Nat}{fp:List Addr}{cl:List (Str×Addr)}
theorem xj{h1:Heap}{m:Str->Option Value}{t:Nat}{Q:List (Str×Addr)}(ok:eG X scope N' n)(I:Inv X pins σ H s)(G:∀b∈fp,jz X pins H b/\b<s.heap.objs.size)(w:wV X scope s.heap.objs.size h1 Q)(U:h1.Ns s.heap.objs.size m)(j:∀b u,s.heap.get? b=some u->h1.get? b=some u):Inv (qw X scope N' Q s.heap.objs.size s H fp) [] (σ++replicate n none) H {s with heap:=h1,toks:=t}:=by
 have W:∀x,scope.names.lookup x=some .free->(relabel scope X.env).names.lookup x=some .cell\/(relabel scope X.env).names.lookup x=some .free:=λx h=>by
  have e:=cV (env:=X.env) scope.names x;rw[h]at e;have J:(relabel scope X.env).names.lookup x=_:=e;rw[J];simp only[Option.map_some];split;.exact .inl rfl
  .exact .inr rfl
 refine⟨⟨I.ok.mod,ok.kind,I.ok.glob,I.ok.blt,dH,λx y c h1 Y=>w.inj x y c h1 Y,λx z=>?_,λx c h e=>le_of_lt (w.own x c (eq_of_beq (show(scope.names.lookup x==some NameKind.cell)=true from h)) e),I.ok.hd,I.ok.frames,.inl rfl,λb B=>?_,I.bs,le_trans I.ok.Dt I.sz,λb u e B=>?_,λb B L=>?_,I.stack,I.uf⟩,rfl,I.bare,Un.kept j,⟨m,U,λi x v Z C hv=>?_⟩,λx c e=>?_,I.hok.fresh (dH),λx c e=>?_,λp hp=>(by cases hp),I.hok.kept j,?_⟩;.--a NQ name has its cell
   have z:(relabel scope X.env).names.lookup x=some .cell\/(relabel scope X.env).names.lookup x=some .free:=z;have e:=cV (env:=X.env) scope.names x;have J:(relabel scope X.env).names.lookup x=_:=e;rw[J]at z;refine w.has x ?_;cases q:scope.names.lookup x with|none=>rw[q]at z;simp at z|some k=>
     rw[q]at z;by_cases hk:k=.free;.rw[hk];exact .inl rfl
     . have g:(k==NameKind.free)=false:=by simpa using hk
       simp only[Option.map_some,g,Bool.false_and,false_eq_true,if_false,Option.some.injEq]at z;rcases z with rfl|rfl;.exact .inr rfl
       .exact absurd rfl hk
 . obtain⟨f,lt⟩:=G b B;refine⟨ne_of_lt lt,λx c e=>?_⟩;rcases w.from' x c e with e|e;.exact f.2.2.2.2.1 x c e
   .rintro rfl;exact absurd (Nat.lt_trans e.1 lt) (lt_irrefl _)
 . obtain⟨f,lt⟩:=G b B;rcases f.2.2.2.1 with h|h;.exact I.ok.yz b u e h
   .have this:b<X.base.objs.size:=lt_size e;exact absurd (lt_of_lt_of_le this (le_trans I.ok.Dt h)) (lt_irrefl _)
 . obtain⟨f,lt⟩:=G b B;rcases mem_cons.mp (I.oF b L)with h|h;.exact f.2.1 h
   .exact f.2.2.1 h
 .--the names
   have hi:i<σ.length:=by
    by_cases hi:i<σ.length;.exact hi
    .rw[List.getElem?_append_right (by omega),List.getElem?_replicate]at C;split at C<;>cases C
   rw[getElem?_append_left hi]at C;obtain⟨M,o⟩:=ok.get (by rw[<-I.len];exact hi) Z hv;have hk:=ok.cap (x,.free) (PySem.mem_of_lookup o) rfl;obtain⟨m0,ab,hl⟩:=I.loc;obtain⟨u,r,l⟩:=hl i x v M C (.inr hk);refine⟨u,r,.inr ⟨W x o,?_⟩⟩;rcases l with⟨g,_⟩|⟨_,c,hc,A⟩;.have g:X.env.scope.names.lookup x=some .local:=g;rcases hk with hk|hk<;>(rw[g]at hk;cases hk)
   .obtain⟨c',E⟩:=w.has x (.inl o);have:=w.fre x c' o E;rw[hc]at this;cases this;refine⟨c,E,?_⟩;obtain⟨F,N,O⟩:=A;exact⟨F,j c F N,O⟩
 . rcases w.from' x c e with e|e;.obtain⟨v,F,N,O⟩:=I.cell x c e;exact⟨v,F,j c F N,O⟩
   .exact⟨_,e.2⟩
 . rcases w.from' x c e with e|e;.exact I.gV x c e
   .exact I.hok.fresh (le_of_lt e.1)
 .show(σ++replicate n none).length=N'.length;rw[length_append,List.length_replicate,I.len,ok.len]
theorem nD{prog:Program}{w:World}{A:Around}{R:Result->Shared->Prop}{p a iter:Expr}{ifs:List Expr}{pos:Pos}{B q:Value}(I:Nat->Shared->Prop)(t:∀ n s,I n s->wpAny (model prog w) A (pyNext B) (λr b=>match r with|none=>R (.ok .next) b|some v=>wpAny (model prog w) A (letOwnedTupleGo a B v) (λ_ b=>wpAny (model prog w) A (assign a env v) (λ_ j=>wpAny (model prog w) A (forIn ifs true λc r=>if r=true then do let ok<-isTrue c env (eval c env);pure (ForInStep.yield ok)else pure (ForInStep.yield r)) (λok g=>if ok=true then wpAny (model prog w) A (eval p env) (λx k=>wpAny (model prog w) A (call (.builtin "list.append") [q,x]) (λ_ l=>∃m,m<n/\I m l) (notedBy (model prog w) A env λe i=>R (.error e) i) k) (notedBy (model prog w) A env λe i=>R (.error e) i) g else ∃m,m<n/\I m g) (notedBy (model prog w) A env λe i=>R (.error e) i) j) (notedBy (model prog w) A env λe i=>R (.error e) i) b) (notedBy (model prog w) A env λe i=>R (.error e) i) b) (notedBy (model prog w) A env λe i=>R (.error e) i) s)(n:Nat){s:Shared}(h:I n s):codeAny (model prog w) A (.compLoop (.ListComp p [⟨a,iter,ifs,0⟩] scope pos) 0 B q env) R s:=by refine codeAny_loop rfl I (λn s C=>?_) n h;show wpAny _ A ((compTurn (.ListComp p [⟨a,iter,ifs,0⟩] scope pos) 0 B q env).onRaise (λx=>do noteFrame x env;theTreesLotGoes x)) _ _ s;refine wpAny_noted ?_;rw[compTurn_list];refine wpAny_bind (wpAny_standAt (wpAny_bind (wpAny_mono (t n s C) (λr b f=>?_) λ_ _ h'=>h')));cases r with|none=>exact wpAny_pure f|some v=>refine wpAny_bind (wpAny_mono f (λ_ b f=>?_) λ_ _ h'=>h');refine wpAny_bind (wpAny_mono f (λ_ j u=>wpAny_bind (wpAny_mono u (λok g o=>?_) λ_ _ h'=>h')) λ_ _ h'=>h');cases ok with|false=>exact wpAny_pure ⟨rfl,o⟩|true=>exact wpAny_bind (wpAny_bind (wpAny_mono o (λx k y=>wpAny_bind (wpAny_mono y (λ_ l z=>wpAny_pure (wpAny_pure ⟨rfl,z⟩)) λ_ _ h'=>h')) λ_ _ h'=>h'))
def Jk(X:Cx)(ifs:List Expr)(t:TT):Prop:=∀(pins:List (Addr × Obj))(s:Shared)(σ:L2.St)(H:Hp)(Q:Bool->Hp->Prop),Inv X pins σ H s->t σ H Q->wpAny (model X.prog X.w) X.A (forIn ifs true λc r=>if r=true then do let ok<-isTrue c X.env (eval c X.env);pure (ForInStep.yield ok)else pure (ForInStep.yield r)) (TP X pins σ Q) X.xe s
theorem zR{X:Cx}:Jk X [] (λ_ H Q=>Q true H):=λpins s σ H Q I h=>wpAny_tests_nil ⟨H,I,h⟩
def Dj(J:It)(g:TG)(tt:TT)(te:TE)(D:Addr)(Q:Hp->Prop)(W:Nat->Nat->List V->L2.St->Hp->Prop):Prop:=∀ i m ys σ H,W i m ys σ H->H D=some (.lst ys)/\((J.stop i H/\Q H)\/(J.go i H/\∀ x H2,J.Dv i H x H2->g x σ H2 λa h=>tt a h λb e=>if b=true then te a e λy f=>f D=some (.lst ys)/\ys.length<sizeLine/\∃c,c<m/\W (i+1) c (ys++[y]) a (upd f D (.lst (ys++[y])))else ∃c,c<m/\W (i+1) c ys a e))
theorem mK{E:Value->Shared->Prop}{ae a iter:Expr}{ifs:List Expr}{pos:Pos}{it:Addr}{tn:Nat->Heap->Prop}{J:It}{g:TG}{tt:TT}{te:TE}{Q:Addr->Hp->Prop}{RR:Value->Addr->Result->Shared->Prop}(hc:X.calm=true)(ok:eG X scope N' n)(I:Inv X pins σ H s)(aS:∀n c,cl.lookup n=some c->X.env.cells.lookup n=some c)(sI:∀n,(n,NameKind.free)∈scope.names->(cl.lookup n).isSome)(T:Turn X.prog X.w X.K a J fp it tn)(h0:tn 0 s.heap)(hf:∀b∈fp,jz X pins H b)(hg:∀cl C s₀ H₀ ex,PG (qw X scope N' cl C s₀ H₀ ex) a g)(ht:∀cl C s₀ H₀ ex,Jk (qw X scope N' cl C s₀ H₀ ex) ifs tt)(he:∀cl C s₀ H₀ ex,PE (qw X scope N' cl C s₀ H₀ ex) ae te)(hw:∀D,H D=none->∃W,(∃m,W 0 m [] (σ++replicate n none) (upd H D (.lst [])))/\Dj J g tt te D (Q D) W)(aT:∀D C B l,Q D l->(∃m,B.heap.Ns C m)->jz X pins l C->Inv X pins σ l B->RR (.ref D) C (.ok .next) B):wpAny (model X.prog X.w) X.A (newList []) (λap ar=>wpAny (model X.prog X.w) X.A (newFunctionEnv scope X.env.globals cl [] X.env.qual none .none (some X.env)) (λag av=>codeAny (model X.prog X.w) X.A (.compStart (.ListComp ae [⟨a,iter,ifs,0⟩] scope pos) 0 (.ref it) ap {ag with scope:=relabel scope X.env}) (RR ap ag.locals) av) E ar) E s:=by
 refine wpAny_newObj_type (uZ ok (λx c e=>?lt) I.ok.inj aS sI (λcs L ah hold bc=>?_));case lt=>obtain⟨v,z⟩:=I.cell x c e;exact lt_of_lt_of_le z.lt (by show _<=(s.heap.push _).objs.size;rw[size_push];exact Nat.le_succ _)
 dsimp only at ah hold bc ⊢--the new list,tracked
 have I3:Inv X pins σ (upd H s.heap.objs.size (.lst [])) {s with heap:=s.heap.push {cls:=.type "list",data:=.seq ([]:List Value).toArray}}:=I.Hx (t':=s.toks) .nil (Jo);generalize ai:({s with heap:=s.heap.push {cls:=.type "list",data:=.seq ([]:List Value).toArray}}:Shared)=s3 at I3;have a8:s3.heap.objs.size=s.heap.objs.size+1:=by rw[<-ai];exact size_push _ _
 have DG:s3.heap=s.heap.push {cls:=.type "list",data:=.seq ([]:List Value).toArray}:=by rw[<-ai]
 obtain⟨W,⟨m0,w0⟩,aw⟩:=hw s.heap.objs.size I.fresh;have V9:∀{h':Heap},(∀b o,s.heap.get? b=some o->h'.get? b=some o)->tn 0 h':=λk=>T.keep _ _ _ h0 λb j o e=>k b o e;have Qo:∀b∈fp,jz X pins (upd H s.heap.objs.size (.lst [])) b/\b<s3.heap.objs.size:=λb j=>by obtain⟨o,e,_⟩:=T.obj 0 _ h0 b j;have lt:=lt_size e;obtain⟨f1,f2⟩:=hf b j;exact⟨⟨by rw[aD (ne_of_lt lt)];exact f1,f2⟩,by rw[a8];exact Nat.lt_succ_of_lt lt⟩
 rw[<-DG]at ah hold bc ⊢;have I4:=xj (t:=s3.toks) ok I3 Qo bc ah hold;have NT:∀b o,s.heap.get? b=some o->L.get? b=some o:=λb o e=>hold b o (by rw[DG];exact mq e);generalize O:qw X scope N' cs s3.heap.objs.size s3 (upd H s.heap.objs.size (.lst [])) fp=F at I4;have hA:F.A=X.A:=by rw[<-O];rfl
 have M:F.prog=X.prog:=by rw[<-O];rfl
 have N:F.w=X.w:=by rw[<-O];rfl
 have ay:F.K=X.K:=by rw[<-O];rfl
 have U:F.calm=true:=by rw[<-O];exact hc
 have ba:F.xe=λ_ _=>False:=by rw[<-O];rfl
 have aE:F.env=compEnvC scope cs s3.heap.objs.size X.env:=by rw[<-O];rfl
 have bg:PG F a g:=by rw[<-O];exact hg _ _ _ _ _
 have bi:Jk F ifs tt:=by rw[<-O];exact ht _ _ _ _ _
 have bm:PE F ae te:=by rw[<-O];exact he _ _ _ _ _
 have ff:∀{l:Hp}{b:Addr},b∈fp->l b=none->jz F [] l b:=λ{l b}j hn=>by
  obtain⟨f,lt⟩:=Qo b j;rw[<-O];refine⟨hn,ne_of_lt lt,λbn=>?_,.inl j,λx c e=>?_,λp hp=>by cases hp⟩
  . rcases mem_cons.mp (I3.oF b bn)with h|h;.exact f.2.1 h
    .exact f.2.2.1 h
  . rcases bc.from' x c e with e|e;.exact f.2.2.2.2.1 x c e
    .rintro rfl;exact absurd (Nat.lt_trans e.1 lt) (lt_irrefl _)--behind the block
 have fin:∀{G:L2.St}{l:Hp}{B:Shared},Inv F [] G l B->Q s.heap.objs.size l->RR (.ref s.heap.objs.size) s3.heap.objs.size (.ok .next) B:=λ{G l B}Y q=>by
  rw[<-O]at Y;have hC:l s3.heap.objs.size=none:=Y.free;obtain⟨hh,gg,dd,bo,bp⟩:=B;have bq:bp=s3.os:=Y.os;subst bq;refine aT _ _ _ l q (let⟨m,hm,_⟩:=Y.loc;⟨m,hm⟩) ?_ (I3.call (h':=hh) (g':=gg) (d':=dd) (t':=bo) (ch:=fp) Y.base Y.hok Y.bare λb j=>?_);.exact I3.vy (dH) hC
  .obtain⟨f,lt⟩:=Qo b j;exact⟨f.2.2.2.1,f.2.1,f.2.2.2.2.1,f.2.2.2.2.2⟩
 have ab:codeAny (model X.prog X.w) X.A (.compLoop (.ListComp ae [⟨a,iter,ifs,0⟩] scope pos) 0 (.ref it) (.ref s.heap.objs.size) F.env) (RR (.ref s.heap.objs.size) s3.heap.objs.size) {s3 with heap:=L,toks:=s3.toks}:=by
  refine nD (λk B=>∃i ys G l,Inv F [] G l B/\tn i B.heap/\(∀b∈fp,l b=none)/\W i k ys G l) (λk s5 hI=>?_) m0 ⟨0,[],_,_,I4,V9 NT,λb j=>(Qo b j).1.1,w0⟩;obtain⟨i,ys,af,H5,I5,t5,f5,w5⟩:=hI;obtain⟨hD,am⟩:=aw i k ys af H5 w5;have Qp:∀{Z:Value->Shared->Prop},∀(e:Value)(B:Shared),F.xe e B->Z e B:=λe B z=>by rw[ba]at z;exact False.elim z
  rcases am with⟨stop,q⟩|⟨go,step⟩;.have z:=T.done F M N ay U i [] s5 af H5 (λ_ _=>False) I5 (λb j=>ff j (f5 b j)) t5 stop;rw[hA]at z;refine wpAny_mono z (?_) λ_ _ z=>False.elim z;rintro r s6⟨hr,I6⟩;subst hr;exact fin I6 q
  . have z:=T.item F M N ay U i [] s5 af H5 (λ_ _=>False) I5 (λb j=>ff j (f5 b j)) t5 go;rw[hA]at z;refine wpAny_mono z (?_) λ_ _ z=>False.elim z;rintro r s6⟨u,hr,z6⟩;subst hr;refine wpAny_mono z6 (?_) λ_ _ z=>False.elim z;rintro _ s7⟨x,H7,I7,r7,y7,t7,f7⟩;have br:=I7.pinned (λb j=>ff j (f7 b j)) (T.obj _ _ t7)--what the pins keep
    have back:∀{G:L2.St}{l:Hp}{B:Shared},Inv F ([]++lH fp s7.heap) G l B->Inv F [] G l B/\tn (i+1) B.heap/\∀b∈fp,l b=none:=λ{G l B}Y=>by refine⟨Y.iM,T.keep _ _ _ t7 λb j o e=>(Y.pin (b,o) (mem_append_right _ (mem_append_right _ (gj j e)))).1,λb j=>?_⟩;obtain⟨o,e,_⟩:=T.obj _ _ t7 b j;exact(Y.pin (b,o) (mem_append_right _ (mem_append_right _ (gj j e)))).2.1
    have z7:=bg _ s7 af H7 x u _ br r7 (step x H7 y7);rw[hA,M,N]at z7;refine wpAny_mono z7 (?_) Qp;rintro _ s8⟨ac,H8,I8,q8⟩;have z8:=bi _ s8 ac H8 _ I8 q8;rw[hA,M,N]at z8;refine wpAny_mono z8 (?_) Qp;rintro b s9⟨H9,I9,q9⟩;cases b with|false=>rw[if_neg Bool.false_ne_true]at q9 ⊢;obtain⟨m',hm,w'⟩:=q9;obtain⟨b1,b2,b3⟩:=back I9;exact⟨m',hm,i+1,ys,ac,H9,b1,b2,b3,w'⟩|true=>rw[if_pos rfl]at q9 ⊢;have z9:=bm _ s9 ac H9 _ I9 q9;rw[hA,M,N]at z9;refine wpAny_mono z9 (?_) Qp;rintro y Kf⟨yv,Wa,bt,bv,Uq,aI,m',hm,w'⟩;have Wb:=m9 _ Kf ac Wa (.ref s.heap.objs.size) [yv] (.ref s.heap.objs.size) [y] (λv Wc=>Wc=upd Wa s.heap.objs.size (.lst (ys++[yv]))) bt rfl (.cons bv .nil) ⟨_,ys,yv,rfl,rfl,Uq,aI,rfl⟩;rw[hA,M,N]at Wb;refine wpAny_mono Wb (?_) Qp;rintro _ Px⟨_,Wc,bE,_,bP⟩;subst bP;obtain⟨b1,b2,b3⟩:=back bE;exact⟨m',hm,i+1,ys++[yv],ac,_,b1,b2,b3,w'⟩
 have e3:({s3 with heap:=L,toks:=s3.toks}:Shared)={s with heap:=L}:=by rw[<-ai]
 rw[aE,e3]at ab;exact codeAny_compStart_list ab (T.self _ 0 _ _ _ (V9 NT) ab)
end
section
variable{X:Cx}{elt target iter:Expr}{ifs:List Expr}{scope:Scope}{pos:Pos}{N':List Str}{n:Nat}{wi:TI}{g:TG}{tt:TT}{te:TE}
def ur(n:Nat)(wi:TI)(g:TG)(tt:TT)(te:TE):TE:=λa H Q=>wi a H λJ b=>∀D,b D=none->∃W,(∃m,W 0 m [] (a++replicate n none) (upd b D (.lst [])))/\Dj J g tt te D (λc=>Q (.ref D) c) W
theorem jl{a:List (Addr×Obj)}{b:L2.St}{H:Hp}{s:Shared}(I:Inv X a b H s)(ok:eG X scope N' n):∃cl,closureFor scope X.env=pure cl/\(∀n c,cl.lookup n=some c->X.env.cells.lookup n=some c)/\∀n,(n,NameKind.free)∈scope.names->(cl.lookup n).isSome:=qG λm e=>I.ok.has m (ok.cap (m,.free) e rfl)
theorem Bh(hc:X.calm=true)(ok:eG X scope N' n)(hi:PI X target iter wi)(t:∀cl C s₀ H₀ ex,PG (qw X scope N' cl C s₀ H₀ ex) target g)(u:∀cl C s₀ H₀ ex,Jk (qw X scope N' cl C s₀ H₀ ex) ifs tt)(he:∀cl C s₀ H₀ ex,PE (qw X scope N' cl C s₀ H₀ ex) elt te)(hs:∀x,foldedSetIterable iter X.env x=pure x:=by intro _;rfl):PE X (.ListComp elt [⟨target,iter,ifs,0⟩] scope pos) (ur n wi g tt te):=by intro a s r H Q I h;obtain⟨cl,c,i,y⟩:=jl I ok;rw[eval_ListComp];refine wpAny_comprehension_free (use:=none) rfl hs c ok.kind ok.names (cY (hi a s r H _ I h) λv s1 h1=>cY h1 λz s2 B=>?_);obtain⟨N,O,U,J,H2,rfl,E,T,t0,f2,F⟩:=B;refine mK (Q:=λD j=>Q (.ref D) j) (RR:=λk C=>compPost (model X.prog X.w) X.A X.xe none (EP X a r Q) k C) hc ok E i y T t0 f2 t u he F λD C G j q l f L=>?_;obtain⟨m,l⟩:=l;refine⟨m,l,λh' p=>⟨.ref D,j,?_,rfl,q⟩⟩;exact L.turned (t':=G.toks) (λb o M e=>p.extBut b o M e) f.1 f.2.1 f.2.2.2.1 f.2.2.2.2.1 f.2.2.2.2.2
theorem yX{i:Nat}{x:Str}{c j:Pos}(hc:X.calm=true)(U:X.N.Nodup)(r:X.N[i]?=some x)(W:Loc X.env.scope x)(ok:eG X scope N' n)(hi:PI X target iter wi)(Y:∀cl C s₀ H₀ ex,PG (qw X scope N' cl C s₀ H₀ ex) target g)(Z:∀cl C s₀ H₀ ex,Jk (qw X scope N' cl C s₀ H₀ ex) ifs tt)(he:∀cl C s₀ H₀ ex,PE (qw X scope N' cl C s₀ H₀ ex) elt te)(t:swapsWith (.ListComp elt [⟨target,iter,ifs,0⟩] scope pos) (some (.Name x c)) j.line X.env=pure true)(hs:∀x,foldedSetIterable iter X.env x=pure x:=by intro _;rfl)(hf:X.fn x=true\/X.env.scope.names.lookup x=some .local:=by first|exact .inl rfl|exact .inr rfl|assumption):PS X (.Assign [.Name x c] (.ListComp elt [⟨target,iter,ifs,0⟩] scope pos) j) (Gj (ur n wi g tt te) (iQ i)):=by
 intro f s O H D I h;obtain⟨cl,k,u,sI⟩:=jl I ok;rw[exec_Assign_Name_used _ _ _ _ t];refine wpAny_bind (wpAny_standAt (wpAny_bind ?_));show wpAny _ X.A (do let _<-comprehension (.ListComp elt [⟨target,iter,ifs,0⟩] scope pos) scope X.env _ (newList []) false (eval iter X.env) (some (assign (.Name x c) X.env))) _ _ s;refine wpAny_bind (wpAny_mono (wpAny_comprehension_free (use:=some (assign (.Name x c) X.env)) (Q:=λ_ p=>SP X f D .next p) rfl hs k ok.kind ok.names (cY (hi f s O H _ I h) λv s1 h1=>cY h1 λab s2 h2=>?_)) (λ_ p hq=>wpAny_pure (wpAny_pure hq)) λ_ _ e=>e);obtain⟨it,fp,tn,J,H2,rfl,I2,T,t0,f2,hw⟩:=h2;refine mK (Q:=λDa y=>D.nx (O.set i (some (.ref Da))) y) (RR:=λB C=>compPost (model X.prog X.w) X.A X.xe (some (assign (.Name x c) X.env)) (λ_ p=>SP X f D .next p) B C) hc ok I2 u sI T t0 f2 Y Z he hw λDa C p y q E l I'=>?_;obtain⟨m,E⟩:=E;show wpAny _ X.A (assign (.Name x c) X.env (.ref Da)) _ _ _;refine wpAny_assign_Name (mW I' U r W (show RelV (.ref Da) (.ref Da)from rfl) (?_) hf);rintro F G⟨a,sb,ha⟩;have L:C≠a:=by
  rcases ha with rfl|ha;.exact l.2.1
  .exact λz=>l.2.2.2.2.1 x a ha z.symm
 refine⟨m,E.sameBut sb L,λh' M=>⟨_,y,?_,q⟩⟩;exact G.turned (t':=F.toks) (λb o hb e=>M.extBut b o hb e) l.1 l.2.1 l.2.2.2.1 l.2.2.2.2.1 l.2.2.2.2.2
def Nh(K:PySem.W.Frag)(c:TE):TI:=λe H R=>c e H λx b=>∃a,x=.ref a/\(((∃xs,cR K b a xs)/\R (Df K a) b)\/((∃xs,fV K b a xs)/\R (JB K a) b))
theorem oK{u l:Expr}{r:TE}(w:PE X l r):PI X u l (Nh X.K r):=by
 intro f s y H R I h;refine cY (w f s y H _ I h) ?_;rintro v s1⟨x,t,c,z,j⟩;obtain⟨a,e,j⟩:=j;subst e;cases z;rcases j with⟨⟨xs,k⟩,q⟩|⟨⟨xs,k⟩,q⟩
 . obtain⟨i,A,p,B⟩:=c.list k;refine wpAny_pyIter_list p.isList ?_;refine⟨s1.heap.objs.size,[s1.heap.objs.size],_,_,t,rfl,c.kept (t':=s1.toks) λb o e=>mq e,mH a _,⟨_,get?_push_size _ rfl,rfl,rfl⟩,λb m=>?_,q⟩;have e:b=s1.heap.objs.size:=by simpa using m
   subst e;exact c.vy (dH) (c.hok.fresh (dH))
 . obtain⟨i,A,p,B⟩:=c.tuple k;refine wpAny_pyIter_tuple (show s1.heap.IsTuple a i.toArray from p) ?_;refine⟨s1.heap.objs.size,[s1.heap.objs.size],_,_,t,rfl,c.kept (t':=s1.toks) λb o e=>mq e,rY a _,⟨_,get?_push_size _ rfl,rfl,rfl⟩,λb m=>?_,q⟩;have e:b=s1.heap.objs.size:=by simpa using m
   subst e;exact c.vy (dH) (c.hok.fresh (dH))
end
end L2
end
section
namespace HH
open PySem L2 PySem.Spec PyProof.Rows
variable{v:V}{i m:Nat}{K:PySem.W.Frag}{F H:Hp}{ρ:List Sl}{σ:L2.St}{x:Str}{p':Pos}{is:List Nat}{ds:List D}{s:Shared}{A:Around}{u':Value}
structure Walk(K:PySem.W.Frag)(F:Hp)(ρ:List Sl)(σ:L2.St)(H:Hp)(ul:List Sl->List Sl)(J:It)(ds:List D)(F1:Hp)(ρ1:List Sl)(H1:Hp):Prop where
 gs:GS K F1 ρ1 σ H1
 src:∀(n k:Nat)(F':Hp)(ρ':List Sl)(σ':L2.St)(H':Hp),aZ K F1 (ρ1++replicate n .aC) (σ++replicate n none) H1 F' ρ' σ' H'->(∀d,ds[k]?=some d->J.go k H'/\∀x gW,J.Dv k H' x gW->∃F'',Ext F' H' F'' gW/\Rep K F'' x d)/\(ds.length<=k->J.stop k H')fin:∀F2 ρ2 σ2 H2,aZ K F1 ρ1 σ H1 F2 ρ2 σ2 H2->aZ K F ρ σ H F2 (ul ρ2) σ2 H2/\∀v r,bO K F2 ρ2 σ2 H2 ρ1 σ H1 v r->bO K F2 (ul ρ2) σ2 H2 ρ σ H v r
inductive Vh(K:PySem.W.Frag)(iv:Option Nat)(f:Ev)(σ:L2.St)(H:Hp)(R:It->Hp->Prop):Prop where|mk(F:Hp)(ρ:List Sl)(ds:List D)(ρ1:List Sl)(g:GS K F ρ σ H)(e:srcOf iv f ρ=.ok ds ρ1)(k:∀J F1 H1,Walk K F ρ σ H (bB ρ iv) J ds F1 ρ1 H1->R J H1)
section
variable{K:PySem.W.Frag}{F F1 H H1:Hp}{ρ ρ1:List Sl}{σ:L2.St}{ds:List D}{a:Addr}
theorem Bu{xs:List V}{f b:Hp}(g:fV K b a xs)(r:az K f xs ds)(s:aB f b)(k:Nat):(∀d,ds[k]?=some d->(JB K a).go k b/\∀x j,(JB K a).Dv k b x j->∃c,Ext f b c j/\Rep K c x d)/\(ds.length<=k->(JB K a).stop k b):=by refine⟨λd hd=>?_,λh=>⟨xs,g,by rw[r.length];exact h⟩⟩;obtain⟨w,h1,l⟩:=r.get hd;refine⟨⟨xs,w,g,h1⟩,?_⟩;rintro x j⟨e,y⟩;subst e;have:=y xs g;rw[h1]at this;cases this;exact⟨f,.refl s,l⟩
theorem pP{xs:List V}{f b:Hp}(g:cR K b a xs)(r:az K f xs ds)(s:aB f b)(k:Nat):(∀d,ds[k]?=some d->(Df K a).go k b/\∀x j,(Df K a).Dv k b x j->∃c,Ext f b c j/\Rep K c x d)/\(ds.length<=k->(Df K a).stop k b):=by refine⟨λd hd=>?_,λh=>⟨xs,g,by rw[r.length];exact h⟩⟩;obtain⟨w,h1,l⟩:=r.get hd;refine⟨⟨xs,w,g,h1⟩,?_⟩;rintro x j⟨e,y⟩;subst e;have:=y xs g;rw[h1]at this;cases this;exact⟨f,.refl s,l⟩
theorem qm{ul:List Sl->List Sl}{d:D}(s:aZ K F ρ σ H F1 ρ1 σ H1)(r:Rep K F1 v d)(hi:items d=some ds)(fin:∀f b c H2,aZ K F1 ρ1 σ H1 f b c H2->aZ K F ρ σ H f (ul b) c H2/\∀v r,bO K f b c H2 ρ1 σ H1 v r->bO K f (ul b) c H2 ρ σ H v r):∃a,v=.ref a/\(((∃xs,cR K H1 a xs)/\Walk K F ρ σ H ul (Df K a) ds F1 ρ1 H1)\/((∃xs,fV K H1 a xs)/\Walk K F ρ σ H ul (JB K a) ds F1 ρ1 H1)):=by cases d with|tup l=>cases hi;rw[Rep]at r;obtain⟨a,xs,rfl,h1,g⟩:=r;exact⟨a,rfl,.inr ⟨⟨xs,aB.gG s.gs.sub h1⟩,s.gs,λn k o h j p e=>Bu (aB.gG e.gs.sub (aB.gG e.cA h1)) (g.mono e.cA) e.gs.sub k,fin⟩⟩|lst l=>cases hi;rw[Rep]at r;obtain⟨a,xs,rfl,h1,g⟩:=r;exact⟨a,rfl,.inl ⟨⟨xs,s.gs.sub.seq h1⟩,s.gs,λn k o h j p e=>pP (e.gs.sub.seq (e.cA.seq h1)) (g.mono e.cA) e.gs.sub k,fin⟩⟩|_=>cases hi
theorem nj{ul:List Sl->List Sl}(g:GS K F ρ1 σ H)(e:ρ1[i]?=some (.lent ds))(fin:∀f b c H2,aZ K F ρ1 σ H f b c H2->aZ K F ρ σ H f (ul b) c H2/\∀v r,bO K f b c H2 ρ1 σ H v r->bO K f (ul b) c H2 ρ σ H v r):∃a,σ[i]?=some (some (.ref a))/\(∃xs,cR K H a xs)/\Walk K F ρ σ H ul (Df K a) ds F ρ1 H:=by obtain⟨a,xs,h1,o,B,C⟩:=g.nF i _ ds e rfl;have hi:i<ρ1.length:=(gw e).1;refine⟨a,h1,⟨xs,cR.of o⟩,g,λn k E p q G h=>?_,fin⟩;obtain⟨j,t,u,w⟩:=h.lk i _ (by rw[getElem?_append_left hi];exact e) rfl;cases(show t=.lent ds from w);rw[getElem?_append_left (by rw[<-g.len];exact hi),h1]at j;obtain⟨I,ys,l,y,J,z⟩:=h.gs.nF i _ ds u rfl;rw[j]at l;cases l;exact pP (cR.of y) z h.gs.sub k
end
section
variable{X:Cx}{c:Call}{n:Nat}{e a b d tg:Expr}{p pa pb pd:P}{pos:Pos}
theorem tu{t t':TI}(h:PI X tg e t)(i:∀σ H R,t' σ H R->t σ H R):PI X tg e t':=λf s σ H R I q=>h f s σ H R I (i σ H R q)
def SI(X:Cx)(c:Call)(tg e:Expr)(p:P):Prop:=PI X tg e (Vh X.K (isVar p) (HH.ev c p))
theorem cO(h:SX X c e p):SI X c tg e p:=by unfold SI;cases hv:isVar p with|none=>refine tu (oK h.ev) ?_;rintro σ H R⟨F,ρ,ds,ρ1,g,e,k⟩;obtain⟨r,f,I,o⟩:=aa e;have t:=aJ o;clear o;obtain⟨o,u⟩:=t;subst u;refine⟨F,ρ,r,_,g,I,λv O Q s y=>?_⟩;obtain⟨l,s2,_,J⟩:=s.dI y;obtain⟨a,B,C⟩:=qm (ul:=bB ρ none) s2 J o λU L M W s3=>⟨s2.trans s3,λv r y=>y.later s2⟩;exact⟨a,B,C.imp (λ⟨z,w⟩=>⟨z,k _ _ _ w⟩) (λ⟨z,w⟩=>⟨z,k _ _ _ w⟩)⟩|some i=>
   refine tu (oK (h.var i hv)) ?_;rintro σ H R⟨F,ρ,ds,ρ1,g,e,k⟩;unfold srcOf at e;dsimp only at e;split at e
   . rename_i b d q;have t:=aJ e;clear e;obtain⟨o,u⟩:=t;subst u;obtain⟨v,h1,N⟩:=g.val i b d q;have fin:∀l f j H2,aZ X.K F ρ σ H l f j H2->aZ X.K F ρ σ H l (bB ρ (some i) f) j H2/\∀v r,bO X.K l f j H2 ρ σ H v r->bO X.K l (bB ρ (some i) f) j H2 ρ σ H v r:=λl f j H2 s=>by unfold bB;dsimp only;rw[q];exact⟨s,λ_ _ z=>z⟩
     obtain⟨a,B,C⟩:=qm (ul:=bB ρ (some i)) (.refl g) N o fin;exact⟨v,h1,a,B,C.imp (λ⟨z,w⟩=>⟨z,k _ _ _ w⟩) (λ⟨z,w⟩=>⟨z,k _ _ _ w⟩)⟩
   . rename_i b E q;cases e;have hi:i<ρ.length:=(gw q).1;have fin:∀l f j H2,aZ X.K F (ρ.set i (.lent ds)) σ H l f j H2->aZ X.K F ρ σ H l (bB ρ (some i) f) j H2/\∀v r,bO X.K l f j H2 (ρ.set i (.lent ds)) σ H v r->bO X.K l (bB ρ (some i) f) j H2 ρ σ H v r:=λl f j H2 s=>by unfold bB;dsimp only;rw[q];exact aZ.bB g q s
     obtain⟨a,h1,G,w⟩:=nj (ul:=bB ρ (some i)) (g.lend q) (getElem?_set_self hi) fin;exact⟨_,h1,a,rfl,.inl ⟨G,k _ _ _ w⟩⟩
   . rename_i E q;cases e;have fin:∀l f j H2,aZ X.K F ρ σ H l f j H2->aZ X.K F ρ σ H l (bB ρ (some i) f) j H2/\∀v r,bO X.K l f j H2 ρ σ H v r->bO X.K l (bB ρ (some i) f) j H2 ρ σ H v r:=λl f j H2 s=>by unfold bB;dsimp only;rw[q];exact⟨s,λ_ _ z=>z⟩
     obtain⟨a,h1,G,w⟩:=nj (ul:=bB ρ (some i)) g q fin;exact⟨_,h1,a,rfl,.inl ⟨G,k _ _ _ w⟩⟩
   .cases e
theorem vY{f g:Hp}{ρ1:List Sl}(s:aZ K F ρ σ H f ρ1 σ g)(i j:Int):Walk K F ρ σ H (bB ρ none) (Oh i (j-i).toNat) ((List.range (j-i).toNat).map λ(k:Nat)=>D.int (i+(k:Int))) f ρ1 g:=by
 refine⟨s.gs,λn k o q t I u=>⟨λd hd=>?_,λh=>?_⟩,λJ w y L s3=>⟨s.trans s3,λv r z=>z.later s⟩⟩;.rw[getElem?_map]at hd;obtain⟨m,B,C⟩:=map_some hd;obtain⟨h1,l⟩:=gw B;rw[List.getElem_range]at l;subst l;subst C;rw[List.length_range]at h1;refine⟨h1,?_⟩;rintro x M⟨E,G⟩;subst E;subst G;exact⟨o,.refl u.gs.sub,cX _⟩
 .rw[length_map,List.length_range]at h;exact h
theorem jR(t:x="range")(u:Gl X x)(w:X.mg x=none)(y:SX X c a pa)(hs:starEach [a] X.env=[(false,eval a X.env)]:=by rfl):SI X c tg (.Call (.Name x p') [a] [] pos) (.vH (.con (.int 0)) pa):=by
 subst t;obtain⟨Q,h1,z⟩:=y.fU;refine tu (uL u w (bR h1 dU hs) hs) ?_;rintro σ H R⟨F,ρ,ds,ρ1,g,e,k⟩;obtain⟨r,B,q,h⟩:=aa e;have l:=aJ h;clear h;obtain⟨h,C⟩:=l;subst C;rw[HH.E21]at q;obtain⟨U,E,G,f⟩:=aa q;have l:=aJ f;clear f;obtain⟨f,I⟩:=l;subst I;obtain⟨W,J,L,o⟩:=aa G;cases o;obtain⟨i,f1,f⟩:=iz f;obtain⟨j,f2,f⟩:=iz f;obtain⟨⟨b1,b2,b3,b4⟩,f⟩:=bU f;have f1:i=0:=by cases f1;rfl
 subst f1;subst f;cases h;cases j8 f2;refine z g L λv M N s O=>⟨j,by rw[O.int],by omega,by omega,?_⟩;have:=vY s 0 j;rw[Int.sub_zero]at this;refine k _ M N ?_;rw[Int.sub_zero];exact this
end
section
variable{X:Cx}{c:Call}{n:Nat}{e a b d tg iter:Expr}{p pa pb pd:P}{pos:Pos}{body:List Stmt}{ss:List S}
def HS(K:PySem.W.Frag)(j:List Sl->D->Option (List Sl))(g:TG):Prop:=∀(x:V)(d:D)(F:Hp)(ρ f:List Sl)(σ:L2.St)(H:Hp)(Q:L2.St->Hp->Prop),GS K F ρ σ H->Rep K F x d->j ρ d=some f->(∀h,aZ K F ρ σ H F f h H->Q h H)->g x σ H Q
theorem zU(i:Nat):HS K (λρ d=>put ρ i (.val false d)) (iQ i):=λx d F ρ f σ H Q g r h k=>k _ (aZ.put (r:=.val d) (.refl g) r h)
theorem tX:∀(is:List Nat)(gs:vC),(∀(xs:List V)(ds:List D)(F:Hp)(ρ f:List Sl)(σ:L2.St)(H:Hp)(Q:L2.St->Hp->Prop),GS K F ρ σ H->az K F xs ds->putAll ρ is ds=some f->(∀j,aZ K F ρ σ H F f j H->Q j H)->gs xs σ H Q)->∀i,∀(xs:List V)(ds:List D)(F:Hp)(ρ f:List Sl)(σ:L2.St)(H:Hp)(Q:L2.St->Hp->Prop),GS K F ρ σ H->az K F xs ds->putAll ρ (i::is) ds=some f->(∀j,aZ K F ρ σ H F f j H->Q j H)->yo (iQ i) gs xs σ H Q:=by intro is gs o i xs ds F ρ f σ H Q g r h k;cases ds with|nil=>simp[gK,gb,jq,jr]at h|cons d ds=>obtain⟨v,l,rfl,h1,q⟩:=r.bT;rw[gb]at h;obtain⟨ρ1,t,u⟩:=iz h;have s1:=aZ.put (r:=.val d) (.refl g) h1 t;refine⟨v,l,rfl,o l ds F ρ1 f _ H _ s1.gs q u λj s2=>k j (s1.trans s2)⟩
theorem Ay:∀(xs:List V)(ds:List D)(F:Hp)(ρ f:List Sl)(σ:L2.St)(H:Hp)(Q:L2.St->Hp->Prop),GS K F ρ σ H->az K F xs ds->putAll ρ [] ds=some f->(∀j,aZ K F ρ σ H F f j H->Q j H)->GD xs σ H Q:=by intro xs ds F ρ f σ H Q g r h k;cases ds with|nil=>rw[gK]at h;cases h;exact⟨r.fC,k σ (.refl g)⟩|cons d ds=>simp[gK,gb,jq,jr]at h
theorem iI:∀{is:List Nat}{ds:List D}{ρ f:List Sl},putAll ρ is ds=some f->ds.length=is.length|[],[],_,_,_=>rfl|[],_::_,_,_,h=>by simp[gK,gb,jq,jr]at h|_::_,[],_,_,h=>by simp[gK,gb,jq,jr]at h|i::is,d::ds,ρ,f,h=>by rw[gb]at h;obtain⟨ρ1,j,g⟩:=iz h;simp[iI g]
theorem G5{gs:vC}(q:m=is.length)(h:∀(xs:List V)(ds:List D)(F:Hp)(ρ f:List Sl)(σ:L2.St)(H:Hp)(Q:L2.St->Hp->Prop),GS K F ρ σ H->az K F xs ds->putAll ρ is ds=some f->(∀l,aZ K F ρ σ H F f l H->Q l H)->gs xs σ H Q):HS K (λρ d=>bQ ρ is false d) (Ef K m gs):=by intro x d F ρ f σ H Q g r j k;replace j:bQ ρ is false d=some f:=j;cases d with|tup ds=>replace j:putAll ρ is ds=some f:=j;rw[Rep]at r;obtain⟨a,xs,rfl,h1,o⟩:=r;exact⟨a,xs,rfl,aB.gG g.sub h1,by rw[o.length,iI j,q],h xs _ F ρ f σ H Q g o j k⟩|_=>cases j
theorem wU{g:TG}{one:Bool}(hp:PassesOwn (model X.prog X.w) X.A X.env X.xe)(hc:X.calm=true)(hi:SI X c tg iter p)(hg:PG X tg g)(Y:HS X.K (λρ d=>bQ ρ is one d) g)(hb:SB X c n body ss)(hs:∀x,foldedSetIterable iter X.env x=pure x:=by intro _;rfl):SS X c n (.For tg iter body [] pos) (.oW p is one ss):=by
 refine jd (nR hp hc hi hg hb hs) ?_;rintro D σ H⟨F,ρ,fl,q,g0,e,k⟩;rw[HH.RZ]at e;obtain⟨ds,ρ1,e1,e⟩:=aa e;obtain⟨ac,C,e2,e⟩:=aa e;cases e;refine⟨F,ρ,ds,ρ1,g0,e1,λJ M Z w=>?_⟩;have src:∀(i:Nat)(N:Hp)(q:List Sl)(h:L2.St)(j:Hp),aZ X.K M ρ1 σ Z N q h j->(∀d,ds[i]?=some d->J.go i j/\∀x gW,J.Dv i j x gW->∃E,Ext N j E gW/\Rep X.K E x d)/\(ds.length<=i->J.stop i j):=λi N q h j s=>w.src 0 i N q h j (by simpa using s);refine⟨λi m o O=>∃B f,aZ X.K M ρ1 σ Z B f o O/\m=ds.length-i/\i<=ds.length/\jb is one (fj c n ss) (ds.drop i) f=.ok fl C,⟨_,M,ρ1,.refl w.gs,rfl,Jo,e2⟩,?_⟩;rintro i m o O⟨B,f,Q,rfl,ae,l⟩;obtain⟨s1,s2⟩:=src i B f o O Q;by_cases t:i<ds.length
 . right;have hd:ds[i]?=some ds[i]:=by simp[t]
   obtain⟨go,step⟩:=s1 _ hd;refine⟨go,λh j=>∃m',m'<ds.length-i/\∃B f,aZ X.K M ρ1 σ Z B f h j/\m'=ds.length-(i+1)/\i+1<=ds.length/\jb is one (fj c n ss) (ds.drop (i+1)) f=.ok fl C,λh j z=>z,λx j y=>?_⟩;obtain⟨F2,ext,rx⟩:=step x j y;have Wd:=Q.trans (ext.stp Q.gs);rw[List.drop_eq_getElem_cons t,wI]at l;cases hbd:bQ f is one ds[i]with|none=>rw[hbd]at l;cases l|some G=>rw[hbd]at l;obtain⟨I,u,eb,l⟩:=aa l;refine Y x _ F2 f G o j _ Wd.gs rx hbd λaf sb=>?_;have Ur:=Wd.trans sb;refine⟨F2,G,I,u,Ur.gs,eb,λU L H4 s4=>?_⟩;have W:=Ur.trans s4;cases I with|next=>exact⟨_,by omega,U,u,W,rfl,t,l⟩|cont=>exact⟨_,by omega,U,u,W,rfl,t,l⟩|brk=>cases l;exact k U L H4 (w.fin _ _ _ _ W).1|ret r=>cases l;intro v rr;obtain⟨z1,z2⟩:=w.fin _ _ _ _ W;exact k U L H4 z1 v (z2 v r (rr.later Ur))
 . left;have ab:ds.drop i=[]:=by rw[List.drop_eq_nil_iff];omega
   rw[ab,FT]at l;cases l;exact⟨s2 (by omega),k B o O (w.fin _ _ _ _ Q).1⟩
theorem vg(i:Nat):(λ(ρ:List Sl)(d:D)=>bQ ρ [i] true d)=λρ d=>put ρ i (.val false d):=by funext ρ d;rfl
theorem Av{f:Pos}(h:PassesOwn (model X.prog X.w) X.A X.env X.xe)(hc:X.calm=true)(j:X.N.Nodup)(g:X.N[i]?=some x)(k:Loc X.env.scope x)(hi:SI X c (.Name x f) iter p)(l:SB X c n body ss)(hs:∀x,foldedSetIterable iter X.env x=pure x:=by intro _;rfl)(o:X.fn x=true\/X.env.scope.names.lookup x=some .local:=by first|exact .inl rfl|exact .inr rfl|assumption):SS X c n (.For (.Name x f) iter body [] pos) (.oW p [i] true ss):=wU h hc hi (aQ j g k o) (by rw[vg];exact zU i) l hs
end
section
variable{X:Cx}{c:Call}{n:Nat}{e elt tg iter:Expr}{p ps pe:P}{pos:Pos}{scope:Scope}{N':List Str}{ifs:List Expr}
theorem Ec{t t':TE}(h:PE X e t)(i:∀σ H Q,σ.length=X.N.length->t' σ H Q->t σ H Q):PE X e t':=λa s σ H Q I q=>h a s σ H Q I (i σ H Q I.len q)
theorem Fz{st:Stmt}{t t':TS}(h:PS X st t)(i:∀D σ H,σ.length=X.N.length->t' D σ H->t D σ H):PS X st t':=λa s σ H D I q=>h a s σ H D I (i D σ H I.len q)
def mO(K:PySem.W.Frag)(m:Nat)(is:List Nat)(one:Bool)(g:TG):Prop:=∀(x:V)(d:D)(F:Hp)(ρ b:List Sl)(σ:L2.St)(H:Hp)(Q:L2.St->Hp->Prop),GS K F ρ σ H->Rep K F x d->bQ ρ is one d=some b->(∀a,aZ K F ρ σ H F b a H->a.take m=σ.take m->Q a H)->g x σ H Q
theorem take_set{b:Type}{l:List b}{a:b}(h:m<=i):(l.set i a).take m=l.take m:=by rw[List.take_set_of_le h]
theorem bG(h:m<=i):mO K m [i] true (iQ i):=λx d F ρ a σ H Q g r b k=>k _ (aZ.put (r:=.val d) (.refl g) r b) (take_set h)
def zp(K:PySem.W.Frag)(m:Nat)(is:List Nat)(gs:vC):Prop:=∀(xs:List V)(ds:List D)(F:Hp)(ρ b:List Sl)(σ:L2.St)(H:Hp)(Q:L2.St->Hp->Prop),GS K F ρ σ H->az K F xs ds->putAll ρ is ds=some b->(∀a,aZ K F ρ σ H F b a H->a.take m=σ.take m->Q a H)->gs xs σ H Q
theorem pH{gs:vC}(hi:m<=i)(j:zp K m is gs):zp K m (i::is) (yo (iQ i) gs):=by intro xs ds F ρ a σ H Q g r h k;cases ds with|nil=>simp[gK,gb,jq,jr]at h|cons d ds=>obtain⟨v,f,rfl,h1,l⟩:=r.bT;rw[gb]at h;obtain⟨ρ1,o,q⟩:=iz h;have s1:=aZ.put (r:=.val d) (.refl g) h1 o;exact⟨v,f,rfl,j f ds F ρ1 a _ H _ s1.gs l q λb s2 z=>k b (s1.trans s2) (z.trans (take_set hi))⟩
theorem zb:zp K m [] GD:=by intro xs ds F ρ a σ H Q g r h k;cases ds with|nil=>rw[gK]at h;cases h;exact⟨r.fC,k σ (.refl g) rfl⟩|cons d ds=>simp[gK,gb,jq,jr]at h
theorem Bk{gs:vC}{l:Nat}(o:l=is.length)(h:zp K m is gs):mO K m is false (Ef K l gs):=by intro x d F ρ b σ H Q g r f k;cases d with|tup ds=>replace f:putAll ρ is ds=some b:=f;rw[Rep]at r;obtain⟨a,xs,rfl,h1,j⟩:=r;exact⟨a,xs,rfl,aB.gG g.sub h1,by rw[j.length,iI f,o],h xs _ F ρ b σ H Q g j f k⟩|_=>cases f
def SQ(X:Cx)(c:Call)(ifs:List Expr)(t:Option P):Prop:=Jk X ifs (Cr X.K (jW c t))
theorem bL:SQ X c [] none:=λa s σ H Q I⟨F,ρ,k,ρ',g,e,q⟩=>by rw[jW]at e;cases e;exact zR a s σ H Q I (q F H (.refl g))
theorem aZ.M3{g j:Hp}{ρ1:List Sl}{f:L2.St}{Da:Addr}{o:HO}(s:aZ K F ρ σ H g ρ1 f j)(h:H Da=none)(q:g Da=none)(ho:¬ Own ρ1 f Da):aZ K F ρ σ H g ρ1 f (upd j Da o):=by
 refine⟨⟨λb u e=>?_,s.gs.len,s.gs.val,λi t ds e k=>?_,s.gs.dis⟩,s.cA,s.oX,λb u e n=>?_,s.mF,s.len,s.lk⟩
 . have:b≠Da:=by rintro rfl;rw[q]at e;cases e
   rw[aD this];exact s.gs.sub b u e
 . obtain⟨a,xs,l,r,w,y⟩:=s.gs.own i t ds e k;have:a≠Da:=by rintro rfl;exact ho ⟨i,⟨t,ds,e,k⟩,l⟩
   exact⟨a,xs,l,by rw[aD this];exact r,w,y⟩
 . have:b≠Da:=by rintro rfl;rw[h]at e;cases e
   rw[aD this];exact s.keep b u e n
theorem xO{ρ1 l:List Sl}{ul:List Sl->List Sl}{ti:TI}{one:Bool}{r:List Sl->Res Bool}{el:Ev}{g:TG}{Q:VK}{xs:List D}(hm:σ.length=m)(ag:mO K m is one g)(ah:∀R:It->Hp->Prop,(∀J N U,Walk K F ρ σ H ul J ds N ρ1 U->R J U)->ti σ H R)(ap:ds.length<=lim)(e2:turns is one r el ds [] (ρ1++replicate n .aC)=.ok xs l)(k:∀v F' H',aZ K F ρ σ H F' (ul (l.take ρ1.length)) σ H'->bO K F' (ul (l.take ρ1.length)) σ H' ρ σ H v (.own xs)->Q v H'):ur n ti g (Cr K r) (vf K el) σ H Q:=by
 refine ah _ λJ N U w Da O=>?_;have ai:ρ1.length=σ.length:=w.gs.len;have gm:=w.gs.more (n:=n) (τ:=replicate n none) (by simp);have fD:N Da=none:=by cases q:N Da with|none=>rfl|some o=>rw[w.gs.sub Da o q]at O;cases O
 have nO:¬ Own (ρ1++replicate n .aC) (σ++replicate n none) Da:=λ⟨i,⟨t,dt,q1,q2⟩,q3⟩=>by obtain⟨a,ys,z1,z2,_⟩:=gm.own i t dt q1 q2;rw[q3]at z1;cases z1;rw[O]at z2;cases z2
 refine⟨λi mm ys b E=>∃C f j,aZ K N (ρ1++replicate n .aC) (σ++replicate n none) U C f b E/\b.take m=σ/\E Da=some (.lst ys)/\C Da=none/\¬ Own f b Da/\az K C ys j/\j.length<=i/\mm=ds.length-i/\i<=ds.length/\turns is one r el (ds.drop i) j f=.ok xs l,⟨_,N,_,[],(aZ.refl gm).M3 O fD nO,by rw[List.take_append_of_le_length (by omega),List.take_of_length_le (by omega)],aO,fD,nO,.nil,Jo,rfl,Jo,e2⟩,?_⟩;rintro i mm ys b E⟨C,f,j,W,G,Y,hF,hO,rs,ar,rfl,av,h⟩;refine⟨Y,?_⟩--what stays of the new list through a step
 have stay:∀{I H2:Hp}{L:List Sl}{u:L2.St},aZ K C f b E I L u H2->H2 Da=some (.lst ys)/\I Da=none/\¬ Own L u Da:=λ{I H2 L u}s=>by
  refine⟨s.keep Da _ Y hO,?_,λo=>?_⟩;.cases q:I Da with|none=>rfl|some o=>
      rcases s.oX Da hF (by rw[q];simp)with z|z;.exact absurd z hO
      .exact(wg Y z).elim
  . rcases s.mF Da o with z|z;.exact hO z
    .rw[Y]at z;cases z
 obtain⟨s1,s2⟩:=w.src n i C f b E W;by_cases B:i<ds.length
 . right;have hd:ds[i]?=some ds[i]:=by simp[B]
   obtain⟨go,step⟩:=s1 _ hd;refine⟨go,λx H2 y=>?_⟩;obtain⟨I,ext,rx⟩:=step x H2 y;have t2:=ext.stp W.gs;rw[List.drop_eq_getElem_cons B,sG]at h;cases hbd:bQ f is one ds[i]with|none=>rw[hbd]at h;cases h|some Z=>rw[hbd]at h;obtain⟨bb,M,eb,h⟩:=aa h;refine ag x _ I f Z b H2 _ t2.gs rx hbd λu sb ab=>?_;have t3:=t2.trans sb;refine⟨I,Z,bb,M,t3.gs,eb,λF4 H4 s4=>?_⟩;have t4:=t3.trans s4;cases bb with|false=>rw[if_neg Bool.false_ne_true]at h;obtain⟨y1,y2,y3⟩:=stay t4;exact⟨_,by omega,F4,M,j,W.trans t4,ab.trans G,y1,y2,y3,rs.mono t4.cA,by omega,rfl,B,h⟩|true=>
       rw[if_pos rfl]at h;obtain⟨re,ac,ee,h⟩:=aa h;refine(show vf K el u H4 _ from⟨F4,M,re,ac,t4.gs,ee,λv F5 H5 s5 rr=>?_⟩);obtain⟨F6,s6,_,rp⟩:=s5.dI rr;have t6:=t4.trans s6;obtain⟨y1,y2,y3⟩:=stay t6;have ae:ys.length<sizeLine:=by have h1:=rs.length;have h2:lim=sizeLine:=rfl;omega
       exact⟨y1,ae,_,by omega,F6,ac,j++[re.d],(W.trans t6).M3 O y2 y3,ab.trans G,aO,y2,y3,(rs.mono t6.cA).append (.cons rp .nil),by simp;omega,rfl,B,h⟩
 . left;have am:ds.drop i=[]:=by rw[List.drop_eq_nil_iff];omega
   rw[am,rM]at h;cases h;refine⟨s2 (by omega),?_⟩;obtain⟨l1,l2⟩:=aZ.less (m:=ρ1.length) rfl w.gs (by simp) W;have af:b.take ρ1.length=σ:=by rw[ai,hm];exact G
   rw[af]at l1;have rr:bO K C l b E (ρ1++replicate n .aC) (σ++replicate n none) U (.ref Da) (.own xs):=⟨Da,ys,rfl,Y,hF,rs,hO,.inr O⟩;have We:=l2 _ _ rr;rw[af]at We;obtain⟨z1,z2⟩:=w.fin _ _ _ _ l1;exact k _ C E z1 (z2 _ _ We)
theorem tO{q:Option Nat}{f:Ev}{one:Bool}{b:List Sl->Res Bool}{w:Ev}{g:TG}{Q:VK}{r:R}{j:List Sl}(z:σ.length=m)(t:mO K m is one g)(B:GS K F ρ σ H)(e:((srcOf q f ρ).bind λds a=>if ds.length<=lim then(turns is one b w ds [] (a++replicate n .aC)).bind λxs l=>Res.ok (R.own xs) (bB ρ q (l.take a.length))else .stuck)=.ok r j)(k:∀v y u,aZ K F ρ σ H y j σ u->bO K y j σ u ρ σ H v r->Q v u):ur n (Vh K q f) g (Cr K b) (vf K w) σ H Q:=by
 obtain⟨ds,ρ1,C,e⟩:=aa e;split at e;.rename_i o;obtain⟨xs,E,G,e⟩:=aa e;cases e;exact xO z t (λR h=>⟨F,ρ,ds,ρ1,B,C,h⟩) o G k
 .cases e
theorem cD{g:TG}{one:Bool}{t:Option P}(hc:X.calm=true)(ok:eG X scope N' n)(hi:SI X c tg iter ps)(b:∀cl C s₀ H₀ ex,PG (qw X scope N' cl C s₀ H₀ ex) tg g)(a:mO X.K X.N.length is one g)(f:∀cl C s₀ H₀ ex,SQ (qw X scope N' cl C s₀ H₀ ex) c ifs t)(he:∀cl C s₀ H₀ ex,SX (qw X scope N' cl C s₀ H₀ ex) c elt pe)(hs:∀x,foldedSetIterable iter X.env x=pure x:=by intro _;rfl):SX X c (.ListComp elt [⟨tg,iter,ifs,0⟩] scope pos) (.comp ps n is one t pe):=by refine⟨Ec (Bh (tt:=Cr X.K (jW c t)) (te:=vf X.K (HH.ev c pe)) hc ok hi b f (λcl C s₀ H₀ ex=>(he cl C s₀ H₀ ex).ev) hs) ?_,λi h=>by cases h⟩;rintro σ H Q j⟨F,ρ,r,l,o,e,k⟩;rw[HH.E20]at e;exact tO j a o e k
theorem nA{a b:Pos}{nn:Nat}{g:TG}{one:Bool}{t:Option P}(hc:X.calm=true)(q:X.N.Nodup)(h:X.N[i]?=some x)(u:Loc X.env.scope x)(ok:eG X scope N' n)(hi:SI X c tg iter ps)(w:∀cl C s₀ H₀ ex,PG (qw X scope N' cl C s₀ H₀ ex) tg g)(j:mO X.K X.N.length is one g)(y:∀cl C s₀ H₀ ex,SQ (qw X scope N' cl C s₀ H₀ ex) c ifs t)(he:∀cl C s₀ H₀ ex,SX (qw X scope N' cl C s₀ H₀ ex) c elt pe)(l:swapsWith (.ListComp elt [⟨tg,iter,ifs,0⟩] scope pos) (some (.Name x a)) b.line X.env=pure true:=by rfl)(hs:∀x,foldedSetIterable iter X.env x=pure x:=by intro _;rfl)(z:X.fn x=true\/X.env.scope.names.lookup x=some .local:=by first|exact .inl rfl|exact .inr rfl|assumption):SS X c nn (.Assign [.Name x a] (.ListComp elt [⟨tg,iter,ifs,0⟩] scope pos) b) (.asg i (.comp ps n is one t pe)):=by refine Fz (yX (tt:=Cr X.K (jW c t)) (te:=vf X.K (HH.ev c pe)) hc q h u ok hi w y (λcl C s₀ H₀ ex=>(he cl C s₀ H₀ ex).ev) l hs z) ?_;rintro D σ H B⟨F,ρ,fl,E,G,e,k⟩;rw[HH.X6]at e;obtain⟨r,ρ1,o,e⟩:=aa e;obtain⟨I,J,f,e⟩:=aa e;cases e;have L:=aJ f;clear f;obtain⟨f,U⟩:=L;rw[HH.E20]at o;exact tO B j G o λv M O s1 Q=>k M _ O (s1.put Q f)
end
section
variable{X:Cx}{c:Call}{n:Nat}{e a b d:Expr}{p pa pb pd:P}{pos:Pos}{es:List Expr}{ps:List P}
noncomputable def S8:D->String|.non=>"NoneType"|.bl _=>"bool"|.int _=>"int"|.str _=>"str"|.tup _=>"tuple"|.lst _=>"list"|.dC _=>"dict"|.dv _ _=>"dict"
noncomputable def oZ:Ty->String|.none=>"NoneType"|.bool=>"bool"|.int=>"int"|.str=>"str"|.tuple=>"tuple"|.list=>"list"
theorem Cz(K:PySem.W.Frag)(t:Ty)(d:D):PySem.W.kitOne K (.type (S8 d)) (.type (oZ t))=some (bA t d):=by cases t<;>cases d<;>rfl
theorem sZ(K:PySem.W.Frag)(d:D):∀f:List Ty,PySem.W.kitAny K (.type (S8 d)) (f.map λt=>Value.type (oZ t))=some (f.any λt=>bA t d)|[]=>rfl|t::f=>by rw[map_cons,PySem.W.kitAny,Cz,any_cons];cases bA t d with|true=>rfl|false=>rw[Bool.false_or];exact sZ K d f
theorem Dd{k:List (Addr×Obj)}{x:V}{u:Value}{r:D}(I:L2.Inv X k σ H s)(l:aB F H)(g:cj X.K F H x r)(f:RelV x u):(∃z,PySem.W.KitX X.K u (.type (S8 r)) z/\z s.heap)/\u≠.builtin "__main__.__loader__#opaque":=by cases r with|non=>rw[g.non]at f;cases f;exact⟨⟨_,PySem.W.kitx_none,trivial⟩,nofun⟩|bl y=>rw[g.bl]at f;cases f;exact⟨⟨_,PySem.W.kitx_bool,trivial⟩,nofun⟩|int i=>rw[g.int]at f;obtain⟨t,rfl⟩:=f;exact⟨⟨_,PySem.W.kitx_int,trivial⟩,nofun⟩|str y=>rw[g.str]at f;obtain⟨t,rfl⟩:=f;exact⟨⟨_,PySem.W.kitx_str,trivial⟩,nofun⟩|tup ds=>obtain⟨q,xs,rfl,h,_⟩:=g.tup l;cases f;obtain⟨w,_,⟨o,h1,j,_⟩,_⟩:=I.tuple h;exact⟨⟨_,PySem.W.kitx_tuple,⟨o,h1,j⟩⟩,nofun⟩|lst ds=>obtain⟨q,xs,rfl,h,_⟩:=g.lst l;cases f;obtain⟨w,_,B,_⟩:=I.list h;obtain⟨o,h1,j,_⟩:=B.isList;exact⟨⟨_,PySem.W.kitx_list,⟨o,h1,j⟩⟩,nofun⟩|dC m=>obtain⟨q,_,rfl,h⟩:=g.dC l;cases f;obtain⟨o,h1,j⟩:=ym I h;exact⟨⟨_,kitx_dict,⟨o,h1,j⟩⟩,nofun⟩|dv C ds=>obtain⟨q,_,E,rfl,h,_⟩:=g.dv l;cases f;obtain⟨o,h1,j⟩:=xR I h;exact⟨⟨_,kitx_dict,⟨o,h1,j⟩⟩,nofun⟩
theorem vJ(t:Ty):dm X (.builtin "isinstance") (λxs H Q=>∃x F f,xs=[x,.ty (oZ t)]/\aB F H/\cj X.K F H x f/\Q (.bl (bA t f)) H):=by rintro h s σ H xs B Q I r⟨x,F,f,j,k,l,q⟩;subst j;obtain⟨u,o,rfl,w,rt⟩:=r.two;cases(show o=Value.type (oZ t)from rt);obtain⟨⟨C,Z,y⟩,g⟩:=Dd I k l w;exact PySem.W.kia_one Z I.Cg y (Cz _ t f) g λz=>⟨.bl _,H,I.tok z,rfl,q⟩
theorem tK:∀{g:List Ty}{f:List Value},Vals (g.map λt=>V.ty (oZ t)) f->f=g.map λt=>Value.type (oZ t)|[],_,h=>h.zero|t::g,_,.cons j k=>by rw[map_cons,<-tK k,show _=_ from j]
theorem Ad(g:List Ty):dm X (.builtin "isinstance") (λxs H Q=>∃x F h q,xs=[x,.ref q]/\H q=some (.tup (g.map λt=>V.ty (oZ t)))/\aB F H/\cj X.K F H x h/\Q (.bl (g.any λt=>bA t h)) H):=by rintro o s σ H xs N Q I r⟨x,F,h,q,y,z,B,C,k⟩;subst y;obtain⟨u,E,rfl,G,rt⟩:=r.two;cases(show E=Value.ref q from rt);obtain⟨⟨O,Z,J⟩,j⟩:=Dd I B C G;obtain⟨_,l,L,⟨⟨cls,U,data,Y⟩,ho,hc,n,hd⟩⟩:=(show cG X.prog X.w H s.heap q (.tup _)from I.hok q _ z);simp only at hc hd;subst hc hd;have f:l=g.map λt=>Value.type (oZ t):=tK L;subst f;exact PySem.W.kia_tup Z I.Cg J ho (sZ _ h g) j λM=>⟨.bl _,H,I.tok M,rfl,k⟩
theorem lB:bootBuiltins "isinstance"=some (.builtin "isinstance"):=by decide+kernel
theorem fX{y:Str}{f:Pos}(t:Ty)(l:x="isinstance")(o:Gl X x)(q:X.mg x=none)(u:SX X c a pa)(w:Gl X y)(z:X.mg y=none)(B:bootBuiltins y=some (.type (oZ t)))(C:y≠"__name__":=by decide)(E:(y==("__debug__":Str))=false:=by decide)(hs:starEach [a,.Name y f] X.env=(false,eval a X.env)::starEach [.Name y f] X.env:=by rfl):SX X c (.Call (.Name x p') [a,.Name y f] [] pos) (.inst [t] pa):=by subst l;obtain⟨O,h1,G⟩:=u.fU;refine⟨di (dR (vJ t) o q lB (bR h1 (bR (oM (v:=.ty (oZ t)) w z B rfl C E) dU) hs) (he:=hs)) ?_,λi h=>by cases h⟩;rintro σ H Q⟨F,ρ,r,I,g,e,k⟩;rw[HH.E19]at e;obtain⟨J,ρ1,L,e⟩:=aa e;cases e;refine G g L λv j M s N=>⟨v,j,J,rfl,s.gs.sub,N,k _ j M s ?_⟩;show Rep X.K j _ _;rw[any_cons,List.any_nil,Bool.or_false];exact fu _
def Ac(X:Cx)(f:List Ty)(es:List Expr):Prop:=PA X es (λ_ H Q=>Q (f.map λt=>V.ty (oZ t)) H)
theorem yZ:Ac X [] []:=iV dU λ_ _ _ h=>h
theorem pZ{y:Str}{f:Pos}{g:List Ty}(t:Ty)(j:Gl X y)(k:X.mg y=none)(l:bootBuiltins y=some (.type (oZ t)))(h:Ac X g es)(o:y≠"__name__":=by decide)(q:(y==("__debug__":Str))=false:=by decide)(hs:starEach (.Name y f::es) X.env=(false,eval (.Name y f) X.env)::starEach es X.env:=by rfl):Ac X (t::g) (.Name y f::es):=iV (bR (oM (v:=.ty (oZ t)) j k l rfl o q) h hs) λ_ _ _ h=>h
theorem xQ{w:Pos}{k2}{j:List Ty}(C:x="isinstance")(E:Gl X x)(G:X.mg x=none)(I:SX X c a pa)(J:Ac X j es)(L:j.length<=sizeLine:=by decide)(hs:starEach [a,.Tuple es k2 w] X.env=(false,eval a X.env)::starEach [.Tuple es k2 w] X.env:=by rfl):SX X c (.Call (.Name x p') [a,.Tuple es k2 w] [] pos) (.inst j pa):=by
 subst C;obtain⟨Y,h1,M⟩:=I.fU;refine⟨di (dR (Ad j) E G lB (bR h1 (bR (xG J) dU) hs) (he:=hs)) ?_,λi h=>by cases h⟩;rintro σ H Q⟨F,ρ,r,N,g,e,k⟩;rw[HH.E19]at e;obtain⟨O,ρ1,U,e⟩:=aa e;cases e;refine M g U λv f l s W=>⟨by rw[length_map];exact L,λq B=>?_⟩;have Z:f q=none:=by cases z:f q with|none=>rfl|some o=>rw[s.gs.sub q o z]at B;cases B
 have u:aB l (upd l q (.tup (j.map λt=>V.ty (oZ t)))):=aB.cz B;have ext:Ext f l f (upd l q (.tup (j.map λt=>V.ty (oZ t)))):=⟨u,.refl _,s.gs.sub.trans u,λ_ x y=>absurd x y⟩;refine⟨v,f,O,q,rfl,aO,s.gs.sub.trans u,W.mono (.refl _) (λa xs _ z=>u a _ z),k _ f _ (s.trans (ext.stp s.gs)) (show Rep X.K f _ _ from fu _)⟩
inductive Vu(K:PySem.W.Frag)(f:List D->Option R)(xs:List V)(H:Hp)(Q:VK):Prop where|mk(F:Hp)(ds:List D)(r:R)(sm:aB F H)(rs:az K F xs ds)(he:f ds=some r)(k:∀v F' H',Ext F H F' H'->bY K F' H' H v r->Q v H')
theorem Lw{E:Expr}{f:List D->Option R}{q:P}(l:∀{t},PA X es t->PE X E (MJ (Vu X.K f) t))(o:SA X c es ps)(u:∀ρ,HH.ev c q ρ=(evs c ps ρ).bind λds ρ=>lift (f ds) ρ)(y:isVar q=none):SX X c E q:=by refine⟨di (l o.1) ?_,λi h=>by rw[y]at h;cases h⟩;rintro σ H Q⟨F,ρ,r,z,g,e,k⟩;rw[u]at e;obtain⟨ds,ρ1,B,j⟩:=aa e;have C:=aJ j;clear j;obtain⟨j,G⟩:=C;subst G;exact⟨F,ρ,ds,ρ1,g,B,λN I O s J=>⟨I,ds,r,s.gs.sub,J,j,λw L H2 x M=>k w L H2 (s.trans (x.stp s.gs)) (.later s (M.nM s.gs))⟩⟩
theorem Kg{xs:List V}{i j:Int}(h:az K F xs [.int i,.int j]):xs=[.int i,.int j]:=by obtain⟨v,r,rfl,h1,g⟩:=h.bT;obtain⟨u,l,rfl,f,k⟩:=g.bT;rw[Rep]at h1 f;rw[h1,f,k.fC]
theorem inv2{f:Ov}{g:Int->Int->Int}{r:R}(h0:blt f []=none)(h1:∀a,blt f [a]=none)(o:∀a b c l,blt f (a::b::c::l)=none)(q:∀a b,cJ a=false->blt f [a,b]=none)(t:∀i b,cJ b=false->blt f [.int i,b]=none)(hi:∀i j,blt f [.int i,.int j]=some (.val (.int (g i j))))(he:blt f ds=some r):∃i j,ds=[.int i,.int j]/\r=.val (.int (g i j)):=by
 rcases ds with _|⟨a,_|⟨b,_|⟨c,l⟩⟩⟩;.rw[h0]at he;cases he
 .rw[h1]at he;cases he
 . by_cases h:cJ a=true
   . obtain⟨i,rfl⟩:∃i,a=.int i:=by cases a<;>first|exact⟨_,rfl⟩|cases h
     by_cases k:cJ b=true
     . obtain⟨j,rfl⟩:∃j,b=.int j:=by cases b<;>first|exact⟨_,rfl⟩|cases k
       rw[hi]at he;cases he;exact⟨i,j,rfl,rfl⟩
     .rw[t i b (by simpa using k)]at he;cases he
   .rw[q a b (by simpa using h)]at he;cases he
 .rw[o]at he;cases he
theorem Es(hc:X.calm=true):dm X (.builtin "max") (Vu X.K (blt .max2)):=by rintro f s σ H xs o Q I r⟨F,ds,u,q,t,he,k⟩;obtain⟨i,j,rfl,rfl⟩:=inv2 (g:=λi j=>if i<j then j else i) rfl (λa=>by cases a<;>rfl) (λa b c l=>by cases a<;>first|rfl|(cases b<;>rfl)) (λa b h=>by cases a<;>first|rfl|cases h) (λi b h=>by cases b<;>first|rfl|cases h) (λ_ _=>rfl) he;rw[Kg t]at r;exact uH hc f s σ H _ o Q I r ⟨_,_,rfl,bY.dw q (cX _) k⟩
theorem boot_max:bootBuiltins "max"=some (.builtin "max"):=by decide+kernel
theorem zB(f:x="max")(hc:X.calm=true)(g:Gl X x)(j:X.mg x=none)(k:SA X c [a,b] [pa,pb])(hs:starEach [a,b] X.env=(false,eval a X.env)::starEach [b] X.env:=by rfl)(hpl:(backTo pos (starEach [b] X.env)).any (·.1)=false:=by rfl):SX X c (.Call (.Name x p') [a,b] [] pos) (.blt .max2 [pa,pb]):=by subst f;exact Lw (λh=>dR (Es hc) g j boot_max h (he:=hs) (hpl:=hpl)) k (λρ=>rfl) rfl
end
section
variable{X:Cx}{c:Call}{n:Nat}{e a b d:Expr}{p pa pb pd:P}{pos:Pos}{es:List Expr}{ps:List P}
theorem Ba(g:GS K F ρ σ H)(h:M5 ρ i=some ds):∃a xs,σ[i]?=some (some (V.ref a))/\cR K H a xs:=by
 unfold M5 at h;split at h;.rename_i q;cases h;obtain⟨v,h1,f⟩:=g.pk q;obtain⟨a,xs,rfl,j,_⟩:=f.lst g.sub;exact⟨a,xs,h1,j⟩
 .cases h
theorem uq{k:Nat}{h f:Pos}(I:X.N[k]?=some x)(J:vG X.env.scope x)(hi:SX X c b pb)(he:SX X c e p)(L:∀ v,assign (.Subscript (.Name x h) b f) X.env v=(do
  let l<-holding [v] (eval (.Name x h) X.env)let u<-holding [v,l] (eval b X.env)standAt f
  holding [v,l,u] (setItem l u v)release [v,l,u] []):=by intro _;rfl)(hs:swapsWithSole [.Subscript (.Name x h) b f] e pos.line X.env=pure false:=by rfl)(M:swappedStores [.Subscript (.Name x h) b f] e X.env=pure none:=by rfl)(h1:(assignEach [.Subscript (.Name x h) b f] X.env).map (·.2)=[assign (.Subscript (.Name x h) b f) X.env]:=by rfl)(hd:(x==("__debug__":Str))=false:=by decide)(w:(x==("__classdict__":Str))=false:=by decide):SS X c n (.Assign [.Subscript (.Name x h) b f] e pos) (.yE k pb p):=by
 obtain⟨ti,y,z⟩:=hi.fU;refine jd (Er he.ev (Hn (gQ I J hd w) y set_list L) hs M h1) ?_;rintro D σ H⟨F,ρ,fl,O,g,e,Q⟩;rw[HH.X7]at e;obtain⟨r,ρ1,U,e⟩:=aa e;obtain⟨x0,C,t,e⟩:=aa e;have W:=aJ t;clear t;obtain⟨t,Y⟩:=W;subst Y;obtain⟨dk,Z,e2,e⟩:=aa e;refine⟨F,ρ,r,ρ1,g,U,λv F1 H1 s1 rr=>?_⟩;obtain⟨F2,s2,_,rp⟩:=s1.dI rr;obtain⟨o,ho,_⟩:=s2.gs.pk t;refine⟨o,ho,z s2.gs e2 λvi F3 H3 s3 pi=>?_⟩;split at e
 . rename_i bb ds B q;split at e;.rename_i j hj;cases e;obtain⟨ad,xs,E,q2,q3,G⟩:=s3.gs.nF k _ ds q rfl;rw[ho]at E;cases E;refine⟨ad,xs,B,j,rfl,pi.int,q2,by rw[G.length];exact hj,?_⟩;exact Q F3 σ _ ((s2.trans s3).trans (s3.gs.mut q ho (G.set (rp.mono s3.cA) j)))
   .cases e
 .cases e
theorem eY{k:Nat}{o h f:Pos}(E:X.N[k]?=some x)(G:vG X.env.scope x)(he:SX X c e p)(j:(h.endLine==f.line)=true:=by rfl)(hs:starEach [e] X.env=(false,eval e X.env)::starEach [] X.env:=by rfl)(l:attributeBase (.Name x o) "append" X.env (eval (.Name x o) X.env)=eval (.Name x o) X.env:=by rfl)(t:((backTo f (starEach [e] X.env)).all (λx=>!x.1)&&(backToKw f (keywordEach [] X.env)).all (λx=>x.1.isSome)&&decide ([e].length+([]:List Keyword).length+(if([]:List Keyword).isEmpty then 0 else 1)<30))=true:=by rfl)(w:swapsWith (.Call (.Attribute (.Name x o) "append" h) [e] [] f) none pos.line X.env=pure false:=by rfl)(hd:(x==("__debug__":Str))=false:=by decide)(y:(x==("__classdict__":Str))=false:=by decide):SS X c n (.Expr (.Call (.Attribute (.Name x o) "append" h) [e] [] f) pos) (.app k p):=by
 refine jd (jY (Nj plainAttrs_list PySem.F.slot_list_append PySem.F.type_list_append m9 (gQ E G hd y) (bR he.ev dU hs) l t j hs) w) ?_;rintro D σ H⟨F,ρ,fl,I,g,e,J⟩;rw[HH.X8]at e;obtain⟨d0,L,u,e⟩:=aa e;have M:=aJ u;clear u;obtain⟨u,O⟩:=M;subst O;obtain⟨r,ρ1,Q,e⟩:=aa e;obtain⟨a,xs,h1,U⟩:=Ba g u;refine⟨.ref a,h1,.inl ⟨rfl,xs,U⟩,F,ρ,r,ρ1,g,Q,λv F1 H1 s1 W=>?_⟩;obtain⟨Y,s2,_,Z⟩:=s1.dI W;split at e
 . rename_i bb ds q;split at e;.rename_i z;cases e;obtain⟨ad,ys,B,q2,q3,C⟩:=s2.gs.nF k _ ds q rfl;rw[h1]at B;cases B;exact⟨_,ys,v,rfl,rfl,q2,by rw[C.length];exact z,J Y σ _ (s2.trans (s2.gs.mut q h1 (C.append (.cons Z .nil))))⟩
   .cases e
 .cases e
theorem xn{bs:List Bool}(h:ds.mapM u6=some bs):ds=bs.map D.bl:=by induction ds generalizing bs with|nil=>simp at h;subst h;rfl|cons d ds f=>rw[List.mapM_cons]at h;cases hd:u6 d with|none=>rw[hd]at h;cases h|some k=>rw[hd]at h;cases hr:ds.mapM u6 with|none=>rw[hr]at h;cases h|some r=>rw[hr]at h;cases h;rw[map_cons,<-f hr,iW hd]
theorem tU{K:PySem.W.Frag}{F:Hp}:∀{bs:List Bool}{xs:List V},az K F xs (bs.map D.bl)->xs=bs.map V.bl|[],_,h=>h.fC|k::bs,_,h=>by obtain⟨v,r,rfl,h1,f⟩:=h.bT;rw[Rep]at h1;rw[h1,tU f];rfl
theorem uC:∀{bs:List Bool}{f:List Value},Vals (bs.map V.bl) f->f=bs.map Value.bool|[],_,h=>h.zero|k::bs,_,.cons r t=>by rw[map_cons,<-uC t,show _=_ from r]
theorem Ax{id:String}{f:List Bool->Bool}(hc:X.calm=true)(rule:∀{x:Value}{Q:Value->Shared->Prop}{s:Shared},wpAny (model X.prog X.w) X.A.in1 (pyIter x) (λG g=>∃ I J t n P St y,G=.ref I/\Walks X.prog X.w X.A.in1 I J t n P St/\St 0 g.heap/\TruthOf X.prog X.w X.A.in1 P y/\∀h' B,(∀b o,b∉t->g.heap.get? b=some o->h'.get? b=some o)->Q (.bool (f ((List.range n).map y))) {g with heap:=h',toks:=B}) X.xe s->wpAny (model X.prog X.w) X.A (call (.builtin id) [x]) Q X.xe s):dm X (.builtin id) (λxs H Q=>∃p ys bs,xs=[.ref p]/\cR X.K H p ys/\ys=bs.map V.bl/\Q (.bl (f bs)) H):=by
 rintro C s σ H xs us Q I r⟨p,ys,bs,L,M,N,k⟩;subst L;subst N;obtain⟨u,rfl,O⟩:=r.one;cases O;obtain⟨U,W,l,hz⟩:=I.list M;have h:=uC W;subst h;refine rule (wpAny_pyIter_list l.isList ?_);have q:p≠s.heap.objs.size:=by obtain⟨o,h1,_⟩:=l.isList;exact ne_of_lt (lt_size h1)
 refine⟨s.heap.objs.size,_,_,_,_,_,λi=>bs.getD i false,rfl,Walks.list (prog:=X.prog) (w:=X.w) (A:=X.A.in1) (show X.A.in1.handled=none from I.ok.hd hc) s.heap.objs.size p q (bs.map Value.bool).toArray,⟨⟨_,get?_push_size _ rfl,rfl,rfl⟩,?_⟩,?_,λh' B kp=>?_⟩;.obtain⟨o,h1,E⟩:=l.isList;exact⟨o,mq h1,E⟩
 . intro i v s' Q' E' j Y;have Z:v=.bool (bs.getD i false):=by
    have j:(bs.map Value.bool)[i]?=some v:=by simpa using j
    rw[getElem?_map]at j;obtain⟨k',e1,e2⟩:=map_some j;rw[<-e2,List.getD_eq_getElem?_getD,e1];rfl
   subst Z;exact wpAny_truthy_bool Y
 . have e:f ((List.range (bs.map Value.bool).toArray.size).map λi=>bs.getD i false)=f bs:=by
    congr 1;apply List.ext_getElem;.simp
    .intro i h1 E;simp at h1;simp[h1]
   rw[e];exact⟨.bl _,H,I.kept (λb o z=>kp b o (by simp;exact ne_of_lt (lt_size z)) (mq z)),rfl,k⟩
theorem KJ(hc:X.calm=true):dm X (.builtin "all") (Hm X.K λx=>blt .all [x]):=by rintro g s σ H xs t Q I r⟨x,u,F,d,w,j,y,he,k⟩;obtain⟨bs,B,he⟩:=map_some (show((qO d).bind λds=>ds.mapM u6).map _=some w from he);subst he;obtain⟨ds,l,C⟩:=iz B;have E:=xn C;cases d with|lst es=>cases l;obtain⟨p,ys,rfl,G,o⟩:=y.lst j;rw[E]at o;refine Ax (f:=λbs=>bs.all id) hc (λh=>call_all_walk (wpAny_mono h (λL q⟨I,fp,wr,n,P,Sx,tr,h1,h2,h3,h4,h5⟩=>⟨I,fp,wr,n,P,Sx,tr,h1,h2,h3,h4,λh' J kp=>?_⟩) λ_ _ z=>z)) g s σ H xs t Q I r ⟨p,ys,bs,u,G,tU o,bY.dw j (fu _) k⟩;have z:=h5 h' J kp;rw[List.all_map]at z;exact z|_=>cases l
theorem boot_all:bootBuiltins "all"=some (.builtin "all"):=by decide+kernel
theorem lJ(f:x="all")(hc:X.calm=true)(g:Gl X x)(j:X.mg x=none)(k:SX X c a pa)(hs:starEach [a] X.env=(false,eval a X.env)::starEach [] X.env:=by rfl):SX X c (.Call (.Name x p') [a] [] pos) (.blt .all [pa]):=by subst f;exact m8 (λh=>dR (KJ hc) g j boot_all h (he:=hs)) k (λρ=>rfl) rfl hs
end
section
variable{K:PySem.W.Frag}
theorem gJ:∀{xs ys:List D},xs.length≠ys.length->gk xs ys=false|[],[],h=>absurd rfl h|[],_::_,_=>by simp[iJ,gh,lF,kJ]|_::_,[],_=>by simp[iJ,gh,lF,kJ]|x::xs,y::ys,h=>by rw[gh,gJ (xs:=xs) (ys:=ys) (by simpa using h),Bool.and_false]
theorem dW:∀{xs ys:List D},xs.length=ys.length->gk xs ys=(List.range xs.length).all λj=>fY (xs.getD j .non) (ys.getD j .non)|[],[],_=>by rw[iJ];rfl|[],_::_,h=>by simp at h|_::_,[],h=>by simp at h|x::xs,y::ys,h=>by rw[gh,dW (xs:=xs) (ys:=ys) (by simpa using h),length_cons,List.range_succ_eq_map,all_cons,List.all_map];rfl
mutual
theorem qd:∀d:D,fY d d=true|.non=>rfl|.bl _=>by exact beq_self_eq_true _|.int _=>by exact beq_self_eq_true _|.str _=>by exact beq_self_eq_true _|.tup ds=>by exact iu ds|.lst ds=>by exact iu ds|.dC _=>by exact decide_eq_true rfl|.dv a ds=>by show(decide (a=a)&&gk ds ds)=true;rw[iu ds];simp
theorem iu:∀ds:List D,gk ds ds=true|[]=>by rw[iJ]|d::ds=>by rw[gh,qd d,iu ds];rfl
end
theorem du{d e:D}(b:flat d=true)(h1:Rep K F v d)(a:Rep K F v e):d=e:=by cases d with
 |tup _=>cases b|lst _=>cases b|dC _=>cases b|dv _ _=>cases b|non=>rw[Rep]at h1;subst h1;cases e with|non=>rfl|tup _=>rw[Rep]at a;obtain⟨_,_,q,_⟩:=a;cases q|lst _=>rw[Rep]at a;obtain⟨_,_,q,_⟩:=a;cases q|dC _=>rw[Rep]at a;obtain⟨_,_,q,_⟩:=a;cases q|dv _ _=>rw[Rep]at a;obtain⟨_,_,_,q,_⟩:=a;cases q|_=>rw[Rep]at a;cases a
 |bl k=>rw[Rep]at h1;subst h1;cases e with|bl _=>rw[Rep]at a;cases a;rfl|tup _=>rw[Rep]at a;obtain⟨_,_,q,_⟩:=a;cases q|lst _=>rw[Rep]at a;obtain⟨_,_,q,_⟩:=a;cases q|dC _=>rw[Rep]at a;obtain⟨_,_,q,_⟩:=a;cases q|dv _ _=>rw[Rep]at a;obtain⟨_,_,_,q,_⟩:=a;cases q|_=>rw[Rep]at a;cases a
 |int k=>rw[Rep]at h1;subst h1;cases e with|int _=>rw[Rep]at a;cases a;rfl|tup _=>rw[Rep]at a;obtain⟨_,_,q,_⟩:=a;cases q|lst _=>rw[Rep]at a;obtain⟨_,_,q,_⟩:=a;cases q|dC _=>rw[Rep]at a;obtain⟨_,_,q,_⟩:=a;cases q|dv _ _=>rw[Rep]at a;obtain⟨_,_,_,q,_⟩:=a;cases q|_=>rw[Rep]at a;cases a
 |str k=>rw[Rep]at h1;subst h1;cases e with|str _=>rw[Rep]at a;cases a;rfl|tup _=>rw[Rep]at a;obtain⟨_,_,q,_⟩:=a;cases q|lst _=>rw[Rep]at a;obtain⟨_,_,q,_⟩:=a;cases q|dC _=>rw[Rep]at a;obtain⟨_,_,q,_⟩:=a;cases q|dv _ _=>rw[Rep]at a;obtain⟨_,_,_,q,_⟩:=a;cases q|_=>rw[Rep]at a;cases a
theorem Ab{X:Cx}{B:List (Addr×Obj)}(I:L2.Inv X B σ H s)(l:aB F H):∀n:Nat,(∀d:D,eV n d=true->∀(v:V)(e:D),Rep X.K F v d->Rep X.K F v e->d=e):=by
 have W:∀{a:Addr}{xs ys:List V},fV X.K F a xs->cR X.K F a ys->False:=λ{a xs ys}h1 b=>by obtain⟨_,_,⟨o,p,t,_⟩,_⟩:=I.tuple (aB.gG l h1);obtain⟨_,_,C,_⟩:=I.list (l.seq b);obtain⟨L,g,j,_⟩:=C.isList;rw[p]at g;cases g;rw[t]at j;exact absurd j (by decide)
 have Y:∀{a:Addr}{f:Dc},Rep X.K F (.ref a) (.dC f)->∃o,s.heap.get? a=some o/\o.cls=.type "dict":=λ{a f}h=>by rw[Rep]at h;obtain⟨E,_,q,M⟩:=h;cases q;exact ym I (l _ _ M)
 have Z:∀{a:Addr}{xs:List V}{f:Dc},fV X.K F a xs->Rep X.K F (.ref a) (.dC f)->False:=λ{a xs f}h1 b=>by obtain⟨_,_,⟨o,p,t,_⟩,_⟩:=I.tuple (aB.gG l h1);obtain⟨L,g,j⟩:=Y b;rw[p]at g;cases g;rw[t]at j;exact absurd j (by decide)
 have ld:∀{a:Addr}{xs:List V}{f:Dc},cR X.K F a xs->Rep X.K F (.ref a) (.dC f)->False:=λ{a xs f}h1 b=>by obtain⟨_,_,C,_⟩:=I.list (l.seq h1);obtain⟨o,p,t,_⟩:=C.isList;obtain⟨L,g,j⟩:=Y b;rw[p]at g;cases g;rw[t]at j;exact absurd j (by decide)
 have G:∀{a:Addr}{w:List Int}{c:List D},Rep X.K F (.ref a) (.dv w c)->∃o,s.heap.get? a=some o/\o.cls=.type "dict":=λ{a w c}h=>by rw[Rep]at h;obtain⟨E,_,_,q,M,_⟩:=h;cases q;exact xR I (l _ _ M)
 have N:∀{a:Addr}{xs:List V}{w:List Int}{c:List D},fV X.K F a xs->Rep X.K F (.ref a) (.dv w c)->False:=λ{a xs w c}h1 b=>by obtain⟨_,_,⟨o,p,t,_⟩,_⟩:=I.tuple (aB.gG l h1);obtain⟨L,g,j⟩:=G b;rw[p]at g;cases g;rw[t]at j;exact absurd j (by decide)
 have O:∀{a:Addr}{xs:List V}{w:List Int}{c:List D},cR X.K F a xs->Rep X.K F (.ref a) (.dv w c)->False:=λ{a xs w c}h1 b=>by obtain⟨_,_,C,_⟩:=I.list (l.seq h1);obtain⟨o,p,t,_⟩:=C.isList;obtain⟨L,g,j⟩:=G b;rw[p]at g;cases g;rw[t]at j;exact absurd j (by decide)
 intro n;induction n with
 |zero=>intro d hd v e h1 b;cases d with|tup _=>simp[bf,aW,bz,bj,bw,bh]at hd|lst _=>simp[bf,aW,bz,bj,bw,bh]at hd|dC _=>simp[bf,aW,bz,bj,bw,bh]at hd|dv _ _=>simp[bf,aW,bz,bj,bw,bh]at hd|non=>exact du rfl h1 b|bl k=>exact du rfl h1 b|int k=>exact du rfl h1 b|str k=>exact du rfl h1 b
 |succ n ih=>
   have all:∀{xs:List V}{ds c:List D},ds.all (eV n)=true->az X.K F xs ds->az X.K F xs c->ds=c:=λ{xs ds}=>by induction ds generalizing xs with|nil=>intro c _ h1 b;rw[h1.fC]at b;have:=b.length;exact(List.eq_nil_of_length_eq_zero this.symm).symm|cons d ds Q=>intro c y h1 b;rw[all_cons,and_eq_true]at y;obtain⟨v,r,rfl,p,t⟩:=h1.bT;cases c with|nil=>cases b.fC|cons e c=>obtain⟨v',r',q0,g,j⟩:=b.bT;cases q0;rw[ih d y.1 v e p g,Q y.2 t j]
   intro d hd v e h1 b;cases d with
   |dC _=>simp[bf,aW,bz,bj,bw,bh]at hd|dv _ _=>simp[bf,aW,bz,bj,bw,bh]at hd|tup ds=>
     have y:ds.all (eV n)=true:=by simpa[bf,aW,bz,bj,bw,bh]using hd
     rw[Rep]at h1;obtain⟨a,xs,rfl,u,U⟩:=h1;cases e with|tup c=>rw[Rep]at b;obtain⟨E,ys,q,z,J⟩:=b;cases q;have:=I.jB (aB.gG l u) (aB.gG l z);subst this;rw[all y U J]|lst c=>rw[Rep]at b;obtain⟨E,ys,q,z,J⟩:=b;cases q;exact(W u z).elim|dC _=>exact(Z u b).elim|dv _ _=>exact(N u b).elim|_=>rw[Rep]at b;cases b
   |lst ds=>
     have y:ds.all (eV n)=true:=by simpa[bf,aW,bz,bj,bw,bh]using hd
     rw[Rep]at h1;obtain⟨a,xs,rfl,u,U⟩:=h1;cases e with|lst c=>rw[Rep]at b;obtain⟨E,ys,q,z,J⟩:=b;cases q;have:=I.km (l.seq u) (l.seq z);subst this;rw[all y U J]|tup c=>rw[Rep]at b;obtain⟨E,ys,q,z,J⟩:=b;cases q;exact(W z u).elim|dC _=>exact(ld u b).elim|dv _ _=>exact(O u b).elim|_=>rw[Rep]at b;cases b
   |non=>exact du rfl h1 b|bl k=>exact du rfl h1 b|int k=>exact du rfl h1 b|str k=>exact du rfl h1 b
theorem tZ{d e:D}{u:V}{c:Value}(hd:flat d=true)(he:flat e=true)(h1:Rep K F v d)(a:Rep K F u e)(f:RelV v c)(b:RelV u u'):SeqAt.EqAt A s c u' (fY d e):=by cases d with
 |tup _=>cases hd|lst _=>cases hd|dC _=>cases hd|dv _ _=>cases hd|non=>rw[Rep]at h1;subst h1;cases(show c=.none from f);cases e with|tup _=>cases he|lst _=>cases he|dC _=>cases he|dv _ _=>cases he|non=>rw[Rep]at a;subst a;cases(show u'=.none from b);exact SeqAt.EqAt.same _|bl _=>rw[Rep]at a;subst a;cases(show u'=.bool _ from b);exact SeqAt.EqAt.none_bool _|int _=>rw[Rep]at a;subst a;obtain⟨t,rfl⟩:=b;exact SeqAt.EqAt.none_int _ _|str _=>rw[Rep]at a;subst a;obtain⟨t,rfl⟩:=b;exact SeqAt.EqAt.none_str _ _
 |bl _=>rw[Rep]at h1;subst h1;cases(show c=.bool _ from f);cases e with|tup _=>cases he|lst _=>cases he|dC _=>cases he|dv _ _=>cases he|non=>rw[Rep]at a;subst a;cases(show u'=.none from b);exact SeqAt.EqAt.bool_none _|bl _=>rw[Rep]at a;subst a;cases(show u'=.bool _ from b);exact SeqAt.EqAt.bool_bool _ _|int _=>rw[Rep]at a;subst a;obtain⟨t,rfl⟩:=b;exact SeqAt.EqAt.bool_int _ _ _|str _=>rw[Rep]at a;subst a;obtain⟨t,rfl⟩:=b;exact SeqAt.EqAt.bool_str _ _ _
 |int _=>rw[Rep]at h1;subst h1;obtain⟨t0,rfl⟩:=f;cases e with|tup _=>cases he|lst _=>cases he|dC _=>cases he|dv _ _=>cases he|non=>rw[Rep]at a;subst a;cases(show u'=.none from b);exact SeqAt.EqAt.int_none _ _|bl _=>rw[Rep]at a;subst a;cases(show u'=.bool _ from b);exact SeqAt.EqAt.int_bool _ _ _|int _=>rw[Rep]at a;subst a;obtain⟨t,rfl⟩:=b;exact SeqAt.EqAt.int_int _ _ _ _|str _=>rw[Rep]at a;subst a;obtain⟨t,rfl⟩:=b;exact int_str _ _ _ _
 |str _=>rw[Rep]at h1;subst h1;obtain⟨t0,rfl⟩:=f;cases e with|tup _=>cases he|lst _=>cases he|dC _=>cases he|dv _ _=>cases he|non=>rw[Rep]at a;subst a;cases(show u'=.none from b);exact SeqAt.EqAt.str_none _ _|bl _=>rw[Rep]at a;subst a;cases(show u'=.bool _ from b);exact SeqAt.EqAt.str_bool _ _ _|int _=>rw[Rep]at a;subst a;obtain⟨t,rfl⟩:=b;exact str_int _ _ _ _|str _=>rw[Rep]at a;subst a;obtain⟨t,rfl⟩:=b;exact SeqAt.EqAt.str_str _ _ _ _
theorem iU{e:D}{u:V}{a:Addr}{h:Array Value}(b:s.heap.IsTuple a h)(c:A.units<cLine)(he:flat e=true)(f:Rep K F u e)(g:RelV u u'):SeqAt.EqAt A s (.ref a) u' (fY (.tup ds) e)/\SeqAt.EqAt A s u' (.ref a) (fY e (.tup ds)):=by cases e with|tup _=>cases he|lst _=>cases he|dC _=>cases he|dv _ _=>cases he|non=>rw[Rep]at f;subst f;cases(show u'=.none from g);exact⟨SeqAt.EqAt.tuple_none b c,SeqAt.EqAt.none_tuple b c⟩|bl _=>rw[Rep]at f;subst f;cases(show u'=.bool _ from g);exact⟨SeqAt.EqAt.tuple_bool _ b c,SeqAt.EqAt.bool_tuple _ b c⟩|int _=>rw[Rep]at f;subst f;obtain⟨t,rfl⟩:=g;exact⟨SeqAt.EqAt.tuple_int _ _ b c,SeqAt.EqAt.int_tuple _ _ b c⟩|str _=>rw[Rep]at f;subst f;obtain⟨t,rfl⟩:=g;exact⟨SeqAt.EqAt.tuple_str _ _ b c,SeqAt.EqAt.str_tuple _ _ b c⟩
theorem iY{e:D}{u:V}{a:Addr}{h:Array Value}(b:s.heap.IsList a h)(c:A.units<cLine)(he:flat e=true)(f:Rep K F u e)(g:RelV u u'):SeqAt.EqAt A s (.ref a) u' (fY (.lst ds) e)/\SeqAt.EqAt A s u' (.ref a) (fY e (.lst ds)):=by cases e with|tup _=>cases he|lst _=>cases he|dC _=>cases he|dv _ _=>cases he|non=>rw[Rep]at f;subst f;cases(show u'=.none from g);exact⟨SeqAt.EqAt.list_none b c,SeqAt.EqAt.none_list b c⟩|bl _=>rw[Rep]at f;subst f;cases(show u'=.bool _ from g);exact⟨SeqAt.EqAt.list_bool _ b c,SeqAt.EqAt.bool_list _ b c⟩|int _=>rw[Rep]at f;subst f;obtain⟨t,rfl⟩:=g;exact⟨SeqAt.EqAt.list_int _ _ b c,SeqAt.EqAt.int_list _ _ b c⟩|str _=>rw[Rep]at f;subst f;obtain⟨t,rfl⟩:=g;exact⟨SeqAt.EqAt.list_str _ _ b c,SeqAt.EqAt.str_list _ _ b c⟩
theorem o8{n:Nat}{d:D}(h:eV n d=true)(h0:n=0):flat d=true:=by subst h0;cases d<;>first|rfl|simp[bf,aW,bz,bj,bw,bh]at h
theorem RW{X:Cx}{U:List (Addr×Obj)}(I:L2.Inv X U σ H s)(C:aB F H):∀(n:Nat)(A:Around),A.units+n<cLine->∀(d e:D),eV n d=true->eV n e=true->∀(v u:V)(W u':Value),Rep X.K F v d->Rep X.K F u e->RelV v W->RelV u u'->SeqAt.EqAt A s W u' (fY d e):=by intro n;induction n with|zero=>intro A hu d e hd he v u W u' h1 g L h;exact tZ (o8 hd rfl) (o8 he rfl) h1 g L h|succ n ih=>
   intro A hu d e hd he v u W u' h1 g L h;have c:A.units<cLine:=by omega
   have ab:A.in1.units+n<cLine:=by show A.units+1+n<cLine;omega--items by place
   have Y:∀{xs ys:List V}{B o:List Value}{ds f:List D}{j:Nat}(M:j<B.toArray.size)(N:j<o.toArray.size),ds.all (eV n)=true->f.all (eV n)=true->Vals xs B->Vals ys o->az X.K F xs ds->az X.K F ys f->SeqAt.EqAt A.in1 s B.toArray[j] o.toArray[j] (fY (ds.getD j .non) (f.getD j .non)):=λ{xs ys B o ds f j}M N a1 a2 O p k l=>by
    have M:j<B.length:=by simpa using M
    have N:j<o.length:=by simpa using N
    have E:j<ds.length:=by rw[<-k.length,O.length];exact M
    have Q:j<f.length:=by rw[<-l.length,p.length];exact N
    obtain⟨x,g1,g2⟩:=k.get (show ds[j]?=some ds[j]by simp[E]);obtain⟨y,g3,g4⟩:=l.get (show f[j]?=some f[j]by simp[Q]);obtain⟨x',g5,g6⟩:=O.get g1;obtain⟨y',g7,g8⟩:=p.get g3;have e1:B.toArray[j]=x':=by have:=(gw g5).2;simpa using this
    have e2:o.toArray[j]=y':=by have:=(gw g7).2;simpa using this
    have e3:ds.getD j .non=ds[j]:=by simp[getD,E]
    have e4:f.getD j .non=f[j]:=by simp[getD,Q]
    rw[e1,e2,e3,e4];exact ih A.in1 ab _ _ (all_eq_true.mp a1 _ (getElem_mem E)) (all_eq_true.mp a2 _ (getElem_mem Q)) x y x' y' g2 g4 g6 g8--the same object
   have same:∀{a:Addr},v=.ref a->u=.ref a->SeqAt.EqAt A s W u' (fY d e):=λ{a}q1 q2=>by subst q1;subst q2;have:=Ab I C (n+1) d hd _ e h1 g;subst this;rw[qd];cases L;cases h;exact SeqAt.EqAt.same _
   cases d with
   |dC _=>simp[bf,aW,bz,bj,bw,bh]at hd|dv _ _=>simp[bf,aW,bz,bj,bw,bh]at hd|tup ds=>
     have ha:ds.all (eV n)=true:=by simpa[bf,aW,bz,bj,bw,bh]using hd
     have q:=h1;rw[Rep]at q;obtain⟨a,xs,rfl,z1,Z⟩:=q;cases L;obtain⟨B,O,k,_⟩:=I.tuple (aB.gG C z1)
     cases e with|dC _=>simp[bf,aW,bz,bj,bw,bh]at he|dv _ _=>simp[bf,aW,bz,bj,bw,bh]at he|tup f=>
       have hb:f.all (eV n)=true:=by simpa[bf,aW,bz,bj,bw,bh]using he
       have r:=g;rw[Rep]at r;obtain⟨b,ys,rfl,t,G⟩:=r;by_cases w:a=b;.subst w;exact same rfl rfl
       . cases h;obtain⟨o,p,l,_⟩:=I.tuple (aB.gG C t);refine .of_refs w ?_;have z:=SeqAt.RcAt.tuples (A:=A) (e:=λj=>fY (ds.getD j .non) (f.getD j .non)) k l c λj M N=>Y M N ha hb O p Z G;have E:B.toArray.size=ds.length:=by rw[size_toArray,<-O.length,Z.length]
         have Q:o.toArray.size=f.length:=by rw[size_toArray,<-p.length,G.length]
         rw[E,Q]at z;have e0:fY (.tup ds) (.tup f)=((List.range (min ds.length f.length)).all (λj=>fY (ds.getD j .non) (f.getD j .non))&&ds.length==f.length):=by
          rw[Vy];by_cases J:ds.length=f.length;.rw[dW J,J];simp
          . rw[gJ J];have:(ds.length==f.length)=false:=by simpa using J
            rw[this,Bool.and_false]
         rw[e0];exact z|lst f=>rw[Rep]at g;obtain⟨b,ys,rfl,t,G⟩:=g;cases h;obtain⟨o,p,l,_⟩:=I.list (C.seq t);exact SeqAt.EqAt.tuple_list k l.isList c|non=>exact(iU k c rfl g h).1|bl _=>exact(iU k c rfl g h).1|int _=>exact(iU k c rfl g h).1|str _=>exact(iU k c rfl g h).1
   |lst ds=>
     have ha:ds.all (eV n)=true:=by simpa[bf,aW,bz,bj,bw,bh]using hd
     have q:=h1;rw[Rep]at q
     obtain⟨a,xs,rfl,z1,Z⟩:=q;cases L;obtain⟨B,O,k,_⟩:=I.list (C.seq z1);cases e with|dC _=>simp[bf,aW,bz,bj,bw,bh]at he|dv _ _=>simp[bf,aW,bz,bj,bw,bh]at he|lst f=>
       have hb:f.all (eV n)=true:=by simpa[bf,aW,bz,bj,bw,bh]using he
       have r:=g;rw[Rep]at r;obtain⟨b,ys,rfl,t,G⟩:=r;by_cases w:a=b;.subst w;exact same rfl rfl
       . cases h;obtain⟨o,p,l,_⟩:=I.list (C.seq t);refine .of_refs w ?_;have E:B.toArray.size=ds.length:=by rw[size_toArray,<-O.length,Z.length]
         have Q:o.toArray.size=f.length:=by rw[size_toArray,<-p.length,G.length]
         rw[Qe];by_cases J:ds.length=f.length;.have z:=SeqAt.RcAt.lists (A:=A) (e:=λj=>fY (ds.getD j .non) (f.getD j .non)) k.isList l.isList (by rw[E,Q,J]) c λj M N=>Y M N ha hb O p Z G;rw[E]at z;rw[dW J];exact z
         .rw[gJ J];exact lists_lengths k.isList l.isList (by rw[E,Q];simpa using J) c|tup f=>rw[Rep]at g;obtain⟨b,ys,rfl,t,G⟩:=g;cases h;obtain⟨o,p,l,_⟩:=I.tuple (aB.gG C t);exact SeqAt.EqAt.list_tuple k.isList l c|non=>exact(iY k.isList c rfl g h).1|bl _=>exact(iY k.isList c rfl g h).1|int _=>exact(iY k.isList c rfl g h).1|str _=>exact(iY k.isList c rfl g h).1
   |non|bl _|int _|str _=>cases e with|dC _=>simp[bf,aW,bz,bj,bw,bh]at he|dv _ _=>simp[bf,aW,bz,bj,bw,bh]at he|tup f=>rw[Rep]at g;obtain⟨b,ys,rfl,t,G⟩:=g;cases h;obtain⟨o,p,l,_⟩:=I.tuple (aB.gG C t);exact(iU l c rfl h1 L).2|lst f=>rw[Rep]at g;obtain⟨b,ys,rfl,t,G⟩:=g;cases h;obtain⟨o,p,l,_⟩:=I.list (C.seq t);exact(iY l.isList c rfl h1 L).2|_=>exact tZ rfl rfl h1 g L h
end
section
variable{X:Cx}{pins:List (Addr×Obj)}{σ:L2.St}{H F:Hp}{s:Shared}{A:Around}
abbrev RC(A:Around)(s:Shared)(v u:Value)(k:Bool):Prop:=SeqAt.RcAt A s v u k/\SeqAt.RcNeAt A s v u (!k)
inductive Top(X:Cx)(F H:Hp)(s:Shared):Value->D->Prop where|non:Top X F H s .none .non|bl(b:Bool):Top X F H s (.bool b) (.bl b)|int(i:Int)(t:Tok):Top X F H s (.int i t) (.int i)|str(x:Str)(t:Tok):Top X F H s (.str x t) (.str x)|tup{a:Addr}{us:List Value}{xs:List V}{ds:List D}(ht:s.heap.IsTuple a us.toArray)(hv:Vals xs us)(hr:az X.K F xs ds):Top X F H s (.ref a) (.tup ds)|lst{a:Addr}{us:List Value}{xs:List V}{ds:List D}(ht:s.heap.IsList a us.toArray)(hv:Vals xs us)(hr:az X.K F xs ds):Top X F H s (.ref a) (.lst ds)
theorem oJ(I:L2.Inv X pins σ H s)(g:aB F H){j:Value}{d:D}(hd:eV 8 d=true)(h:cj X.K F H v d)(r:RelV v j):Top X F H s j d:=by cases d with|dC _=>simp[bf,aW,bz,bj,bw,bh]at hd|dv _ _=>simp[bf,aW,bz,bj,bw,bh]at hd|non=>rw[h.non]at r;cases r;exact .non|bl b=>rw[h.bl]at r;cases r;exact .bl b|int i=>rw[h.int]at r;obtain⟨t,rfl⟩:=r;exact .int i t|str x=>rw[h.str]at r;obtain⟨t,rfl⟩:=r;exact .str x t|tup ds=>obtain⟨a,xs,rfl,h1,c,_⟩:=h.tup g;cases r;obtain⟨k,e,f,_⟩:=I.tuple h1;exact .tup f e c|lst ds=>obtain⟨a,xs,rfl,h1,c⟩:=h.lst g;cases r;obtain⟨k,e,f,_⟩:=I.list h1;exact .lst f.isList e c
theorem M6(I:L2.Inv X pins σ H s)(sm:aB F H){n:Nat}(hu:A.units+(n+1)<cLine){d e:D}(hd:eV (n+1) d=true)(he:eV (n+1) e=true){O:Value}(h1:Top X F H s O d)(E:Top X F H s u' e):RC A s O u' (fY d e):=by
 have c:A.units<cLine:=by omega
 have N:A.in1.units+n<cLine:=by show A.units+1+n<cLine;omega
 have B:∀{xs ys:List V}{u w:List Value}{ds g:List D}{j:Nat}(o:j<u.toArray.size)(p:j<w.toArray.size),ds.all (eV n)=true->g.all (eV n)=true->Vals xs u->Vals ys w->az X.K F xs ds->az X.K F ys g->SeqAt.EqAt A.in1 s u.toArray[j] w.toArray[j] (fY (ds.getD j .non) (g.getD j .non)):=λ{xs ys u w ds g j}o p a1 a2 Q U W Y=>by
  have o:j<u.length:=by simpa using o
  have p:j<w.length:=by simpa using p
  have q:j<ds.length:=by rw[<-W.length,Q.length];exact o
  have z:j<g.length:=by rw[<-Y.length,U.length];exact p
  obtain⟨x,g1,g2⟩:=W.get (show ds[j]?=some ds[j]by simp[q]);obtain⟨y,g3,g4⟩:=Y.get (show g[j]?=some g[j]by simp[z]);obtain⟨Z,g5,g6⟩:=Q.get g1;obtain⟨y',g7,g8⟩:=U.get g3;have e1:u.toArray[j]=Z:=by have:=(gw g5).2;simpa using this
  have e2:w.toArray[j]=y':=by have:=(gw g7).2;simpa using this
  have e3:ds.getD j .non=ds[j]:=by simp[getD,q]
  have e4:g.getD j .non=g[j]:=by simp[getD,z]
  rw[e1,e2,e3,e4];exact RW I sm n A.in1 N _ _ (all_eq_true.mp a1 _ (getElem_mem q)) (all_eq_true.mp a2 _ (getElem_mem z)) x y Z y' g2 g4 g6 g8
 cases h1 with
 |non=>cases E with|non=>exact⟨SeqAt.RcAt.none_none,SeqAt.RcNeAt.none_none⟩|bl b=>exact⟨SeqAt.RcAt.none_bool _,SeqAt.RcNeAt.none_bool _⟩|int i t=>exact⟨SeqAt.RcAt.none_int _ _,none_int _ _⟩|str i t=>exact⟨SeqAt.RcAt.none_str _ _,none_str _ _⟩|tup f _ _=>exact⟨SeqAt.RcAt.none_tuple f c,SeqAt.RcNeAt.none_tuple f c⟩|lst f _ _=>exact⟨SeqAt.RcAt.none_list f c,SeqAt.RcNeAt.none_list f c⟩
 |bl b0=>cases E with|non=>exact⟨SeqAt.RcAt.bool_none _,SeqAt.RcNeAt.bool_none _⟩|bl b=>exact⟨SeqAt.RcAt.bool_bool _ _,SeqAt.RcNeAt.bool_bool _ _⟩|int i t=>exact⟨SeqAt.RcAt.bool_int _ _ _,bool_int _ _ _⟩|str i t=>exact⟨SeqAt.RcAt.bool_str _ _ _,bool_str _ _ _⟩|tup f _ _=>exact⟨SeqAt.RcAt.bool_tuple _ f c,SeqAt.RcNeAt.bool_tuple _ f c⟩|lst f _ _=>exact⟨SeqAt.RcAt.bool_list _ f c,SeqAt.RcNeAt.bool_list _ f c⟩
 |int i0 t0=>cases E with|non=>exact⟨SeqAt.RcAt.int_none _ _,int_none _ _⟩|bl b=>exact⟨SeqAt.RcAt.int_bool _ _ _,int_bool _ _ _⟩|int i t=>exact⟨SeqAt.RcAt.int_int _ _ _ _,int_int _ _ _ _⟩|str i t=>exact⟨SeqAt.RcAt.int_str _ _ _ _,SeqAt.RcNeAt.int_str _ _ _ _⟩|tup f _ _=>exact⟨SeqAt.RcAt.int_tuple _ _ f c,SeqAt.RcNeAt.int_tuple _ _ f c⟩|lst f _ _=>exact⟨SeqAt.RcAt.int_list _ _ f c,int_list _ _ f c⟩
 |str i0 t0=>cases E with|non=>exact⟨SeqAt.RcAt.str_none _ _,str_none _ _⟩|bl b=>exact⟨SeqAt.RcAt.str_bool _ _ _,str_bool _ _ _⟩|int i t=>exact⟨SeqAt.RcAt.str_int _ _ _ _,SeqAt.RcNeAt.str_int _ _ _ _⟩|str i t=>exact⟨SeqAt.RcAt.str_str _ _ _ _,str_str _ _ _ _⟩|tup f _ _=>exact⟨SeqAt.RcAt.str_tuple _ _ f c,SeqAt.RcNeAt.str_tuple _ _ f c⟩|lst f _ _=>exact⟨SeqAt.RcAt.str_list _ _ f c,str_list _ _ f c⟩
 |@tup a u xs ds f C hr=>
   have G:ds.all (eV n)=true:=by simpa[bf,aW,bz,bj,bw,bh]using hd
   cases E with|non=>exact⟨SeqAt.RcAt.tuple_none f c,SeqAt.RcNeAt.tuple_none f c⟩|bl b=>exact⟨SeqAt.RcAt.tuple_bool _ f c,SeqAt.RcNeAt.tuple_bool _ f c⟩|int i t=>exact⟨SeqAt.RcAt.tuple_int _ _ f c,SeqAt.RcNeAt.tuple_int _ _ f c⟩|str i t=>exact⟨SeqAt.RcAt.tuple_str _ _ f c,SeqAt.RcNeAt.tuple_str _ _ f c⟩|lst l _ _=>exact⟨SeqAt.RcAt.tuple_list f l c,SeqAt.RcNeAt.tuple_list f l c⟩|@tup b w ys g l h k=>
     have J:g.all (eV n)=true:=by simpa[bf,aW,bz,bj,bw,bh]using he
     have q:u.toArray.size=ds.length:=by rw[size_toArray,<-C.length,hr.length]
     have z:w.toArray.size=g.length:=by rw[size_toArray,<-h.length,k.length]
     have L:=SeqAt.RcAt.tuples (A:=A) (e:=λj=>fY (ds.getD j .non) (g.getD j .non)) f l c λj o p=>B o p G J C h hr k;have M:=SeqAt.RcNeAt.tuples (A:=A) (e:=λj=>fY (ds.getD j .non) (g.getD j .non)) f l c λj o p=>B o p G J C h hr k;rw[q,z]at L M;have e0:fY (.tup ds) (.tup g)=((List.range (min ds.length g.length)).all (λj=>fY (ds.getD j .non) (g.getD j .non))&&ds.length==g.length):=by
      rw[Vy];by_cases r:ds.length=g.length;.rw[dW r,r];simp
      . rw[gJ r];have:(ds.length==g.length)=false:=by simpa using r
        rw[this,Bool.and_false]
     rw[e0];exact⟨L,M⟩
 |@lst a u xs ds f C hr=>
   have G:ds.all (eV n)=true:=by simpa[bf,aW,bz,bj,bw,bh]using hd
   cases E with|non=>exact⟨SeqAt.RcAt.list_none f c,SeqAt.RcNeAt.list_none f c⟩|bl b=>exact⟨SeqAt.RcAt.list_bool _ f c,SeqAt.RcNeAt.list_bool _ f c⟩|int i t=>exact⟨SeqAt.RcAt.list_int _ _ f c,list_int _ _ f c⟩|str i t=>exact⟨SeqAt.RcAt.list_str _ _ f c,list_str _ _ f c⟩|tup l _ _=>exact⟨SeqAt.RcAt.list_tuple f l c,SeqAt.RcNeAt.list_tuple f l c⟩|@lst b w ys g l h k=>
     have J:g.all (eV n)=true:=by simpa[bf,aW,bz,bj,bw,bh]using he
     have q:u.toArray.size=ds.length:=by rw[size_toArray,<-C.length,hr.length]
     have z:w.toArray.size=g.length:=by rw[size_toArray,<-h.length,k.length]
     rw[Qe];by_cases r:ds.length=g.length;.have L:=SeqAt.RcAt.lists (A:=A) (e:=λj=>fY (ds.getD j .non) (g.getD j .non)) f l (by rw[q,z,r]) c λj o p=>B o p G J C h hr k;have M:=SeqAt.RcNeAt.lists (A:=A) (e:=λj=>fY (ds.getD j .non) (g.getD j .non)) f l (by rw[q,z,r]) c λj o p=>B o p G J C h hr k;rw[q]at L M;rw[dW r];exact⟨L,M⟩
     .rw[gJ r];exact⟨lists_lengths f l (by rw[q,z];simpa using r) c,SeqAt.RcNeAt.lists_lengths f l (by rw[q,z];simpa using r) c⟩
theorem ju(c:X.A.units+8<cLine):fB X (compareOp .Eq) (rD X.K (mC .eq)):=by rintro pins s σ H x y v u Q I f g⟨F,d,e,r,a,h,j,he,k⟩;obtain⟨t,b,l⟩:=map_some (show(v7 d e).map _=some r from he);subst l;unfold v7 at b;obtain⟨hd,b⟩:=bU b;rw[and_eq_true]at hd;subst b;exact(M6 I a (n:=7) c hd.1 hd.2 (oJ I a hd.1 h f) (oJ I a hd.2 j g)).1 _ _ _ _ ⟨.bl _,H,I,rfl,bY.dw a (fu _) k⟩
theorem n6(c:X.A.units+8<cLine):fB X (compareOp .NotEq) (rD X.K (mC .ne)):=by rintro pins s σ H x y v u Q I f g⟨F,d,e,r,a,h,j,he,k⟩;obtain⟨t,b,l⟩:=map_some (show(vL d e).map _=some r from he);subst l;unfold vL at b;obtain⟨hd,b⟩:=bU b;rw[and_eq_true]at hd;subst b;exact(M6 I a (n:=7) c hd.1 hd.2 (oJ I a hd.1 h f) (oJ I a hd.2 j g)).2 _ _ _ _ ⟨.bl _,H,I,rfl,bY.dw a (fu _) k⟩
end
section
variable{Pg:Program}{w:World}{K:PySem.W.Frag}{mg:Str->Option Value}{base:Heap}
theorem Ln{qual:Str}{st:Stmt}{f:Addr}{fd:FuncData}{N ps:List Str}{k n:Nat}{c:Call}{d:Fd}(G:iw K x qual st f fd)(S:aL N ps (ao st))(h1:d.np=ps.length)(u:d.nn=N.length)(I:∀(cdv:Value)(A:Around)(outer:List Env)(s:Shared)(H:Hp)(E:XK),fZ k (A.deeper (envOfC qual (ao st) s.heap.objs.size f cdv))->SB (qi qD Pg w K mg base N qual (ao st) f cdv A outer s H E).J6 c n (cZ st) d.body):gP Pg w K mg base qD (k+1) f fd ps (yV K ps.length (λargs=>enter c n d args)):=by
 refine G.ok S (λp H Q E h=>h.1) λcdv A outer s H p Q E hr h=>?_;obtain⟨y,F,args,r,o,g,e,q⟩:=h;refine⟨_,I cdv A outer s H E hr,?_⟩;replace e:enter c n d args=.ok r o:=e;unfold enter at e;split at e
 . rename_i hc;obtain⟨c1,c2⟩:=hc;have J:=g.more (n:=d.nn-d.np) (τ:=replicate (N.length-p.length) none) (by simp[h1,u,y]);have t:args.length=d.np:=c1;have go:∀{fl:Fl}{a:List Sl},fj c n d.body (args++replicate (d.nn-d.np) .aC)=.ok fl a->(∀l b j,aZ K F (args++replicate (d.nn-d.np) .aC) (start N p) H l a b j->(match fl with|.next=>Q .non j|.brk=>False|.cont=>False|.ret r=>∀v,bO K l a b j (args++replicate (d.nn-d.np) .aC) (start N p) H v r->Q v j))->JK K (fj c n d.body) {nx:=λ_ j=>Q .non j,rt:=Q} (start N p) H:=λ{fl a}z k=>⟨F,_,fl,a,J,z,λl b j s=>by have:=k l b j s;cases fl<;>exact this⟩;split at e;.rename_i a z;cases e;refine go z λl b j s=>?_;obtain⟨B,C⟩:=aZ.less (m:=d.np) t.symm g (by simp[h1,u,y]) s;exact q .non l _ j B (show Rep K l _ _ from Hd)
   .rename_i M a z;cases e;refine go z λl b j s v L=>?_;obtain⟨B,C⟩:=aZ.less (m:=d.np) t.symm g (by simp[h1,u,y]) s;exact q v l _ j B (C v r L)
   .split at e<;>cases e
 .cases e
structure bC(Pg:Program)(w:World)(K:PySem.W.Frag)(mg:Str->Option Value)(base:Heap)(k:Nat)(c:Call)(i:Nat)(x:Str)(np:Nat):Prop where ex:∃fa fd qs,gP Pg w K mg base qD k fa fd qs (yV K qs.length (c i))/\mg x=some (.ref fa)/\keepIn K (.ref fa)=true/\Binds K fd qs []/\qs.length=np
end
section
variable{X:Cx}{c:Call}{n k:Nat}{e a b:Expr}{es:List Expr}{p pa pb:P}{ps:List P}{pos:Pos}
theorem sv(i:Nat)(g:X.N[i]?=some x:=by rfl)(h:vG X.env.scope x:=by first|exact Or.inl rfl|exact Or.inr (Or.inl rfl)|exact Or.inr (Or.inr rfl))(hd:(x==("__debug__":Str))=false:=by rfl)(f:(x==("__classdict__":Str))=false:=by rfl):SX X c (.Name x pos) (.var i):=Ek g h hd f
theorem dg{np:Nat}(C:bC X.prog X.w X.K X.mg X.base k c i x np)(hr:fZ k X.A)(h:SG X c (e::es) ps)(j:Gl X x:=by rfl)(l:(e::es).length=np:=by rfl)(f:(x==("__debug__":Str))=false:=by rfl)(he:starEach (e::es) X.env=(false,eval e X.env)::starEach es X.env:=by rfl)(hpl:(backTo pos (starEach es X.env)).any (·.1)=false:=by rfl)(g:ps.length=(e::es).length:=by rfl):SX X c (.Call (.Name x p') (e::es) [] pos) (.call i ps):=by obtain⟨u,fd,y,h1,o,q,r,t⟩:=C.ex;exact Bm h1 hr j o q r h (l.trans t.symm) f he hpl g
noncomputable def CN(names outer:List (Str×NameKind))(N N':List Str)(n:Nat):Bool:=(names.all λy=>names.lookup y.1==some y.2)&&(names.all λy=>y.2!=.local||names.lookup y.1==some .local)&&(names.all λy=>y.2!=.free||outer.lookup y.1==some .cell||outer.lookup y.1==some .free)&&N'.length==N.length+n&&((N.zip N').all λp=>(p.1==p.2&&names.lookup p.2==some .free)||(names.lookup p.2!=some .local&&names.lookup p.2!=some .cell&&names.lookup p.2!=some .free))
theorem qF{scope:Scope}{N':List Str}(g:scope.kind=.function)(h:CN scope.names X.env.scope.names X.N N' n=true):eG X scope N' n:=by
 unfold CN at h;simp only[and_eq_true]at h;obtain⟨⟨⟨⟨h1,j⟩,l⟩,o⟩,q⟩:=h;refine⟨g,λy f=>eq_of_beq (all_eq_true.mp h1 y f),λy f e=>?_,λy f e=>?_,by simpa using o,q⟩;.have:=all_eq_true.mp j y f;rw[e]at this;simpa using this
 . have:=all_eq_true.mp l y f;rw[e]at this;simp only[or_eq_true]at this;rcases this with(z|z)|z;.cases z
   .exact .inl (eq_of_beq z)
   .exact .inr (eq_of_beq z)
theorem fM(h:fZ k A):A.units+8<cLine:=by have:=h.un;omega
end
end HH
end
section
namespace PySem
open AutoSeq1(wpAny_loadPart')
section
variable{prog:Program}{w:World}{A:Around}{E:Value->Shared->Prop}{s:Shared}
theorem ji{b l:Addr}{i:Nat}{items:Array Value}{x:Value}{Q:Value->Shared->Prop}(a:s.heap.IsTupleIter b l i)(f:s.heap.IsTuple l items)(g:items[i]?=some x)(h:∀h',h'.IsTupleIter b l (i+1)->SameBut b s.heap h'->Q x {s with heap:=h'}):wpAny (model prog w) A (nextOf (.ref b)) Q E s:=by obtain⟨o,ho,hc,hd⟩:=id a;obtain⟨j,c,_,k,e⟩:=f;unfold nextOf;refine wpAny_bind (wpAny_callSpecial?_slot (name:=Str.ofString "__next__") a.typeIs F.slot_tuple_iterator_next (wpAny_call_entry F.slot_tuple_iterator_next a.typeIs F.entry_tuple_iterator_next ?_ (F.args_tuple_iterator_next_1 _)));show wpAny _ _ (field (.ref b) 0>>=_) _ _ s;refine wpAny_bind (wpAny_field ho hd (x:=.ref l) rfl ?_);show wpAny _ _ (if(Value.ref l==Value.none)=true then _ else _) _ _ s;rw[if_neg (show ¬((Value.ref l==Value.none)=true)from Bool.false_ne_true)];show wpAny _ _ (field (.ref b) 1>>=_) _ _ s;refine wpAny_bind (wpAny_field ho hd (x:=.int i 0) rfl ?_);show wpAny _ _ (seqItems? (.ref l)>>=_) _ _ s;refine wpAny_bind (wpAny_seqItems c e ?_);simp only[Int.toNat_natCast,g];refine wpAny_bind (wpAny_setField ho hd (by simp) (wpAny_pure ⟨x,rfl,wpAny_pure (h _ ?_ (Heap.SameBut.update ..))⟩));exact⟨_,Heap.get?_update_self _ ho (Obj.isFreed_of_fields (Obj.data_mapFields hd _)),(Obj.cls_mapFields ..).trans hc,by rw[Obj.data_mapFields hd];simp[rawInt]⟩
theorem jy{c l:Addr}{i:Nat}{items:Array Value}{Q:Value->Shared->Prop}(h:A.handled=none)(b:s.heap.IsTupleIter c l i)(j:s.heap.IsTuple l items)(k:items[i]?=none)(n:∀h' e,Heap.ExtBut c s.heap h'->(∃o,h'.get? e=some o/\o.cls=.type "StopIteration")->E (.ref e) {s with heap:=h'}):wpAny (model prog w) A (nextOf (.ref c)) Q E s:=by
 obtain⟨o,ho,hc,hd⟩:=id b;obtain⟨p,f,_,q,g⟩:=j;unfold nextOf;refine wpAny_bind (wpAny_callSpecial?_slot (name:=Str.ofString "__next__") b.typeIs F.slot_tuple_iterator_next (wpAny_call_entry F.slot_tuple_iterator_next b.typeIs F.entry_tuple_iterator_next ?_ (F.args_tuple_iterator_next_1 _)));show wpAny _ _ (field (.ref c) 0>>=_) _ _ s;refine wpAny_bind (wpAny_field ho hd (x:=.ref l) rfl ?_);show wpAny _ _ (if(Value.ref l==Value.none)=true then _ else _) _ _ s;rw[if_neg (show ¬((Value.ref l==Value.none)=true)from Bool.false_ne_true)];show wpAny _ _ (field (.ref c) 1>>=_) _ _ s;refine wpAny_bind (wpAny_field ho hd (x:=.int i 0) rfl ?_);show wpAny _ _ (seqItems? (.ref l)>>=_) _ _ s;refine wpAny_bind (wpAny_seqItems f g ?_);simp only[Int.toNat_natCast,k];refine wpAny_bind (wpAny_rule (wpAny_bind (wpAny_setField ho hd (by simp) ?_)));show wpAny _ _ (newExc (.type "StopIteration") []>>=_) _ _ _;refine wpAny_bind ?_;simp only[newExc,newTuple];refine wpAny_bind (wpAny_newObj_type ?_ (by size_fits));refine wpAny_bind (m:=firstArgMember _ _) (wpAny_of_eq (a:=Value.none) (by first|rfl|(simp only[firstArgMember];rfl)) ?_);refine wpAny_newObj_type ?_ (by size_fits);simp only[raiseNew];refine wpAny_bind (wpAny_handled ?_);first|rw[show A.in1.handled=none from h]|rw[h]
 refine wpAny_bind (wpAny_pure (wpAny_throw ?_));exact n _ _ (((Heap.SameBut.update ..).extBut.push _).push _) ⟨_,get?_push_size _ rfl,rfl⟩
end
end PySem
end
section
namespace L2
open PySem PySem.Spec PyProof.Rows
variable{t:Bool}{a:Addr}
section
variable{X:Cx}{pins:List (Addr×Obj)}{σ:L2.St}{H:Hp}{s:Shared}
theorem Inv.G3{ch:List Addr}{h':Heap}{o:HO}{t':Nat}(I:Inv X pins σ H s)(k:∀b u,b∉ch->s.heap.get? b=some u->h'.get? b=some u)(l:∀b∈ch,∃u,h'.get? b=some u)(h:∀b∈ch,jz X pins H b)(new:cG X.prog X.w (upd H s.heap.objs.size o) h' s.heap.objs.size o):Inv X pins σ (upd H s.heap.objs.size o) {s with heap:=h',toks:=t'}:=by
 have fr:H s.heap.objs.size=none:=I.hok.fresh (dH);have j:∀b u,H b=some u->b∉ch:=λb u e f=>by rw[(h b f).1]at e;cases e
 have i:∀b u,H b=some u->upd H s.heap.objs.size o b=some u:=λb u e=>by
  have:b≠s.heap.objs.size:=by rintro rfl;rw[fr]at e;cases e
  rw[aD this];exact e
 refine I.call (g':=s.gens) (d':=s.drawn) (ch:=ch) ⟨λb u e n _ g=>k b u g e,λb u e n _ g=>⟨u.slots,k b u g e⟩,λb u e n g=>?_,λb u e g=>⟨u,k b u g e⟩,λb xs e=>i b _ e,λb m u e=>i b _ e,λb ps e=>⟨#[],by rw[i b _ e];simp⟩⟩ ?_ I.bare λb f=>⟨(h b f).2.2.2.1,(h b f).2.1,(h b f).2.2.2.2.1,(h b f).2.2.2.2.2⟩;.have:b≠s.heap.objs.size:=ne_of_lt (lt_size e);rw[aD this];exact n
 . intro b u e;by_cases f:b=s.heap.objs.size;.subst f;rw[aO]at e;cases e;exact new
   . rw[aD f]at e;refine(I.hok b u e).stay (λc v hc q=>k c v ?_ q) (λc q=>i c _ q) λc xs q=>i c _ q;rcases hc with rfl|hc;.exact j _ _ e
     .exact j _ _ hc
end
def Sq(t:Bool)(K:PySem.W.Frag)(H:Hp)(a:Addr)(xs:List V):Prop:=if t then fV K H a xs else cR K H a xs
def uB(t:Bool)(h:Heap)(a:Addr)(xs:Array Value):Prop:=if t then h.IsTuple a xs else h.IsList a xs
def eE(t:Bool)(h:Heap)(i a:Addr)(k:Nat):Prop:=if t then h.IsTupleIter i a k else h.IsListIter i a k
section
variable{X:Cx}{pins:List (Addr×Obj)}{σ:L2.St}{H:Hp}{s:Shared}
theorem Inv.sq{xs:List V}(I:Inv X pins σ H s)(h:Sq t X.K H a xs):∃b:List Value,Vals xs b/\uB t s.heap a b.toArray:=by cases t with|true=>obtain⟨b,c,e,_⟩:=I.tuple h;exact⟨b,c,e⟩|false=>obtain⟨b,c,e,_⟩:=I.list h;exact⟨b,c,e.isList⟩
theorem Inv.xx{xs ys:List V}(I:Inv X pins σ H s)(h:Sq t X.K H a xs)(h':Sq t X.K H a ys):xs=ys:=by cases t with|true=>exact I.jB h h'|false=>exact I.km h h'
theorem uB.lt{h:Heap}{xs:Array Value}(q:uB t h a xs):a<h.objs.size:=by cases t with|true=>obtain⟨o,e,_⟩:=id q;exact lt_size e|false=>obtain⟨o,e,_⟩:=id q;exact lt_size e
theorem eE.obj{h:Heap}{i:Addr}{k:Nat}(q:eE t h i a k):∃o,h.get? i=some o/\∀v,o.data≠.cell v:=by cases t with|true=>obtain⟨o,b,e,c⟩:=id q;exact⟨o,b,λv z=>by rw[c]at z;cases z⟩|false=>obtain⟨o,b,e,c⟩:=id q;exact⟨o,b,λv z=>by rw[c]at z;cases z⟩
theorem eE.keep{h h':Heap}{i:Addr}{k:Nat}(q:eE t h i a k)(e:∀o,h.get? i=some o->h'.get? i=some o):eE t h' i a k:=by cases t with|true=>obtain⟨o,b,r⟩:=id q;exact⟨o,e o b,r⟩|false=>obtain⟨o,b,r⟩:=id q;exact⟨o,e o b,r⟩
end
end L2
namespace HH
open PySem L2 PySem.Spec PyProof.Rows
section
variable{K:PySem.W.Frag}{F F1 H H1:Hp}{ρ ρ1:List Sl}{σ:L2.St}{ds:List D}{a:Addr}
theorem vP{c e:Hp}{T:Addr}{v w:V}{d1 d2:D}(g:aB c e)(h:e T=none)(i:Rep K c v d1)(j:Rep K c w d2):∃b,Ext c e b (upd e T (.tup [v,w]))/\Rep K b (.ref T) (.tup [d1,d2]):=uY (Q:=λv f=>∃b,Ext c e b f/\Rep K b v (.tup [d1,d2])) g (.cons i (.cons j .nil)) h λv b f x k=>⟨b,x,k⟩
end
end HH
end
section
namespace PySem
structure Nx(prog:Program)(w:World)(A:Around)(it src:Addr)(Sx:Nat->Heap->Prop)(get:Nat->Option Value):Prop where
 obj:∀k h,Sx k h->∃o,h.get? it=some o/\∀v,o.data≠.cell v
 keep:∀k h h',Sx k h->(∀o,h.get? it=some o->h'.get? it=some o)->(∀o,h.get? src=some o->h'.get? src=some o)->Sx k h'
 item:∀k(s:Shared)(Q:Value->Shared->Prop)(E:Value->Shared->Prop)x,Sx k s.heap->get k=some x->(∀h',Sx (k+1) h'->SameBut it s.heap h'->Q x {s with heap:=h'})->wpAny (model prog w) A (nextOf (.ref it)) Q E s
 fin:∀k(s:Shared)(Q:Value->Shared->Prop)(E:Value->Shared->Prop),Sx k s.heap->get k=none->(∀h' e,Heap.ExtBut it s.heap h'->(∃o,h'.get? e=some o/\o.cls=.type "StopIteration")->E (.ref e) {s with heap:=h'})->wpAny (model prog w) A (nextOf (.ref it)) Q E s
section
variable{prog:Program}{w:World}{A:Around}{E:Value->Shared->Prop}{s:Shared}
theorem Nx.list(i:A.handled=none)(c l:Addr)(e:l≠c)(items:Array Value):Nx prog w A c l (λk h=>h.IsListIter c l k/\h.IsList l items) (λk=>items[k]?)where obj:=λk h st=>let⟨o,h1,_,h3⟩:=st.1;⟨o,h1,λv z=>by rw[h3]at z;cases z⟩;keep:=λk h h' st a b=>⟨(let⟨o,ho,r⟩:=st.1;⟨o,a o ho,r⟩),(let⟨o,ho,r⟩:=st.2;⟨o,b o ho,r⟩)⟩;item:=λk s Q E x st f j=>wpAny_nextOf_list_item st.1 st.2 f λh' g hs=>j h' ⟨g,(let⟨o,ho,r⟩:=st.2;⟨o,hs.extBut l o e ho,r⟩)⟩ hs;fin:=λk s Q E st f m=>wpAny_nextOf_list_end i st.1 st.2 f m
theorem Nx.tuple(i:A.handled=none)(c l:Addr)(e:l≠c)(items:Array Value):Nx prog w A c l (λk h=>h.IsTupleIter c l k/\h.IsTuple l items) (λk=>items[k]?)where obj:=λk h st=>let⟨o,h1,_,h3⟩:=st.1;⟨o,h1,λv z=>by rw[h3]at z;cases z⟩;keep:=λk h h' st a b=>⟨(let⟨o,ho,r⟩:=st.1;⟨o,a o ho,r⟩),(let⟨o,ho,r⟩:=st.2;⟨o,b o ho,r⟩)⟩;item:=λk s Q E x st f j=>ji st.1 st.2 f λh' g hs=>j h' ⟨g,(let⟨o,ho,r⟩:=st.2;⟨o,hs.extBut l o e ho,r⟩)⟩ hs;fin:=λk s Q E st f m=>jy i st.1 st.2 f m
variable{z TI TO i1 i2 l1 l2:Addr}{k:Nat}{S1 S2:Nat->Heap->Prop}{g1 g2:Nat->Option Value}{a b:Value}
theorem u9{x y:Value}{Q:Value->Shared->Prop}(D:ZipApart z TI TO i1 i2 l1 l2)(r:Nx prog w A i1 l1 S1 g1)(t:Nx prog w A i2 l2 S2 g2)(n:IsZip s.heap z TI TO .none)(C:IsPair s.heap TI (.ref i1) (.ref i2))(F:IsPair s.heap TO a b)(h1:S1 k s.heap)(Z:S2 k s.heap)(hx:g1 k=some x)(hy:g2 k=some y)(hQ:∀ h',IsZip h' z TI TO (rawInt s.heap.objs.size)->IsPair h' TO x y->S1 (k+1) h'->S2 (k+1) h'->IsPair h' s.heap.objs.size x y->h'.objs.size=s.heap.objs.size+1->(∀c o,c≠z->c≠TO->c≠i1->c≠i2->s.heap.get? c=some o->h'.get? c=some o)->Q (.ref s.heap.objs.size) {s with heap:=h'}):wpAny (model prog w) A (Builtin.«zip.__next__» ⟨[.ref z],[]⟩) (λfin s'=>∃v,fin=.done (.ret v)/\Q v s') E s:=by
 show wpAny _ _ (field (.ref z) 2>>=_) _ _ _;refine wpAny_bind (wpAny_field n rfl (x:=.bool false) rfl ?_);show wpAny _ _ (field (.ref z) 3>>=_) _ _ _;refine wpAny_bind (wpAny_field n rfl (x:=.ref TI) rfl (wpAny_bind (wpAny_seqItems C rfl ?_)));show wpAny _ _ (ownedTupleIsFree (.ref z)>>=_) _ _ _;refine wpAny_bind ?_;unfold ownedTupleIsFree;refine wpAny_bind (wpAny_field n rfl (x:=.none) rfl (wpAny_pure ?_));simp only[if_true];refine wpAny_bind (wpAny_rule (wpAny_bind (wpAny_field n rfl (x:=.ref TO) rfl (wpAny_bind (wpAny_setField_rec n (by simp) λt1 G g=>?_)))));have G:IsZip t1 z TI TO .ellipsis:=G;refine wpAny_bind ?_;simp only[List.zipIdx_cons,List.zipIdx_nil,forIn_cons,forIn_nil];refine wpAny_bind (wpAny_bind (wpAny_onRaise ?_));show wpAny _ _ (nextOf (.ref i1)>>=_) _ _ _;have q1:S1 k t1:=r.keep _ _ _ h1 (λo e=>g.extBut _ _ D.i1z e) λo e=>g.extBut _ _ D.l1z e;refine wpAny_bind (r.item k _ _ _ x q1 hx λt2 q2 j=>wpAny_pure ?_);have M:IsPair t2 TO a b:=j.extBut _ _ D.TOi1 (g.extBut _ _ D.TOz F);refine wpAny_bind (wpAny_seqItems M rfl (wpAny_bind (wpAny_updateSeq_pair M λN H h=>?_)));have H:IsPair N TO x b:=H;refine wpAny_bind (wpAny_letGo (wpAny_pure (wpAny_bind (wpAny_bind (wpAny_onRaise ?_)))));show wpAny _ _ (nextOf (.ref i2)>>=_) _ _ _;have w3:S2 k N:=t.keep _ _ _ Z (λo e=>h.extBut _ _ D.TOi2.symm (j.extBut _ _ D.i12.symm (g.extBut _ _ D.i2z e))) λo e=>h.extBut _ _ D.l2TO (j.extBut _ _ D.l2i1 (g.extBut _ _ D.l2z e));refine wpAny_bind (t.item k _ _ _ y w3 hy λt4 w4 l=>wpAny_pure ?_);have O:IsPair t4 TO x b:=l.extBut _ _ D.TOi2 H;refine wpAny_bind (wpAny_seqItems O rfl (wpAny_bind (wpAny_updateSeq_pair O λf u i=>?_)));have u:IsPair f TO x y:=u;refine wpAny_bind (wpAny_letGo (wpAny_pure (wpAny_pure (wpAny_bind (wpAny_seqItems u rfl (wpAny_bind (wpAny_newTuple ?_)))))));have p:f.objs.size=s.heap.objs.size:=by rw[i.1,l.1,h.1,j.1,g.1]
 have U:IsZip f z TI TO .ellipsis:=i.extBut _ _ D.TOz.symm (l.extBut _ _ D.i2z.symm (h.extBut _ _ D.TOz.symm (j.extBut _ _ D.i1z.symm G)));have kp:∀c o,c≠z->c≠TO->c≠i1->c≠i2->s.heap.get? c=some o->f.get? c=some o:=λc o c1 c2 c3 c4 e=>i.extBut _ _ c2 (l.extBut _ _ c4 (h.extBut _ _ c2 (j.extBut _ _ c3 (g.extBut _ _ c1 e))));have q5:S1 (k+1) f:=r.keep _ _ _ q2 (λo e=>i.extBut _ _ D.TOi1.symm (l.extBut _ _ D.i12 (h.extBut _ _ D.TOi1.symm e))) λo e=>i.extBut _ _ D.l1TO (l.extBut _ _ D.l1i2 (h.extBut _ _ D.l1TO e));have w5:S2 (k+1) f:=t.keep _ _ _ w4 (λo e=>i.extBut _ _ D.TOi2.symm e) λo e=>i.extBut _ _ D.l2TO e;have W:z<f.objs.size:=lt_size U;show wpAny _ _ (ownedTupleHandOut (.ref z) (.ref f.objs.size)>>=_) _ _ _;refine wpAny_bind ?_;unfold ownedTupleHandOut;have z6:IsZip (f.push {cls:=.type "tuple",data:=.seq #[x,y]}) z TI TO .ellipsis:=mq U;refine wpAny_bind (wpAny_setField_rec z6 (by simp) λt7 I J=>?_);have I:IsZip t7 z TI TO (rawInt f.objs.size):=I;refine wpAny_setField_rec I (by simp) λq B L=>?_;have B:IsZip q z TI TO (rawInt f.objs.size):=B;have m:∀c o,c≠z->f.get? c=some o->q.get? c=some o:=λc o c1 e=>L.extBut _ _ c1 (J.extBut _ _ c1 (mq e));have X:IsPair q f.objs.size x y:=L.extBut _ _ (Nat.ne_of_gt W) (J.extBut _ _ (Nat.ne_of_gt W) (get?_push_size _ rfl));have Y:q.objs.size=f.objs.size+1:=by rw[L.1,J.1,size_push]
 rw[p]at B X Y;refine wpAny_pure ⟨_,rfl,?_⟩;show Q (.ref f.objs.size) _;rw[p];exact hQ q B (m _ _ D.TOz u) (r.keep _ _ _ q5 (λo e=>m _ o D.i1z e) λo e=>m _ o D.l1z e) (t.keep _ _ _ w5 (λo e=>m _ o D.i2z e) λo e=>m _ o D.l2z e) X Y λc o c1 c2 c3 c4 e=>m c o c1 (kp c o c1 c2 c3 c4 e)
theorem xV{Q:Fin->Shared->Prop}(D:ZipApart z TI TO i1 i2 l1 l2)(r:Nx prog w A i1 l1 S1 g1)(C:Nx prog w A i2 l2 S2 g2)(n:IsZip s.heap z TI TO .none)(t:IsPair s.heap TI (.ref i1) (.ref i2))(u:IsPair s.heap TO a b)(h1:S1 k s.heap)(N:S2 k s.heap)(p:g1 k=none\/g2 k=none)(F:∀h' e,(∀c o,c≠z->c≠TO->c≠i1->c≠i2->s.heap.get? c=some o->h'.get? c=some o)->(∃o,h'.get? e=some o/\o.cls=.type "StopIteration")->E (.ref e) {s with heap:=h'}):wpAny (model prog w) A (Builtin.«zip.__next__» ⟨[.ref z],[]⟩) Q E s:=by
 show wpAny _ _ (field (.ref z) 2>>=_) _ _ _;refine wpAny_bind (wpAny_field n rfl (x:=.bool false) rfl ?_);show wpAny _ _ (field (.ref z) 3>>=_) _ _ _;refine wpAny_bind (wpAny_field n rfl (x:=.ref TI) rfl (wpAny_bind (wpAny_seqItems t rfl ?_)));show wpAny _ _ (ownedTupleIsFree (.ref z)>>=_) _ _ _;refine wpAny_bind ?_;unfold ownedTupleIsFree;refine wpAny_bind (wpAny_field n rfl (x:=.none) rfl (wpAny_pure ?_));simp only[if_true];refine wpAny_bind (wpAny_rule (wpAny_bind (wpAny_field n rfl (x:=.ref TO) rfl (wpAny_bind (wpAny_setField_rec n (by simp) λt1 q j=>?_)))));have q:IsZip t1 z TI TO .ellipsis:=q;refine wpAny_bind ?_;simp only[List.zipIdx_cons,List.zipIdx_nil,forIn_cons,forIn_nil];refine wpAny_bind (wpAny_bind (wpAny_onRaise ?_));show wpAny _ _ (nextOf (.ref i1)>>=_) _ _ _
 have G:S1 k t1:=r.keep _ _ _ h1 (λo e=>j.extBut _ _ D.i1z e) λo e=>j.extBut _ _ D.l1z e;cases hx:g1 k with|none=>
   refine wpAny_bind (r.fin k _ _ _ G hx λv e i he=>?_);obtain⟨y,f,g⟩:=he;have H:IsZip v z TI TO .ellipsis:=i _ _ D.i1z.symm q;have l:e≠z:=λx=>by subst x;rw[H]at f;cases f;simp at g
   exact wpAny_setField_rec H (by simp) λB _ m=>F B e (λc o c1 _ c3 _ x=>m.extBut _ _ c1 (i _ _ c3 (j.extBut _ _ c1 x))) ⟨y,m.extBut _ _ l f,g⟩|some x=>
   have O:g2 k=none:=by rcases p with h|h;rw[hx]at h;cases h;exact h
   refine wpAny_bind (r.item k _ _ _ x G hx λv Y i=>wpAny_pure ?_);have I:IsPair v TO a b:=i.extBut _ _ D.TOi1 (j.extBut _ _ D.TOz u);refine wpAny_bind (wpAny_seqItems I rfl (wpAny_bind (wpAny_updateSeq_pair I λB Z m=>?_)));refine wpAny_bind (wpAny_letGo (wpAny_pure (wpAny_bind (wpAny_bind (wpAny_onRaise ?_)))));show wpAny _ _ (nextOf (.ref i2)>>=_) _ _ _;have U:S2 k B:=C.keep _ _ _ N (λo e=>m.extBut _ _ D.TOi2.symm (i.extBut _ _ D.i12.symm (j.extBut _ _ D.i2z e))) λo e=>m.extBut _ _ D.l2TO (i.extBut _ _ D.l2i1 (j.extBut _ _ D.l2z e));refine wpAny_bind (C.fin k _ _ _ U O λW e J he=>?_);obtain⟨y,f,g⟩:=he;have L:IsZip W z TI TO .ellipsis:=J _ _ D.i2z.symm (m.extBut _ _ D.TOz.symm (i.extBut _ _ D.i1z.symm q));have l:e≠z:=λx=>by subst x;rw[L]at f;cases f;simp at g
   exact wpAny_setField_rec L (by simp) λX _ M=>F X e (λc o c1 c2 c3 c4 x=>M.extBut _ _ c1 (J _ _ c4 (m.extBut _ _ c2 (i.extBut _ _ c3 (j.extBut _ _ c1 x))))) ⟨y,M.extBut _ _ l f,g⟩
theorem jD{x y:Value}{Q:Option Value->Shared->Prop}(D:ZipApart z TI TO i1 i2 l1 l2)(i:Nx prog w A.in1 i1 l1 S1 g1)(j:Nx prog w A.in1 i2 l2 S2 g2)(g:IsZip s.heap z TI TO .none)(e:IsPair s.heap TI (.ref i1) (.ref i2))(f:IsPair s.heap TO a b)(h1:S1 k s.heap)(l:S2 k s.heap)(m:g1 k=some x)(n:g2 k=some y)(p:∀ h',IsZip h' z TI TO (rawInt s.heap.objs.size)->IsPair h' TO x y->S1 (k+1) h'->S2 (k+1) h'->IsPair h' s.heap.objs.size x y->h'.objs.size=s.heap.objs.size+1->(∀c o,c≠z->c≠TO->c≠i1->c≠i2->s.heap.get? c=some o->h'.get? c=some o)->Q (some (.ref s.heap.objs.size)) {s with heap:=h'}):wpAny (model prog w) A (pyNext (.ref z)) Q E s:=by have h:s.TypeIs (.ref z) "zip":=⟨_,g,rfl⟩;unfold pyNext;exact wpAny_bind (wpAny_attempt (wpAny_callSpecial?_slot (name:=Str.ofString "__next__") h F.slot_zip_next (wpAny_call_entry F.slot_zip_next h F.entry_zip_next (u9 D i j g e f h1 l m n λh' q r t u v B C=>wpAny_pure (p h' q r t u v B C)) (F.args_zip_next_1 _))))
theorem jN{Q:Option Value->Shared->Prop}(D:ZipApart z TI TO i1 i2 l1 l2)(l:Nx prog w A.in1 i1 l1 S1 g1)(m:Nx prog w A.in1 i2 l2 S2 g2)(i:IsZip s.heap z TI TO .none)(g:IsPair s.heap TI (.ref i1) (.ref i2))(h:IsPair s.heap TO a b)(h1:S1 k s.heap)(n:S2 k s.heap)(f:g1 k=none\/g2 k=none)(p:∀h',(∀c o,c≠z->c≠TO->c≠i1->c≠i2->s.heap.get? c=some o->h'.get? c=some o)->Q none {s with heap:=h'}):wpAny (model prog w) A (pyNext (.ref z)) Q E s:=by have j:s.TypeIs (.ref z) "zip":=⟨_,i,rfl⟩;unfold pyNext;refine wpAny_bind (wpAny_attempt (wpAny_callSpecial?_slot (name:=Str.ofString "__next__") j F.slot_zip_next (wpAny_call_entry F.slot_zip_next j F.entry_zip_next (xV D l m i g h h1 n f λh' e q he=>?_) (F.args_zip_next_1 _))));obtain⟨o,ho,hc⟩:=he;exact wpAny_bind (wpAny_isInstance (T:="StopIteration") (b:=true) ⟨o,ho,hc⟩ isSubtype_stop (wpAny_pure (p _ q)))
end
end PySem
end
section
namespace L2
open PySem PySem.Spec PyProof.Rows
section
variable{X:Cx}{pins:List (Addr×Obj)}{σ:L2.St}{H:Hp}{s:Shared}
theorem zH(t:Bool){prog:Program}{w:World}{A:Around}(c:A.handled=none)(a l:Addr)(b:l≠a)(items:Array Value):Nx prog w A a l (λk h=>eE t h a l k/\uB t h l items) (λk=>items[k]?):=by cases t with|true=>exact Nx.tuple c a l b items|false=>exact Nx.list c a l b items
theorem Inv.wH{ch:List Addr}{h':Heap}(I:Inv X pins σ H s)(k:∀b u,b∉ch->s.heap.get? b=some u->h'.get? b=some u)(g:∀b∈ch,jz X pins H b):Inv X pins σ H {s with heap:=h'}:=by
 have h:∀b u,H b=some u->b∉ch:=λb u e a=>by rw[(g b a).1]at e;cases e
 refine I.call (g':=s.gens) (d':=s.drawn) (t':=s.toks) (ch:=ch) ⟨λb u e n _ f=>k b u f e,λb u e n _ f=>⟨u.slots,k b u f e⟩,λb u e n f=>n,λb u e f=>⟨u,k b u f e⟩,λb xs e=>e,λb i u e=>e,λb ps e=>⟨#[],by rw[e];simp⟩⟩ ?_ I.bare λb a=>⟨(g b a).2.2.2.1,(g b a).2.1,(g b a).2.2.2.2.1,(g b a).2.2.2.2.2⟩;intro b u e;refine(I.hok b u e).stay (λc v hc q=>k c v ?_ q) (λc q=>q) λc xs q=>q;rcases hc with rfl|hc;.exact h _ _ e
 .exact h _ _ hc
end
noncomputable def Lg(t1 c:Bool)(K:PySem.W.Frag)(a b:Addr):It:=⟨λi H=>∃ xs ys x y,Sq t1 K H a xs/\Sq c K H b ys/\xs[i]?=some x/\ys[i]?=some y,λi H x e=>∃T v w,H T=none/\x=.ref T/\e=upd H T (.tup [v,w])/\(∀xs,Sq t1 K H a xs->xs[i]?=some v)/\∀ys,Sq c K H b ys->ys[i]?=some w,λi H=>∃xs ys,Sq t1 K H a xs/\Sq c K H b ys/\(xs.length<=i\/ys.length<=i)⟩
theorem wk{P:Program}{w:World}{K:PySem.W.Frag}{G:List Expr}{x1}{tp:Pos}(t1 J:Bool){z TI TO f g C F:Addr}(D:ZipApart z TI TO f g C F):Turn P w K (.Tuple G x1 tp) (Lg t1 J K C F) [z,TI,TO,f,g] z (λi h=>IsZip h z TI TO .none/\IsPair h TI (.ref f) (.ref g)/\(∃a b,IsPair h TO a b)/\eE t1 h f C i/\eE J h g F i)where
 mem:=by simp
 obj:=λi h st b c=>by
  obtain⟨h1,m,⟨u,v,r⟩,t,B⟩:=st;simp only[mem_cons,not_mem_nil,or_false]at c;rcases c with rfl|rfl|rfl|rfl|rfl;.exact⟨_,h1,λv z=>by cases z⟩
  .exact⟨_,m,λv z=>by cases z⟩
  .exact⟨_,r,λv z=>by cases z⟩
  .exact t.obj
  .exact B.obj
 keep:=λi h h' st k=>by obtain⟨h1,m,⟨u,v,r⟩,t,B⟩:=st;exact⟨k z (by simp) _ h1,k TI (by simp) _ m,⟨u,v,k TO (by simp) _ r⟩,t.keep (k f (by simp)),B.keep (k g (by simp))⟩
 item:=λX hP hw hK hc i L s σ H E I U st go=>by
  subst hP hw hK;obtain⟨h1,m,⟨u,v,r⟩,t,B⟩:=st;obtain⟨xs,ys,x,y,n,p,hx,hy⟩:=go;obtain⟨BV,Qs,Ke⟩:=I.sq n;obtain⟨j,Qt,Dz⟩:=I.sq p;obtain⟨Y,ab,ac⟩:=Qs.get hx;obtain⟨Z,ae,af⟩:=Qt.get hy;have M:X.A.in1.handled=none:=I.ok.hd hc;refine jD D (zH t1 M f C D.l1i1 BV.toArray) (zH J M g F D.l2i2 j.toArray) h1 m r (k:=i) ⟨t,Ke⟩ ⟨B,Dz⟩ (x:=Y) (y:=Z) (by simpa using ab) (by simpa using ae) λh' z1 p1 s1 s2 pT ah kp=>?_;refine⟨_,rfl,wpAny_letOwnedTupleGo_zip z1 λl z2 N=>?_⟩;have O:∀b∈[z,TI,TO,f,g],b≠s.heap.objs.size:=λb c=>by
   simp only[mem_cons,not_mem_nil,or_false]at c;rcases c with rfl|rfl|rfl|rfl|rfl;.exact ne_of_lt (lt_size h1)
   .exact ne_of_lt (lt_size m)
   .exact ne_of_lt (lt_size r)
   .exact ne_of_lt (lt_size t.obj.choose_spec.1)
   .exact ne_of_lt (lt_size B.obj.choose_spec.1)
  have Wg:∀b o,b∉[z,TO,f,g]->s.heap.get? b=some o->l.get? b=some o:=λb o c q=>by simp only[mem_cons,not_mem_nil,or_false,not_or]at c;exact N.extBut b o c.1 (kp b o c.1 c.2.1 c.2.2.1 c.2.2.2 q)
  have ag:IsPair l s.heap.objs.size Y Z:=N.extBut _ _ (O z (by simp)).symm pT;have p2:IsPair l TO Y Z:=N.extBut _ _ D.TOz p1;have j1:eE t1 l f C (i+1):=s1.1.keep λo e=>N.extBut _ _ D.i1z e;have j2:eE J l g F (i+1):=s2.1.keep λo e=>N.extBut _ _ D.i2z e;refine⟨.ref s.heap.objs.size,upd H s.heap.objs.size (.tup [x,y]),?_,rfl,⟨_,x,y,I.fresh,rfl,rfl,λzs hz=>?_,λzs hz=>?_⟩,⟨z2,Wg TI _ ?_ m,⟨_,_,p2⟩,j1,j2⟩,λb c=>?_⟩
  . refine I.G3 (ch:=[z,TO,f,g]) (t':=s.toks) Wg (λb c=>?_) (λb c=>U b ?_) ⟨(by show 2<=sizeLine;decide),[Y,Z],.cons ac (.cons af .nil),⟨_,ag,rfl,_,rfl⟩⟩
    . simp only[mem_cons,not_mem_nil,or_false]at c;rcases c with rfl|rfl|rfl|rfl;.exact⟨_,z2⟩
      .exact⟨_,p2⟩
      .exact⟨_,j1.obj.choose_spec.1⟩
      .exact⟨_,j2.obj.choose_spec.1⟩
    .simp only[mem_cons,not_mem_nil,or_false]at c ⊢;rcases c with h|h|h|h<;>simp[h]
  .rw[I.xx hz n];exact hx
  .rw[I.xx hz p];exact hy
  .simp[D.TIz,D.TITO,D.TIi1,D.TIi2]
  .rw[aD (O b c)];exact(U b c).1
 done:=λX hP hw hK hc i L s σ H E I U st stop=>by
  subst hP hw hK;obtain⟨h1,m,⟨u,v,r⟩,t,B⟩:=st;obtain⟨xs,ys,n,p,hx⟩:=stop;obtain⟨BV,Qs,Ke⟩:=I.sq n;obtain⟨j,Qt,Dz⟩:=I.sq p;have M:X.A.in1.handled=none:=I.ok.hd hc;refine jN D (zH t1 M f C D.l1i1 BV.toArray) (zH J M g F D.l2i2 j.toArray) h1 m r (k:=i) ⟨t,Ke⟩ ⟨B,Dz⟩ ?_ λh' kp=>⟨rfl,?_⟩
  . rcases hx with hx|hx;.left;rw[Qs.length]at hx;simpa using hx
    .right;rw[Qt.length]at hx;simpa using hx
  .exact I.wH (ch:=[z,TO,f,g]) (λb u c q=>by simp only[mem_cons,not_mem_nil,or_false,not_or]at c;exact kp b u c.1 c.2.1 c.2.2.1 c.2.2.2 q) λb c=>U b (by simp only[mem_cons,not_mem_nil,or_false]at c ⊢;rcases c with h|h|h|h<;>simp[h])
 self:=λA i s Q E st q=>wpAny_pyIter_zip st.1 q
noncomputable def GP(t:Bool)(l:Addr):Obj:={cls:=.type (if t then"tuple_iterator"else"list_iterator"),data:=.fields #[.ref l,.int 0 0]}
section
variable{prog:Program}{w:World}{A:Around}{E:Value->Shared->Prop}{s:Shared}{t t1 t2:Bool}{l1 l2:Addr}{xs ys:Array Value}{Q:Value->Shared->Prop}
theorem xZ(a:uB t s.heap l1 xs)(b:Q (.ref s.heap.objs.size) {s with heap:=s.heap.push (GP t l1)}):wpAny (model prog w) A (pyIter (.ref l1)) Q E s:=by
 cases t;.exact wpAny_pyIter_list a b
 .exact wpAny_pyIter_tuple a b
theorem uB.push{h:Heap}(o:Obj)(q:uB t h l1 xs):uB t (h.push o) l1 xs:=by
 cases t;.exact Heap.IsList.push q _
 .exact Heap.IsTuple.push q _
theorem eE.new{h:Heap}(e:h.get? l2=some (GP t l1)):eE t h l2 l1 0:=by cases t<;>exact⟨_,e,rfl,rfl⟩
noncomputable def Ls(l1 l2:Addr):Obj:={cls:=.type "zip",data:=.fields #[.none,.bool false,.bool false,.ref l1,.ref l2]}
noncomputable def Aq(u v:Value):Obj:={cls:=.type "tuple",data:=.seq #[u,v]}
theorem uO(t1 t2:Bool)(l1 l2:Addr)(xs ys:Array Value):Meets (Builtin.«zip.__new__» ⟨[.type "zip",.ref l1,.ref l2],[]⟩) (λ_ R s=>uB t1 s.heap l1 xs/\uB t2 s.heap l2 ys/\R (.ok (.ret (.ref (s.heap.objs.size+4)))) {s with heap:=((((s.heap.push (GP t1 l1)).push (GP t2 l2)).push (Aq (.ref s.heap.objs.size) (.ref (s.heap.objs.size+1)))).push (Aq .none .none)).push (Ls (s.heap.objs.size+2) (s.heap.objs.size+3))}):=.of_wp λprog w A R s h=>by obtain⟨f,g,d,i,os⟩:=s;obtain⟨a,b,h⟩:=h;have j:=sub_zip;have c:uB t1 (Shared.heap ⟨f,g,d,i,os⟩) l1 xs:=a;have e:uB t2 (Shared.heap ⟨f.push (GP t1 l1),g,d,i,os⟩) l2 ys:=b.push _;wp_walk using xZ c,xZ e;simp only[size_push]at*;exact⟨_,rfl,h⟩
theorem iR{h h':Heap}{o:Obj}{n:Nat}(e:h.push o=h')(a:h.objs.size=n)(f:o.isFreed=false):h'.objs.size=n+1/\h'.get? n=some o/\∀c u,h.get? c=some u->h'.get? c=some u:=by subst e a;exact⟨size_push _ _,get?_push_size _ f,λ_ _=>get?_push_of_some _⟩
theorem uR(f:uB t1 s.heap l1 xs)(g:uB t2 s.heap l2 ys)(h:∀ h',IsZip h' (s.heap.objs.size+4) (s.heap.objs.size+2) (s.heap.objs.size+3) .none->IsPair h' (s.heap.objs.size+2) (.ref s.heap.objs.size) (.ref (s.heap.objs.size+1))->IsPair h' (s.heap.objs.size+3) .none .none->eE t1 h' s.heap.objs.size l1 0->eE t2 h' (s.heap.objs.size+1) l2 0->(∀c o,s.heap.get? c=some o->h'.get? c=some o)->Q (.ref (s.heap.objs.size+4)) {s with heap:=h'}):wpAny (model prog w) A (call (.type "zip") [.ref l1,.ref l2]) Q E s:=by refine callType_new F.called_zip (by decide) (F.typeCall_zip_2 _ _) (F.newCall_zip_2 _ _) (λobj=>F.args_object_init_3 obj _ _) F.entry_zip_new (uO t1 t2 l1 l2 xs ys) ⟨f,g,?_⟩;generalize l:s.heap.push (GP t1 l1)=h1;obtain⟨m,n,p⟩:=iR l rfl rfl;generalize q:h1.push (GP t2 l2)=r;obtain⟨u,v,j⟩:=iR q m rfl;generalize x:r.push (Aq _ _)=y;obtain⟨z,B,i⟩:=iR x u rfl;generalize C:y.push (Aq _ _)=G;obtain⟨H,I,b⟩:=iR C z rfl;generalize J:G.push (Ls _ _)=L;obtain⟨_,k,a⟩:=iR J H rfl;exact⟨⟨_,k,rfl⟩,h L k (a _ _ (b _ _ B)) (a _ _ I) (.new (a _ _ (b _ _ (i _ _ (j _ _ n))))) (.new (a _ _ (b _ _ (i _ _ v)))) λc o e=>a _ _ (b _ _ (i _ _ (j _ _ (p _ _ e))))⟩
end
section
variable{X:Cx}{elts:List Expr}{x1:Nat}{tp:Pos}
theorem Em{n l m:Nat}(h1:l<n)(a:m<n):ZipApart (n+4) (n+2) (n+3) n (n+1) l m:=by constructor<;>exact λh=>absurd (show(_:Nat)=_ from h) (by omega)
def QD(K:PySem.W.Frag)(R:It->Hp->Prop)(f:List V)(c:Hp):Prop:=∃t1 e a b,f=[.ref a,.ref b]/\(∃xs,Sq t1 K c a xs)/\(∃ys,Sq e K c b ys)/\R (Lg t1 e K a b) c
def Tt(K:PySem.W.Frag)(a:TA):TI:=λb H R=>a b H (QD K R)
theorem boot_zip:bootBuiltins "zip"=some (.type "zip"):=by decide+kernel
theorem El{a b:Expr}{k:TA}{p pos:Pos}(t:Gl X "zip")(w:X.mg "zip"=none)(x:PA X [a,b] k)(hs:starEach [a,b] X.env=[(false,eval a X.env),(false,eval b X.env)]:=by rfl)(c:starEach [b] X.env=[(false,eval b X.env)]:=by rfl):PI X (.Tuple elts x1 tp) (.Call (.Name "zip" p) [a,b] [] pos) (Tt X.K k):=by
 intro e s y H R I h;refine Call_ (lU I t w boot_zip (PyProof.Rows.callWith_type1 (cY (x pos e s y H _ I h) ?_) (by rw[hs,c]) (by rw[c];rfl)));rintro Q s1⟨U,z,f,A,B⟩;obtain⟨t1,C,E,F,rfl,⟨xs,i⟩,⟨ys,j⟩,q⟩:=B;obtain⟨u,v,rfl,G,J⟩:=A.two;cases G;cases J;obtain⟨W,Y,l⟩:=f.sq i;obtain⟨m,Z,n⟩:=f.sq j;have b1:=l.lt;have b2:=n.lt;refine uR l n λh' o L M N O kp=>?_;have D:ZipApart (s1.heap.objs.size+4) (s1.heap.objs.size+2) (s1.heap.objs.size+3) s1.heap.objs.size (s1.heap.objs.size+1) E F:=Em b1 b2;refine wpAny_pyIter_zip o ⟨_,_,_,_,z,rfl,f.kept (t':=s1.toks) kp,wk t1 C D,⟨o,L,⟨_,_,M⟩,N,O⟩,λb r=>?_,q⟩;have g:s1.heap.objs.size<=b:=by simp only[mem_cons,not_mem_nil,or_false]at r;rcases r with rfl|rfl|rfl|rfl|rfl<;>first|exact Nat.le_add_right _ _|exact dH
 exact f.vy g (f.hok.fresh g)
end
end L2
namespace HH
open PySem L2 PySem.Spec PyProof.Rows
variable{x:Str}
section
variable{K:PySem.W.Frag}{F F1 H H1:Hp}{ρ ρ1:List Sl}{σ:L2.St}{ds es:List D}{a b:Addr}
theorem aB.sq{t:Bool}{xs:List V}(e:aB F H)(h:Sq t K F a xs):Sq t K H a xs:=by cases t with|true=>exact aB.gG e h|false=>exact e.seq h
theorem Bb{t1 j:Bool}{xs ys:List V}{l c:Hp}(e:Sq t1 K c a xs)(f:Sq j K c b ys)(o:az K l xs ds)(q:az K l ys es)(s:aB l c)(k:Nat):(∀d,((ds.zip es).map λp=>D.tup [p.1,p.2])[k]?=some d->(Lg t1 j K a b).go k c/\∀x m,(Lg t1 j K a b).Dv k c x m->∃g,Ext l c g m/\Rep K g x d)/\(((ds.zip es).map λp=>D.tup [p.1,p.2]).length<=k->(Lg t1 j K a b).stop k c):=by refine⟨λd hd=>?_,λh=>⟨xs,ys,e,f,by rw[o.length,q.length];rw[length_map,List.length_zip]at h;omega⟩⟩;rw[getElem?_map]at hd;obtain⟨⟨d0,d1⟩,r,t⟩:=map_some hd;subst t;obtain⟨f1,f2⟩:=List.getElem?_zip_eq_some.mp r;obtain⟨w,h1,u⟩:=o.get f1;obtain⟨z,i,n⟩:=q.get f2;refine⟨⟨xs,ys,w,z,e,f,h1,i⟩,?_⟩;rintro x m⟨T,v,G,A,B,C,y,E⟩;subst B;subst C;have:=y xs e;rw[h1]at this;cases this;have:=E ys f;rw[i]at this;cases this;exact vP s A u n
theorem yh{v:V}{d:D}{ds:List D}(h:Rep K F v d)(e:items d=some ds):∃t a xs,v=.ref a/\Sq t K F a xs/\az K F xs ds:=by cases d with|tup es=>cases e;rw[Rep]at h;obtain⟨a,xs,rfl,h1,c⟩:=h;exact⟨true,a,xs,rfl,h1,c⟩|lst es=>cases e;rw[Rep]at h;obtain⟨a,xs,rfl,h1,c⟩:=h;exact⟨false,a,xs,rfl,h1,c⟩|_=>cases e
end
section
variable{X:Cx}{c:Call}{e a b:Expr}{pa pb:P}{pos:Pos}{elts:List Expr}{x1:Nat}{tp:Pos}
theorem DP{w:Pos}(y:x="zip")(z:Gl X x)(A:X.mg x=none)(B:SX X c a pa)(C:SX X c b pb)(hs:starEach [a,b] X.env=[(false,eval a X.env),(false,eval b X.env)]:=by rfl)(f:starEach [b] X.env=[(false,eval b X.env)]:=by rfl):SI X c (.Tuple elts x1 tp) (.Call (.Name x w) [a,b] [] pos) (.zip pa pb):=by subst y;refine tu (El z A (j0 B (j0 C bu f) (by rw[hs,f])).1 hs f) ?_;rintro σ H R⟨F,ρ,ds,ρ1,g,e,k⟩;obtain⟨r,E,p,l⟩:=aa e;have o:=aJ l;clear l;obtain⟨l,G⟩:=o;subst G;rw[HH.E22]at p;obtain⟨I,j,J,L⟩:=aa p;obtain⟨M,N,O,m⟩:=aa L;have o:=aJ m;clear m;obtain⟨m,Q⟩:=o;subst Q;obtain⟨us,f1,U⟩:=iz m;obtain⟨ws,f2,f3⟩:=map_some U;subst f3;cases l;refine⟨F,ρ,[I.d,M.d],_,g,by rw[nG,J];show(evs c [pb] j).bind _=_;rw[nG,O];rfl,λvs W Y s h=>?_⟩;obtain⟨v,r',rfl,Z,h⟩:=h.bT;obtain⟨u,ab,rfl,ru,h⟩:=h.bT;rw[h.fC];obtain⟨t1,a1,xs,rfl,q,r1⟩:=yh Z f1;obtain⟨t2,a2,ys,rfl,t,r2⟩:=yh ru f2;exact⟨t1,t2,a1,a2,rfl,⟨xs,aB.sq s.gs.sub q⟩,⟨ys,aB.sq s.gs.sub t⟩,k _ _ _ ⟨s.gs,λn k W ac ae Y i=>Bb (aB.sq i.gs.sub (aB.sq i.cA q)) (aB.sq i.gs.sub (aB.sq i.cA t)) (r1.mono i.cA) (r2.mono i.cA) i.gs.sub k,λF3 j af H3 s3=>⟨s.trans s3,λv r h=>h.later s⟩⟩⟩
end
structure bN(K:PySem.W.Frag)(x:Str)(st:Stmt):Prop where ex:∃f fd,PySem.W.nsIn K mainGlobals x=some (some (.ref f))/\iw K x x st f fd
section
variable{Pg:Program}{w:World}{K:PySem.W.Frag}{mg:Str->Option Value}{base h:Heap}
theorem GQ{st:Stmt}{f:Addr}{g:Value}{i j:Option Addr}{b:Array (Option Value)}{kV e m cdv ct:Value}(a:PySem.W.nsIn K mainGlobals x=some (some (.ref f)))(l:K.lookup f=some ⟨g,i,.func (PySem.W.fnOf x x (fG st) (cZ st) (ao st) .none kV e m j cdv ct),b⟩)(c:PySem.W.codeIn K cdv x=true)(k:keepIn K (.ref f)=true):bN K x st:=⟨_,_,a,HR l c k⟩
theorem cF{Γ:Tab}{j i np:Nat}{st:Stmt}{ps:List Str}(X:K.In h)(G:h.Ns mainGlobals mg)(D:bN K x st)(k:ps.length=np)(l:∀(kV g m:Value)(n:Option Addr)(cdv ct:Value)(c:List Value),c.length=ps.length->bindArgs (PySem.W.fnOf x x (fG st) (cZ st) (ao st) .none kV g m n cdv ct) ⟨c,[]⟩=pure (ps.zip c)):bC Pg w K mg base 0 (run Γ j 0) i x np:=by obtain⟨f,fd,a,F⟩:=D.ex;exact⟨f,fd,ps,⟨λo H Q E s=>s.1,λA outer s H args c o Q E hr e b v sp=>by obtain⟨_,F,as,r,p,_,z,_⟩:=sp;cases z⟩,mg_of X G a,F.kp,F.binds l,k⟩
theorem cI{Γ:Tab}{b n i np:Nat}{st:Stmt}{ps:List Str}{d:Fd}(X:K.In h)(G:h.Ns mainGlobals mg)(D:bN K x st)(k:ps.length=np)(c:Γ i=some d)(l:∀(kV g m:Value)(o:Option Addr)(cdv ct:Value)(j:List Value),j.length=ps.length->bindArgs (PySem.W.fnOf x x (fG st) (cZ st) (ao st) .none kV g m o cdv ct) ⟨j,[]⟩=pure (ps.zip j))(ok:∀f fd,iw K x x st f fd->gP Pg w K mg base qD (n+1) f fd ps (yV K np (λargs=>enter (run Γ b n) b d args))):bC Pg w K mg base (n+1) (run Γ b (n+1)) i x np:=by
 obtain⟨f,fd,a,F⟩:=D.ex;refine⟨f,fd,ps,?_,mg_of X G a,F.kp,F.binds l,k⟩;have e:run Γ b (n+1) i=λargs=>enter (run Γ b n) b d args:=by funext args;show(match Γ i with|some d=>enter (run Γ b n) b d args|none=>.stuck)=_;rw[c]
 rw[e,k];exact ok f fd F
theorem m6{F:Hp}:∀ns:List Int,az K F (ns.map V.int) (ns.map D.int)|[]=>.nil|n::ns=>.cons (cX n) (m6 ns)
theorem uQ{H:Hp}{a:Addr}{ns:List Int}{g:List Sl->Res R}{as:List Sl}(l:cR K H a (ns.map V.int))(hr:g [.val false (.lst (ns.map D.int))]=.ok (.val (.bl true)) as):yV K 1 g [.ref a] H (λv _=>v=.bl true) λ_ _ _=>False:=by
 refine⟨rfl,H,_,_,as,⟨.refl _,rfl,λi b d e=>?_,λi s m e k=>?_,λi j c h=>?_⟩,hr,λv n o p s f=>?_⟩;.match i,e with|0,e=>cases e;refine⟨.ref a,rfl,?_⟩;rw[Rep];exact⟨a,_,rfl,l,m6 ns⟩|i+1,e=>simp at e
 .match i,e with|0,e=>cases e;cases k|i+1,e=>simp at e
 .obtain⟨⟨s,m,e,k⟩,_⟩:=h;match i,e with|0,e=>cases e;cases k|i+1,e=>simp at e
 .have f:Rep K n v (.bl true):=f;rw[Rep]at f;exact f
end
end HH
end
section
namespace HH
open PySem
variable{n:Nat}{c:Call}{ρ:List Sl}{is:List Nat}{ds:List D}
def Res.sat{b:Type}(Q:b->List Sl->Prop)(x:Res b):Prop:=match x with|.ok a ρ=>Q a ρ|.exc _ _=>False|.stuck=>False
section
variable{α β:Type}{Q Q':α->List Sl->Prop}
@[simp]theorem HB{a:α}{ρ:List Sl}:(Res.ok a ρ).sat Q=Q a ρ:=rfl
@[simp]theorem Pk{k:Nat}{ρ:List Sl}:(Res.exc k ρ:Res α).sat Q=False:=rfl
@[simp]theorem JP:(Res.stuck:Res α).sat Q=False:=rfl
theorem aY{x:Res β}{f:β->List Sl->Res α}:(x.bind f).sat Q=x.sat λa ρ=>(f a ρ).sat Q:=by cases x<;>rfl
@[simp]theorem Oi{p:Prop}[Decidable p]{x y:Res α}:(if p then x else y).sat Q=((p->x.sat Q)/\(¬ p->y.sat Q)):=by by_cases h:p<;>simp[h]
@[simp]theorem yP{a:α}{ρ:List Sl}:(lift (some a) ρ).sat Q=Q a ρ:=rfl
@[simp]theorem yN{ρ:List Sl}:(lift (none:Option α) ρ).sat Q=False:=rfl
@[simp]theorem Am{p:Prop}[Decidable p]{a:α}{ρ:List Sl}:(lift (if p then some a else none) ρ).sat Q=(p/\Q a ρ):=by by_cases h:p<;>simp[h]
theorem Res.sat.imp{x:Res α}(h:x.sat Q)(k:∀a ρ,Q a ρ->Q' a ρ):x.sat Q':=by cases x with|ok a ρ=>exact k a ρ h|exc _ _=>exact h|stuck=>exact h
theorem sat_iff{x:Res α}:x.sat Q↔∃a ρ,x=.ok a ρ/\Q a ρ:=by cases x with|ok a ρ=>exact⟨λh=>⟨a,ρ,rfl,h⟩,λ⟨_,_,e,h⟩=>by cases e;exact h⟩|exc _ _=>exact⟨λh=>h.elim,λ⟨_,_,e,_⟩=>by cases e⟩|stuck=>exact⟨λh=>h.elim,λ⟨_,_,e,_⟩=>by cases e⟩
end
noncomputable def fr:Sl->Bool|.aC=>true|.val b _=>!b|.own b _=>!b|.lent _=>false|.oU _=>false|.oV _=>false|.hold _=>false
@[simp]theorem QH:fr .aC=true:=rfl
@[simp]theorem Tj{b:Bool}{d:D}:fr (.val b d)=!b:=rfl
@[simp]theorem Rv{b:Bool}{d:List D}:fr (.own b d)=!b:=rfl
@[simp]theorem PN{d:List D}:fr (.lent d)=false:=rfl
theorem Gw(ρ:List Sl)(i:Nat)(s:Sl):put ρ i s=match ρ[i]?with|some t=>if fr t=true then some (ρ.set i s)else none|none=>none:=by unfold put;cases h:ρ[i]?with|none=>rfl|some t=>cases t with|aC=>rfl|val b d=>cases b<;>rfl|own b d=>cases b<;>rfl|lent d=>rfl|oU m=>rfl|oV m=>rfl|hold m=>rfl
theorem yw{Γ:Tab}{w i:Nat}{d:Fd}{args:List Sl}(h:Γ i=some d):run Γ w (n+1) i args=enter (run Γ w n) w d args:=by rw[run,h]
noncomputable def fin(np:Nat):Fl->List Sl->Option (R×List Sl)|.next,ρ=>some (.val .non,ρ.take np)|.ret r,ρ=>some (r,ρ.take np)|_,_=>none
def eQ(np:Nat)(Q:R->List Sl->Prop)(fl:Fl)(ρ:List Sl):Prop:=match fl with|.next=>Q (.val .non) (ρ.take np)|.ret r=>Q r (ρ.take np)|_=>False
def sQ(c:Call)(n:Nat)(r:List S)(Q:Fl->List Sl->Prop)(fl:Fl)(ρ:List Sl):Prop:=match fl with|.next=>(fj c n r ρ).sat Q|fl=>Q fl ρ
def fQ(J:List Sl->Prop)(Q:Fl->List Sl->Prop)(fl:Fl)(ρ:List Sl):Prop:=match fl with|.next=>J ρ|.cont=>J ρ|.brk=>Q .next ρ|.ret v=>Q (.ret v) ρ
section
variable{np:Nat}{Q:R->List Sl->Prop}{ρ:List Sl}{v:R}{c:Call}{n:Nat}{r:List S}{Q':Fl->List Sl->Prop}{J:List Sl->Prop}
@[simp]theorem Ou:eQ np Q .next ρ=Q (.val .non) (ρ.take np):=rfl
@[simp]theorem RP:eQ np Q (.ret v) ρ=Q v (ρ.take np):=rfl
@[simp]theorem RL:eQ np Q .brk ρ=False:=rfl
@[simp]theorem Oe:eQ np Q .cont ρ=False:=rfl
@[simp]theorem Qh:sQ c n r Q' .next ρ=(fj c n r ρ).sat Q':=rfl
@[simp]theorem Th:sQ c n r Q' (.ret v) ρ=Q' (.ret v) ρ:=rfl
@[simp]theorem Sy:sQ c n r Q' .brk ρ=Q' .brk ρ:=rfl
@[simp]theorem Qa:sQ c n r Q' .cont ρ=Q' .cont ρ:=rfl
@[simp]theorem O9:fQ J Q' .next ρ=J ρ:=rfl
@[simp]theorem O1:fQ J Q' .cont ρ=J ρ:=rfl
@[simp]theorem Rk:fQ J Q' .brk ρ=Q' .next ρ:=rfl
@[simp]theorem Tw:fQ J Q' (.ret v) ρ=Q' (.ret v) ρ:=rfl
end
theorem vh{d:Fd}{args:List Sl}{Q:R->List Sl->Prop}(a:args.length=d.np)(hd:d.np<=d.nn)(h:(fj c n d.body (args++replicate (d.nn-d.np) .aC)).sat (eQ d.np Q)):(enter c n d args).sat Q:=by unfold enter;rw[if_pos ⟨a,hd⟩];revert h;cases fj c n d.body (args++replicate (d.nn-d.np) .aC)with|stuck=>exact λh=>False.elim h|exc _ _=>exact λh=>False.elim h|ok fl ρ=>cases fl<;>first|exact id|exact λh=>False.elim h
theorem aP{Γ:Tab}{w i:Nat}{d:Fd}{args:List Sl}{Q:R->List Sl->Prop}(a:Γ i=some d)(b:args.length=d.np)(hd:d.np<=d.nn)(h:(fj (run Γ w n) w d.body (args++replicate (d.nn-d.np) .aC)).sat (eQ d.np Q)):(run Γ w (n+1) i args).sat Q:=by rw[yw a];exact vh b hd h
theorem ak{s:S}{r:List S}{Q:Fl->List Sl->Prop}(h:(ex c n s ρ).sat (sQ c n r Q)):(fj c n (s::r) ρ).sat Q:=by rw[Pa,aY];refine h.imp λfl a q=>?_;cases fl<;>exact q
theorem vd{s:S}{r:List S}{Q:Fl->List Sl->Prop}(h:(ex c n s ρ).sat (sQ c n r Q)):sQ c n (s::r) Q .next ρ:=ak h
@[simp]theorem PB{c:Call}{n:Nat}{ρ:List Sl}{Q:Fl->List Sl->Prop}:(fj c n [] ρ).sat Q=Q .next ρ:=by rw[xs0];rfl
theorem Oa{s:S}{r:List S}{Q:Fl->List Sl->Prop}(M:List Sl->Prop)(h:(ex c n s ρ).sat λfl a=>fl=.next/\M a)(k:∀a,M a->(fj c n r a).sat Q):(fj c n (s::r) ρ).sat Q:=ak (h.imp λfl a⟨e,q⟩=>by subst e;exact k a q)
theorem gM{is:List Nat}{one:Bool}{body:List Sl->Res Fl}(J:List D->List Sl->Prop){Q:Fl->List Sl->Prop}(a:∀d r ρ,J (d::r) ρ->∃ρ1,bQ ρ is one d=some ρ1/\(body ρ1).sat (fQ (J r) Q))(b:∀ρ,J [] ρ->Q .next ρ):∀{ds:List D}{ρ:List Sl},J ds ρ->(jb is one body ds ρ).sat Q|[],ρ,j=>b ρ j|d::r,ρ,j=>by obtain⟨ρ1,e,h⟩:=a d r ρ j;rw[wI,e];show((body ρ1).bind _).sat Q;rw[aY];refine h.imp λfl f q=>?_;cases fl with|next=>exact gM J a b q|cont=>exact gM J a b q|brk=>exact q|ret v=>exact q
theorem ir{is:List Nat}{one:Bool}{a:List Sl->Res Bool}{o:Ev}(J:List Sl->Prop)(g:D->Option D){Q:List D->List Sl->Prop}:∀{ds f:List D}{ρ:List Sl},J ρ->(∀ d,d ∈ ds->∀ ρ,J ρ->∃ ρ1,bQ ρ is one d=some ρ1/\(a ρ1).sat λb i=>if b=true then(o i).sat λr p=>g d=some r.d/\J p else g d=none/\J i)->(∀ ρ,J ρ->Q (f++ds.filterMap g) ρ)->(turns is one a o ds f ρ).sat Q|[],f,ρ,j,h,k=>by rw[rM];simpa using k ρ j|d::r,f,ρ,j,h,k=>by obtain⟨ρ1,e,h1⟩:=h d (by simp) ρ j;rw[sG,e];show((a ρ1).bind _).sat Q;rw[aY];refine h1.imp λb i q=>?_;cases b with|true=>rw[if_pos rfl]at q;rw[if_pos rfl,aY];refine q.imp λx p⟨t,j3⟩=>?_;refine ir J g j3 (λd' l=>h d' (by simp[l])) λm s=>?_;have:=k m s;rw[filterMap_cons,t]at this;rw[List.append_assoc];exact this|false=>rw[if_neg (by simp)]at q;rw[if_neg (by simp)];refine ir J g q.2 (λd' l=>h d' (by simp[l])) λm s=>?_;have:=k m s;rw[filterMap_cons,q.1]at this;exact this
theorem rB{one:Bool}{a:Ev}(J:List Sl->Prop)(g:D->D){Q:List D->List Sl->Prop}(j:J ρ)(h:∀d,d∈ds->∀ρ,J ρ->∃ρ1,bQ ρ is one d=some ρ1/\(a ρ1).sat λr b=>g d=r.d/\J b)(k:∀ρ,J ρ->Q (ds.map g) ρ):(turns is one (jW c none) a ds [] ρ).sat Q:=ir J (λd=>some (g d)) j (λd hd ρ j=>by obtain⟨ρ1,e,h1⟩:=h d hd ρ j;refine⟨ρ1,e,?_⟩;rw[jW,HB,if_pos rfl];exact h1.imp λr b q=>⟨by rw[q.1],q.2⟩) λρ j=>by simpa using k ρ j
section
variable{ρ l:List Sl}{a:Sl}{i j:Int}{k m:Nat}{b b':Bool}{s:Str}{d:D}{ds es:List D}{e f:Ev}{x:Option Sl}{c:Call}
@[simp]theorem HQ:bA .int .non=false:=rfl
@[simp]theorem JL:bA .int (.bl b)=true:=rfl
@[simp]theorem Gg:bA .int (.int i)=true:=rfl
@[simp]theorem Ed:bA .int (.str s)=false:=rfl
@[simp]theorem HF:bA .int (.tup ds)=false:=rfl
@[simp]theorem Hv:bA .int (.lst ds)=false:=rfl
@[simp]theorem Dn:bA .bool .non=false:=rfl
@[simp]theorem G4:bA .bool (.bl b)=true:=rfl
@[simp]theorem BZ:bA .bool (.int i)=false:=rfl
@[simp]theorem Dp:bA .bool (.str s)=false:=rfl
@[simp]theorem CJ:bA .bool (.tup ds)=false:=rfl
@[simp]theorem CV:bA .bool (.lst ds)=false:=rfl
@[simp]theorem Ej:bA .str .non=false:=rfl
@[simp]theorem IW:bA .str (.bl b)=false:=rfl
@[simp]theorem Fe:bA .str (.int i)=false:=rfl
@[simp]theorem GX:bA .str (.str s)=true:=rfl
@[simp]theorem Gn:bA .str (.tup ds)=false:=rfl
@[simp]theorem FP:bA .str (.lst ds)=false:=rfl
@[simp]theorem By:bA .tuple .non=false:=rfl
@[simp]theorem Ca:bA .tuple (.bl b)=false:=rfl
@[simp]theorem zV:bA .tuple (.int i)=false:=rfl
@[simp]theorem zW:bA .tuple (.str s)=false:=rfl
@[simp]theorem Bj:bA .tuple (.tup ds)=true:=rfl
@[simp]theorem zN:bA .tuple (.lst ds)=false:=rfl
@[simp]theorem Ce:bA .list .non=false:=rfl
@[simp]theorem Gy:bA .list (.bl b)=false:=rfl
@[simp]theorem CT:bA .list (.int i)=false:=rfl
@[simp]theorem Cu:bA .list (.str s)=false:=rfl
@[simp]theorem Dk:bA .list (.tup ds)=false:=rfl
@[simp]theorem Cd:bA .list (.lst ds)=true:=rfl
@[simp]theorem Dh:bA .none .non=true:=rfl
@[simp]theorem Ez:bA .none (.bl b)=false:=rfl
@[simp]theorem Cj:bA .none (.int i)=false:=rfl
@[simp]theorem Ds:bA .none (.str s)=false:=rfl
@[simp]theorem Ck:bA .none (.tup ds)=false:=rfl
@[simp]theorem Dq:bA .none (.lst ds)=false:=rfl
@[simp]theorem JD:gO .non=true:=rfl
@[simp]theorem Mf:gO (.bl b)=false:=rfl
@[simp]theorem JF:gO (.int i)=false:=rfl
@[simp]theorem J4:gO (.str s)=false:=rfl
@[simp]theorem Ja:gO (.tup ds)=false:=rfl
@[simp]theorem JH:gO (.lst ds)=false:=rfl
@[simp]theorem Li:flat .non=true:=rfl
@[simp]theorem PL:flat (.bl b)=true:=rfl
@[simp]theorem yr:flat (.int i)=true:=rfl
@[simp]theorem Kw:flat (.str s)=true:=rfl
@[simp]theorem KC:flat (.tup ds)=false:=rfl
@[simp]theorem Lx:flat (.lst ds)=false:=rfl
@[simp]theorem R9:(R.val d).d=d:=rfl
@[simp]theorem Tn:(R.own ds).d=.lst ds:=rfl
@[simp]theorem KN:sE (.val d)=.val false d:=rfl
@[simp]theorem Ky:sE (.own ds)=.own false ds:=rfl
@[simp]theorem JW:m7 (.val d)=.dat d:=rfl
@[simp]theorem Jq:m7 (.own ds)=.tmp ds:=rfl
@[simp]theorem Oq:lZ (.int i)=some i:=rfl
@[simp]theorem R4:u6 (.bl b)=some b:=rfl
@[simp]theorem uX:items (.lst ds)=some ds:=rfl
@[simp]theorem IV:items (.tup ds)=some ds:=rfl
@[simp]theorem Gk:GR (.tup ds)=some ds:=rfl
@[simp]theorem Gp:qO (.lst ds)=some ds:=rfl
@[simp]theorem Pz:o5 .add=lR:=rfl
@[simp]theorem Og:o5 .sub=pC:=rfl
@[simp]theorem Oz:o5 .mul=kh:=rfl
@[simp]theorem LC:o5 .fdiv=j6:=rfl
@[simp]theorem Ob:o5 .mod=pM:=rfl
@[simp]theorem Qc:o5 .pow=pR:=rfl
@[simp]theorem Jz:lR (.int i) (.int j)=some (.val (.int (i+j))):=rfl
@[simp]theorem JR:lR (.lst ds) (.lst es)=if ds.length+es.length<=lim then some (.own (ds++es))else none:=rfl
@[simp]theorem Ji:lR (.tup ds) (.tup es)=if ds.length+es.length<=lim then some (.val (.tup (ds++es)))else none:=rfl
@[simp]theorem J0:pC (.int i) (.int j)=some (.val (.int (i-j))):=rfl
@[simp]theorem Jl:kh (.int i) (.int j)=if((-18446744073709551616<i/\i<18446744073709551616)\/(-18446744073709551616<j/\j<18446744073709551616))then some (.val (.int (i*j)))else none:=rfl
@[simp]theorem Hw:j6 (.int i) (.int j)=if 0<j/\j<1606938044258990275541962092341162602522202993782792835301376 then some (.val (.int (i/j)))else none:=rfl
@[simp]theorem Iw:pM (.int i) (.int j)=if 0<j then some (.val (.int (i%j)))else none:=rfl
@[simp]theorem JZ:pR (.int i) (.int j)=if 0<=j/\j<=1000/\i.natAbs<18446744073709551616 then some (.val (.int (i^j.toNat)))else none:=rfl
@[simp]theorem Ot:sH (.lst ds) (.int i)=(at' ds i).map .val:=rfl
@[simp]theorem Pr:sH (.tup ds) (.int i)=(at' ds i).map .val:=rfl
@[simp]theorem MP:wz (.int i)=some (.val (.int (-i))):=rfl
@[simp]theorem J9:cm .eq (.int i) (.int j)=some (i==j):=rfl
@[simp]theorem Jd:cm .ne (.int i) (.int j)=some (!(i==j)):=rfl
@[simp]theorem Km:cm .eq (.bl b) (.bl b')=some (b==b'):=rfl
@[simp]theorem K3:cm .ne (.bl b) (.bl b')=some (!(b==b')):=rfl
@[simp]theorem JQ:cm .lt (.int i) (.int j)=some (decide (i<j)):=rfl
@[simp]theorem Io:cm .le (.int i) (.int j)=some (decide (i<=j)):=rfl
@[simp]theorem Ir:cm .gt (.int i) (.int j)=some (decide (j<i)):=rfl
@[simp]theorem Jb:cm .ge (.int i) (.int j)=some (decide (j<=i)):=rfl
@[simp]theorem T5:cm .yS d .non=some (gO d):=rfl
@[simp]theorem OD:cm .yD d .non=some (!gO d):=rfl
@[simp]theorem CQ:blt .len [.lst ds]=some (.val (.int ds.length)):=rfl
@[simp]theorem Cw:blt .len [.tup ds]=some (.val (.int ds.length)):=rfl
@[simp]theorem zu:blt .list [.lst ds]=some (.own ds):=rfl
@[simp]theorem zL:blt .list [.tup ds]=some (.own ds):=rfl
@[simp]theorem yR:blt .tuple [.lst ds]=some (.val (.tup ds)):=rfl
@[simp]theorem yQ:blt .tuple [.tup ds]=some (.val (.tup ds)):=rfl
@[simp]theorem Nk:blt .max2 [.int i,.int j]=some (.val (.int (if i<j then j else i))):=rfl
@[simp]theorem O4:blt .all [.lst ds]=(ds.mapM u6).map λbs=>.val (.bl (bs.all id)):=rfl
@[simp]theorem J5:isVar (.var k)=some k:=rfl
@[simp]theorem Py:pk (a::l) k=match(a::l)[k]?with|some (.val _ d)=>some d|some (.own _ ds)=>some (.lst ds)|some (.lent ds)=>some (.lst ds)|_=>none:=rfl
@[simp]theorem Le:M5 (a::l) k=match pk (a::l) k with|some (.lst ds)=>some ds|_=>none:=rfl
@[simp]theorem KR:fU (some k) e ρ=lift (pk ρ k) ρ:=rfl
@[simp]theorem Mr:fU none e ρ=(e ρ).bind λr ρ=>.ok r.d ρ:=rfl
@[simp]theorem Jc{y:Option Nat}:gF (some k) e y f ρ=(lift (pk ρ k) ρ).bind λ_ ρ=>(fU y f ρ).bind λy ρ=>(lift (pk ρ k) ρ).bind λx ρ=>.ok (x,y) ρ:=rfl
@[simp]theorem Ju{y:Option Nat}:gF none e y f ρ=(fU none e ρ).bind λx ρ=>(fU y f ρ).bind λy ρ=>.ok (x,y) ρ:=rfl
@[simp]theorem J3{es:List D}:dj (.own b ds) (some (.own b' es))=.own b es:=rfl
@[simp]theorem Je:dj (.own b ds) (some (.val b' d))=.val b d:=rfl
@[simp]theorem wO:dj a none=a:=by cases a<;>rfl
@[simp]theorem vq:dj (.val b d) x=.val b d:=by cases x<;>rfl
@[simp]theorem Jj:dj .aC x=.aC:=by cases x<;>rfl
@[simp]theorem qW:dj (.lent ds) x=.lent ds:=by cases x<;>rfl
@[simp]theorem M8:bQ ρ [k] true d=put ρ k (.val false d):=rfl
@[simp]theorem JV{is:List Nat}:bQ ρ is false (.tup ds)=putAll ρ is ds:=by cases is<;>rfl
@[simp]theorem Gv:srcOf none e ρ=(e ρ).bind λr ρ=>lift (items r.d) ρ:=rfl
@[simp]theorem EY:srcOf (some k) e (a::l)=match(a::l)[k]?with|some (.val _ d)=>lift (items d) (a::l)|some (.own _ ds)=>.ok ds ((a::l).set k (.lent ds))|some (.lent ds)=>.ok ds (a::l)|_=>.stuck:=rfl
@[simp]theorem CG{g:List Sl}:bB g none ρ=ρ:=rfl
@[simp]theorem Di:bB (a::l) (some k) ρ=match(a::l)[k]?with|some (.own b ds)=>ρ.set k (.own b ds)|_=>ρ:=rfl
@[simp]theorem MF{s:Sl}:put (a::l) k s=match(a::l)[k]?with|some t=>if fr t=true then some ((a::l).set k s)else none|none=>none:=Gw ..
@[simp]theorem Ea:putAll ρ [] []=some ρ:=rfl
@[simp]theorem Cy{is:List Nat}:putAll ρ (k::is) (d::ds)=(put ρ k (.val false d)).bind λρ=>putAll ρ is ds:=rfl
end
@[simp]theorem at_0{a:Type}{b:a}{l:List a}:at' (b::l) 0=some b:=by unfold at' jt;rw[if_pos (by decide),if_pos (by simp only[length_cons];omega)];rfl
@[simp]theorem at_1{a:Type}{e b:a}{l:List a}:at' (e::b::l) 1=some b:=by unfold at' jt;rw[if_pos (by decide),if_pos (by simp only[length_cons];omega)];rfl
@[simp]theorem at_2{a:Type}{e f b:a}{l:List a}:at' (e::f::b::l) 2=some b:=by unfold at' jt;rw[if_pos (by decide),if_pos (by simp only[length_cons];omega)];rfl
@[simp]theorem at_3{a:Type}{e f g b:a}{l:List a}:at' (e::f::g::b::l) 3=some b:=by unfold at' jt;rw[if_pos (by decide),if_pos (by simp only[length_cons];omega)];rfl
@[simp]theorem at_4{a:Type}{e f g h b:a}{l:List a}:at' (e::f::g::h::b::l) 4=some b:=by unfold at' jt;rw[if_pos (by decide),if_pos (by simp only[length_cons];omega)];rfl
@[simp]theorem at_5{a:Type}{e f g h i b:a}{l:List a}:at' (e::f::g::h::i::b::l) 5=some b:=by unfold at' jt;rw[if_pos (by decide),if_pos (by simp only[length_cons];omega)];rfl
@[simp]theorem at_6{a:Type}{e f g h i j b:a}{l:List a}:at' (e::f::g::h::i::j::b::l) 6=some b:=by unfold at' jt;rw[if_pos (by decide),if_pos (by simp only[length_cons];omega)];rfl
@[simp]theorem at_7{a:Type}{e f g h i j k b:a}{l:List a}:at' (e::f::g::h::i::j::k::b::l) 7=some b:=by unfold at' jt;rw[if_pos (by decide),if_pos (by simp only[length_cons];omega)];rfl
theorem su{a:Type}{l:List a}{i:Int}(h:0<=i)(h':i<l.length):at' l i=l[i.toNat]?:=by unfold at' jt;rw[if_pos h,if_pos h'];rfl
theorem xU{a:Type}{l:List a}{k:Nat}(h':k<l.length):at' l (k:Int)=l[k]?:=by rw[su (by omega) (by omega)];simp
@[simp]theorem Jw{d:D}:isVar (.con d)=none:=rfl
@[simp]theorem Ib{x:Str}{d:D}:isVar (.glob x d)=none:=rfl
@[simp]theorem JM{o:Op}{p q:P}:isVar (.bin o p q)=none:=rfl
@[simp]theorem Jm{p:P}:isVar (.neg p)=none:=rfl
@[simp]theorem JG{p:P}:isVar (.not p)=none:=rfl
@[simp]theorem IK{p q:P}:isVar (.and p q)=none:=rfl
@[simp]theorem M7{p q:P}:isVar (.or p q)=none:=rfl
@[simp]theorem Jf{o:Cm}{p q:P}:isVar (.cmp o p q)=none:=rfl
@[simp]theorem Dr{o a:Cm}{p q r:P}:isVar (.chain o a p q r)=none:=rfl
@[simp]theorem J7{p q r:P}:isVar (.Dy p q r)=none:=rfl
@[simp]theorem Js{as:List P}:isVar (.tup as)=none:=rfl
@[simp]theorem Ip{as:List P}:isVar (.lst as)=none:=rfl
@[simp]theorem J1{p q:P}:isVar (.idx p q)=none:=rfl
@[simp]theorem CW{p q r:P}:isVar (.slice p q r)=none:=rfl
@[simp]theorem DN{f:Nat}{as:List P}:isVar (.call f as)=none:=rfl
@[simp]theorem J2{b:Ov}{as:List P}:isVar (.blt b as)=none:=rfl
@[simp]theorem Fq{a:List Ty}{p:P}:isVar (.inst a p)=none:=rfl
@[simp]theorem Ft{p e:P}{n:Nat}{is:List Nat}{one:Bool}{t:Option P}:isVar (.comp p n is one t e)=none:=rfl
@[simp]theorem Ka{p q:P}:isVar (.vH p q)=none:=rfl
@[simp]theorem Jv{p q:P}:isVar (.zip p q)=none:=rfl
noncomputable def iy(c:Call)(is:List Nat)(one:Bool)(a:Option P)(b:P)(ds:List D)(ρ:List Sl):Res (List D):=turns is one (jW c a) (ev c b) ds [] ρ
@[simp]theorem O7{c:Call}{src f:P}{n:Nat}{is:List Nat}{one:Bool}{b:Option P}{ρ:List Sl}:ev c (.comp src n is one b f) ρ=(srcOf (isVar src) (ev c src) ρ).bind λds a=>if ds.length<=lim then(iy c is one b f ds (a++replicate n .aC)).bind λxs e=>.ok (.own xs) (bB ρ (isVar src) (e.take a.length))else .stuck:=(rfl)
noncomputable def zZ(c:Call)(n:Nat)(t:P)(body:List S)(k:Nat)(ρ:List Sl):Res Fl:=rH (iK (ev c t)) (fj c n body) k ρ
theorem oh{b e h:Type}{x:Res e}{f:e->List Sl->Res b}{g:b->List Sl->Res h}:(x.bind f).bind g=x.bind λa ρ=>(f a ρ).bind g:=by cases x<;>rfl
@[simp]theorem Q3{Γ:Tab}{w n i:Nat}{args:List Sl}{b:Type}{f:R->List Sl->Res b}{Q:b->List Sl->Prop}:((run Γ w n i args).bind f).sat Q=(run Γ w n i args).sat λa ρ=>(f a ρ).sat Q:=aY
@[simp]theorem Ro{Γ:Tab}{w n i:Nat}{args:List Sl}{b e:Type}{f:R->List Sl->Res b}{g:b->List Sl->Res e}:((run Γ w n i args).bind f).bind g=(run Γ w n i args).bind λa ρ=>(f a ρ).bind g:=oh
@[simp]theorem Qi{c:Call}{is:List Nat}{one:Bool}{b:Option P}{e:P}{ds:List D}{ρ:List Sl}{g:Type}{f:List D->List Sl->Res g}{Q:g->List Sl->Prop}:((iy c is one b e ds ρ).bind f).sat Q=(iy c is one b e ds ρ).sat λa ρ=>(f a ρ).sat Q:=aY
@[simp]theorem Pq{c:Call}{is:List Nat}{one:Bool}{b:Option P}{e:P}{ds:List D}{ρ:List Sl}{h i:Type}{f:List D->List Sl->Res h}{g:h->List Sl->Res i}:((iy c is one b e ds ρ).bind f).bind g=(iy c is one b e ds ρ).bind λa ρ=>(f a ρ).bind g:=oh
@[simp]theorem Q8{is:List Nat}{one:Bool}{b:List Sl->Res Fl}{ds:List D}{ρ:List Sl}{e:Type}{f:Fl->List Sl->Res e}{Q:e->List Sl->Prop}:((jb is one b ds ρ).bind f).sat Q=(jb is one b ds ρ).sat λa ρ=>(f a ρ).sat Q:=aY
@[simp]theorem PQ{b e:Type}{p:Prop}[Decidable p]{a:e}{ρ:List Sl}{f:e->List Sl->Res b}{Q:b->List Sl->Prop}:((lift (if p then some a else none) ρ).bind f).sat Q=(p/\(f a ρ).sat Q):=by by_cases h:p<;>simp[h,lift,Res.bind]
@[simp]theorem Qj{b e h:Type}{p:Prop}[Decidable p]{a:e}{ρ:List Sl}{f:e->List Sl->Res b}{g:b->List Sl->Res h}:((lift (if p then some a else none) ρ).bind f).bind g=(lift (if p then some a else none) ρ).bind λa ρ=>(f a ρ).bind g:=oh
@[simp]theorem bb_ite{b a:Type}{p:Prop}[Decidable p]{x y:Res a}{f:a->List Sl->Res b}:(if p then x else y).bind f=if p then x.bind f else y.bind f:=by by_cases h:p<;>simp[h]
@[simp]theorem Q9{c:Call}{n k:Nat}{t:P}{b:List S}{ρ:List Sl}{e:Type}{f:Fl->List Sl->Res e}{Q:e->List Sl->Prop}:((zZ c n t b k ρ).bind f).sat Q=(zZ c n t b k ρ).sat λa ρ=>(f a ρ).sat Q:=aY
@[simp]theorem RV{b e:Type}{a:b}{ρ:List Sl}{f:b->List Sl->Res e}:(Res.ok a ρ).bind f=f a ρ:=rfl
@[simp]theorem Jp{a b:Type}{f:a->List Sl->Res b}:(Res.stuck:Res a).bind f=.stuck:=rfl
@[simp]theorem Ms{b:Type}{a:b}{ρ:List Sl}:lift (some a) ρ=.ok a ρ:=rfl
@[simp]theorem Nq{a:Type}{ρ:List Sl}:lift (none:Option a) ρ=.stuck:=rfl
noncomputable def vD:List Sl->Nat->Sl->List Sl|[],_,_=>[]|t::ρ,0,s=>dj t (some s)::ρ|t::ρ,k+1,s=>t::vD ρ k s
theorem kY{k:Nat}{s:Sl}:vD [] k s=[]:=rfl
theorem lC{t:Sl}{ρ:List Sl}{s:Sl}:vD (t::ρ) 0 s=dj t (some s)::ρ:=rfl
theorem kO{t:Sl}{ρ:List Sl}{k:Nat}{s:Sl}:vD (t::ρ) (k+1) s=t::vD ρ k s:=rfl
noncomputable def bk:List Arg->List Sl->List Sl->List Sl|.dq k::as,s::ss,ρ=>bk as ss (vD ρ k s)|.dat _::as,_::ss,ρ=>bk as ss ρ|.tmp _::as,_::ss,ρ=>bk as ss ρ|_,_,ρ=>ρ
section
variable{t s:Sl}{ρ ss:List Sl}{k:Nat}{as:List Arg}{d:D}{ds:List D}
@[simp]theorem Vb:vD (t::ρ) 0 s=dj t (some s)::ρ:=rfl
@[simp]theorem Vz:vD (t::ρ) (k+1) s=t::vD ρ k s:=rfl
@[simp]theorem GZ:bk (.dq k::as) (s::ss) ρ=bk as ss (vD ρ k s):=rfl
@[simp]theorem Et:bk (.dat d::as) (s::ss) ρ=bk as ss ρ:=rfl
@[simp]theorem Hc:bk (.tmp ds::as) (s::ss) ρ=bk as ss ρ:=rfl
@[simp]theorem Q6:bk [] ss ρ=ρ:=rfl
end
theorem rO{s:Sl}:∀{ρ:List Sl}{k j:Nat},(vD ρ k s)[j]?=(ρ[j]?).map λt=>if j=k then dj t (some s)else t|[],_,_=>by simp[kY,lC,kO]|t::ρ,0,0=>by simp[kY,lC,kO]|t::ρ,0,j+1=>by simp[kY,lC,kO]|t::ρ,k+1,0=>by simp[kY,lC,kO]|t::ρ,k+1,j+1=>by have:=rO (s:=s) (ρ:=ρ) (k:=k) (j:=j);simp only[kY,lC,kO,List.getElem?_cons_succ,this];congr 1;funext t;simp
theorem o7{as:List Arg}{ss:List Sl}:∀{ρ:List Sl}{i j:Nat},(cT as ss i ρ)[j]?=(ρ[j]?).map λt=>dj t (aK (i+j) as ss)|[],_,_=>by simp[lr,iD]|t::ρ,i,0=>by simp[lr,iD]|t::ρ,i,j+1=>by have:=o7 (as:=as) (ss:=ss) (ρ:=ρ) (i:=i+1) (j:=j);simp only[lr,iD,List.getElem?_cons_succ,this];rw[show i+1+j=i+(j+1)by omega]
def Vc(t:Sl):Prop:=∀x,dj t x=t
def DX(ρ:List Sl):List Arg->Prop|[]=>True|.dq k::as=>(Arg.dq k∈as->∀t,ρ[k]?=some t->Vc t)/\DX ρ as|_::as=>DX ρ as
theorem jU{ρ:List Sl}:∀{as:List Arg}{a:List Sl},DX ρ as->(∀k,Arg.dq k∈as->∀t,a[k]?=some t->ρ[k]?=some t\/Vc t)->DX a as
 |[],_,_,_=>trivial|.dq k::as,a,h,g=>⟨λf t i=>by
  rcases g k (by simp) t i with e|e;.exact h.1 f t e
  .exact e,jU h.2 λj b=>g j (by simp[b])⟩|.dat _::as,a,h,g=>jU (as:=as) h λj b=>g j (by simp[b])|.tmp _::as,a,h,g=>jU (as:=as) h λj b=>g j (by simp[b])
theorem jm{k:Nat}:∀{as:List Arg}{ss:List Sl},Arg.dq k∉as->aK k as ss=none|[],_,_=>by unfold aK;rfl|.dq j::as,[],_=>rfl|.dat _::as,[],_=>rfl|.tmp _::as,[],_=>rfl|.dq j::as,s::ss,h=>by simp only[mem_cons,Arg.dq.injEq,not_or]at h;rw[aK,if_neg (λe=>h.1 e.symm),jm h.2]|.dat _::as,s::ss,h=>by simp only[mem_cons,not_or]at h;rw[aK,jm h.2]|.tmp _::as,s::ss,h=>by simp only[mem_cons,not_or]at h;rw[aK,jm h.2]
theorem tY:∀{as:List Arg}{ss ρ:List Sl},DX ρ as->∀j,(bk as ss ρ)[j]?=(ρ[j]?).map λt=>dj t (aK j as ss)
 |[],ss,ρ,_,j=>by cases ss<;>simp[aK]|.dq k::as,[],ρ,_,j=>by rw[show bk (.dq k::as) [] ρ=ρ from rfl];simp[aK]|.dat d::as,[],ρ,_,j=>by rw[show bk (.dat d::as) [] ρ=ρ from rfl];simp[aK]|.tmp d::as,[],ρ,_,j=>by rw[show bk (.tmp d::as) [] ρ=ρ from rfl];simp[aK]|.dat _::as,s::ss,ρ,h,j=>by rw[Et,aK];exact tY (as:=as) h j|.tmp _::as,s::ss,ρ,h,j=>by rw[Hc,aK];exact tY (as:=as) h j|.dq k::as,s::ss,ρ,h,j=>by
   have f:DX (vD ρ k s) as:=jU h.2 λi hi t a=>by rw[rO]at a;cases e:ρ[i]?with|none=>rw[e]at a;cases a|some t0=>
      rw[e]at a;by_cases c:i=k;.subst c;have hs:=h.1 hi t0 e;simp[hs (some s)]at a;exact .inl (by rw[a])
      .simp[c]at a;exact .inl (by rw[a])
   rw[GZ,tY f j,rO,aK];cases e:ρ[j]?with|none=>rfl|some t0=>
     simp only[Option.map_some];by_cases c:j=k
     . subst c;rw[if_pos rfl,if_pos rfl];by_cases b:Arg.dq j∈as;.have hs:=h.1 b t0 e;rw[hs (some s),hs]
       .rw[jm b,wO]
     .rw[if_neg c,if_neg (λz=>c z.symm)]
theorem dO{ρ:List Sl}{k:Nat}{b:Bool}{ds:List D}(e:ρ[k]?=some (.own b ds)):∀{as:List Arg}{u:List Nat}{r:List Sl},k∈u->bF ρ as u=some r->Arg.dq k∉as
 |[],_,_,_,_=>by simp|.dat _::as,u,r,a,h=>by simp only[qX,qQ,rA,kW,map_eq_some_iff]at h;obtain⟨f,h,_⟩:=h;simp[dO e a h]|.tmp _::as,u,r,a,h=>by simp only[qX,qQ,rA,kW,map_eq_some_iff]at h;obtain⟨f,h,_⟩:=h;simp[dO e a h]|.dq i::as,u,r,a,h=>by
   rw[kW]at h;have hi:i≠k:=by rintro rfl;rw[e]at h;simp[a]at h
   have:Arg.dq k∉as:=by
    split at h;.obtain⟨f,h,_⟩:=map_eq_some_iff.mp h;exact dO e a h
    . split at h;.cases h
      .obtain⟨f,h,_⟩:=map_eq_some_iff.mp h;exact dO e (by simp[a]) h
    . split at h;.cases h
      .obtain⟨f,h,_⟩:=map_eq_some_iff.mp h;exact dO e (by simp[a]) h
    .cases h
   simp[this];exact λz=>hi z.symm
theorem dM{ρ:List Sl}:∀{as:List Arg}{u:List Nat}{r:List Sl},bF ρ as u=some r->DX ρ as
 |[],_,_,_=>trivial|.dat _::as,u,r,h=>by obtain⟨e,h,_⟩:=map_eq_some_iff.mp h;exact dM (as:=as) h|.tmp _::as,u,r,h=>by obtain⟨e,h,_⟩:=map_eq_some_iff.mp h;exact dM (as:=as) h|.dq i::as,u,r,h=>by
   rw[kW]at h;split at h;.rename_i b d q;obtain⟨e,h,_⟩:=map_eq_some_iff.mp h;exact⟨λ_ t a=>by rw[q]at a;cases a;exact λx=>vq,dM h⟩
   . rename_i b ds q;split at h;.cases h
     .obtain⟨e,h,_⟩:=map_eq_some_iff.mp h;exact⟨λf=>absurd f (dO q (by simp) h),dM h⟩
   . rename_i ds q;split at h;.cases h
     .obtain⟨e,h,_⟩:=map_eq_some_iff.mp h;exact⟨λ_ t a=>by rw[q]at a;cases a;exact λx=>qW,dM h⟩
   .cases h
theorem LR{as:List Arg}{ss r:List Sl}{u:List Nat}(h:bF ρ as u=some r):cT as ss 0 ρ=bk as ss ρ:=by apply List.ext_getElem?;intro j;rw[o7,tY (dM h),Nat.zero_add]
@[simp]theorem Iu{c:Call}{k:Nat}{as:List Arg}{ρ:List Sl}:j7 c k as ρ=match bF ρ as []with|none=>.stuck|some args=>(c k args).bind λr a=>.ok r (bk as a ρ):=by unfold j7;cases e:bF ρ as []with|none=>rfl|some args=>simp only[<-LR (r:=args) e];cases c k args<;>rfl
theorem aV{one:Bool}{a:P}(J:List Sl->Prop)(g:D->D){Q:List D->List Sl->Prop}(j:J ρ)(h:∀d,d∈ds->∀ρ,J ρ->∃ρ1,bQ ρ is one d=some ρ1/\(ev c a ρ1).sat λr b=>g d=r.d/\J b)(k:∀ρ,J ρ->Q (ds.map g) ρ):(iy c is one none a ds ρ).sat Q:=rB J g j h k
theorem JX{one:Bool}{f t:P}(J:List Sl->Prop)(g:D->Option D){Q:List D->List Sl->Prop}(j:J ρ)(h:∀d,d∈ds->∀ρ,J ρ->∃ρ1,bQ ρ is one d=some ρ1/\(ev c t ρ1).sat λr a=>∃b,r.d=.bl b/\if b=true then(ev c f a).sat λr i=>g d=some r.d/\J i else g d=none/\J a)(k:∀ρ,J ρ->Q (ds.filterMap g) ρ):(iy c is one (some t) f ds ρ).sat Q:=ir J g j (λd hd ρ j=>by obtain⟨ρ1,e,h1⟩:=h d hd ρ j;refine⟨ρ1,e,?_⟩;rw[jW,iK,aY];refine h1.imp λr a⟨b,e,q⟩=>?_;rw[e];exact q) λρ j=>by simpa using k ρ j
theorem qj{c:Call}{n:Nat}{t:P}{body:List S}(J:Nat->List Sl->Prop){Q:Fl->List Sl->Prop}(h:∀m ρ,J m ρ->(ev c t ρ).sat λr ρ1=>∃b,r.d=.bl b/\if b=true then(fj c n body ρ1).sat (fQ (λa=>∃f,f<m/\J f a) Q)else Q .next ρ1):∀{k m:Nat}{ρ:List Sl},m<k->J m ρ->(zZ c n t body k ρ).sat Q|0,m,ρ,g,_=>absurd g (Nat.not_lt_zero _)|k+1,m,ρ,g,j=>by unfold zZ;rw[Eb,aY,iK,aY];refine(h m ρ j).imp λr ρ1⟨b,e,q⟩=>?_;rw[e];show(if b=true then _ else _:Res Fl).sat Q;cases b with|false=>rw[if_neg (by simp)]at q;rw[if_neg (by simp)];exact q|true=>rw[if_pos rfl]at q;rw[if_pos rfl,aY];refine q.imp λfl a q=>?_;cases fl with|next=>obtain⟨f,i,l⟩:=q;exact qj J h (lt_of_lt_of_le i (Nat.lt_succ_iff.mp g)) l|cont=>obtain⟨f,i,l⟩:=q;exact qj J h (lt_of_lt_of_le i (Nat.lt_succ_iff.mp g)) l|brk=>exact q|ret v=>exact q
@[simp]theorem Vx:type_of%@HH.E1:=@HH.E1
@[simp]theorem Vi:type_of%@HH.E2:=@HH.E2
@[simp]theorem Vk:type_of%@HH.E3:=@HH.E3
@[simp]theorem Vr:type_of%@HH.E4:=@HH.E4
@[simp]theorem VF:type_of%@HH.E5:=@HH.E5
@[simp]theorem VD:type_of%@HH.E6:=@HH.E6
@[simp]theorem Vn:type_of%@HH.E7:=@HH.E7
@[simp]theorem Vf:type_of%@HH.E8:=@HH.E8
@[simp]theorem VH:type_of%@HH.E9:=@HH.E9
@[simp]theorem QT:type_of%@HH.E10:=@HH.E10
@[simp]theorem TY:type_of%@HH.E11:=@HH.E11
@[simp]theorem QG:type_of%@HH.E12:=@HH.E12
@[simp]theorem Tc:type_of%@HH.E13:=@HH.E13
@[simp]theorem QB:type_of%@HH.E14:=@HH.E14
@[simp]theorem RM:type_of%@HH.E15:=@HH.E15
@[simp]theorem R1:type_of%@HH.E16:=@HH.E16
@[simp]theorem Te:type_of%@HH.E17:=@HH.E17
@[simp]theorem Rb:type_of%@HH.E18:=@HH.E18
@[simp]theorem O3:type_of%@HH.Lj:=@HH.Lj
@[simp]theorem Q7:type_of%@HH.E19:=@HH.E19
@[simp]theorem R3:type_of%@HH.E20:=@HH.E20
@[simp]theorem TF:type_of%@HH.E21:=@HH.E21
@[simp]theorem Sv:type_of%@HH.E22:=@HH.E22
@[simp]theorem VJ:type_of%@HH.X1:=@HH.X1
@[simp]theorem Vd:type_of%@HH.X2:=@HH.X2
@[simp]theorem Vm:type_of%@HH.X3:=@HH.X3
@[simp]theorem VM:type_of%@HH.X4:=@HH.X4
@[simp]theorem VB:type_of%@HH.X5:=@HH.X5
@[simp]theorem Vj:type_of%@HH.X6:=@HH.X6
@[simp]theorem Va:type_of%@HH.X7:=@HH.X7
@[simp]theorem Rt:type_of%@HH.X8:=@HH.X8
@[simp]theorem SJ:type_of%@HH.X9:=@HH.X9
@[simp]theorem Ri:type_of%@HH.VR:=@HH.VR
@[simp]theorem TJ:type_of%@HH.RQ:=@HH.RQ
@[simp]theorem Rc:type_of%@HH.RZ:=@HH.RZ
@[simp]theorem S7:type_of%@HH.iK.eq_1:=@HH.iK.eq_1
@[simp]theorem Sw:type_of%@HH.evs.eq_1:=@HH.evs.eq_1
@[simp]theorem QK:type_of%@HH.evs.eq_2:=@HH.evs.eq_2
@[simp]theorem Rm:type_of%@HH.rN.eq_1:=@HH.rN.eq_1
@[simp]theorem Tr:type_of%@HH.rN.eq_2:=@HH.rN.eq_2
@[simp]theorem T3:type_of%@HH.jW.eq_1:=@HH.jW.eq_1
@[simp]theorem Rz:type_of%@HH.jW.eq_2:=@HH.jW.eq_2
@[simp]theorem Sd:type_of%@HH.mC.eq_1:=@HH.mC.eq_1
@[simp]theorem Ld:type_of%@HH.bF.eq_1:=@HH.bF.eq_1
@[simp]theorem K9:type_of%@HH.bF.eq_2:=@HH.bF.eq_2
@[simp]theorem Ko:type_of%@HH.bF.eq_3:=@HH.bF.eq_3
@[simp]theorem KY:type_of%@HH.bF.eq_4:=@HH.bF.eq_4
@[simp]theorem Mg:type_of%@HH.cT.eq_1:=@HH.cT.eq_1
@[simp]theorem K6:type_of%@HH.cT.eq_2:=@HH.cT.eq_2
@[simp]theorem Mp:type_of%@HH.aK.eq_1:=@HH.aK.eq_1
@[simp]theorem Nm:type_of%@HH.aK.eq_2:=@HH.aK.eq_2
@[simp]theorem Lf:type_of%@HH.aK.eq_3:=@HH.aK.eq_3
@[simp]theorem Ma:type_of%@HH.aK.eq_4:=@HH.aK.eq_4
end HH
end
section
namespace HH
open PySem L2 PySem.Spec PyProof.Rows
section
variable{X:Cx}{c:Call}{a b:Expr}{pa pb:P}{pos:Pos}
theorem lM{K:PySem.W.Frag}{F:Hp}:∀{ns:List Int}{ys:List V},az K F ys (ns.map D.int)->ys=ns.map V.int|[],ys,h=>by rw[h.fC];rfl|n::ns,ys,h=>by obtain⟨v,r,rfl,h1,t⟩:=h.bT;rw[Rep]at h1;rw[h1,lM t];rfl
end
end HH
end
section
namespace HH
open PySem
section
variable{i j:Int}{ds es:List D}{d:D}{b b':Bool}
@[simp]theorem PJ:o5 .shl=vI:=rfl
@[simp]theorem P0:o5 .shr=wQ:=rfl
@[simp]theorem K1:o5 .band=qT:=rfl
@[simp]theorem Iz:vI (.int i) (.int j)=if 0<=j/\j<=1000/\i.natAbs<18446744073709551616 then some (.val (.int (i*2^j.toNat)))else none:=rfl
@[simp]theorem JN:wQ (.int i) (.int j)=if 0<=j then some (.val (.int (i/2^j.toNat)))else none:=rfl
@[simp]theorem Gi:qT (.int i) (.int j)=some (.val (.int (Builtin.bitAnd i j))):=rfl
@[simp]theorem Jg:kh (.lst ds) (.int i)=if 0<=i/\0<ds.length/\ds.length*i.toNat<=lim then some (.own (replicate i.toNat ds).flatten)else none:=rfl
@[simp]theorem Jt:kh (.tup ds) (.int i)=if 0<=i/\0<ds.length/\ds.length*i.toNat<=lim then some (.val (.tup (replicate i.toNat ds).flatten))else none:=rfl
@[simp]theorem Rx:cm .V7 (.bl b) (.bl true)=some b:=rfl
@[simp]theorem Pn:cm .Nz (.bl b) (.bl true)=some (!b):=rfl
@[simp]theorem O2:blt .sum [.lst ds]=(ds.mapM lZ).map λns=>.val (.int ns.sum):=rfl
end
theorem yg{ns:List Int}:(ns.map D.int).mapM lZ=some ns:=by induction ns with|nil=>rfl|cons n ns a=>simp[a]
@[simp]theorem Jy{ns:List Int}:ns.mapM (lZ ∘ D.int)=some ns:=by rw[<-yg (ns:=ns),List.mapM_map]
@[simp]theorem Mj{bs:List Bool}:bs.mapM (u6 ∘ D.bl)=some bs:=by induction bs with|nil=>rfl|cons b bs a=>simp[a]
theorem Bx{S:List Int}{i:Int}:((S.map D.int).any λy=>fY y (.int i))=S.contains i:=by induction S with|nil=>rfl|cons s S a=>rw[map_cons,any_cons,List.contains_cons,a,Vs];rw[show(s==i)=(i==s)from Bool.eq_iff_iff.mpr ⟨λh=>by simp at h ⊢;exact h.symm,λh=>by simp at h ⊢;exact h.symm⟩]
theorem wW{S:List Int}:(S.map D.int).all flat=true:=by rw[all_eq_true];intro d hd;obtain⟨i,_,rfl⟩:=mem_map.mp hd;rfl
theorem Q5{S:List Int}{i:Int}:cm .inn (.int i) (.lst (S.map D.int))=some (S.contains i):=by show Be false _ _=_;unfold Be;simp only[uX,bind_some,yr,wW,Bool.and_true,Bx];rfl
theorem jX{n:Nat}{S:List Int}:eV (n+1) (.lst (S.map D.int))=true:=by rw[aW,all_eq_true];intro d hd;obtain⟨i,_,rfl⟩:=mem_map.mp hd;cases n<;>rfl
theorem lK:∀{S T:List Int},gk (S.map D.int) (T.map D.int)=(S==T)|[],[]=>by simp[iJ,gh,lF,kJ]|[],_::_=>by simp[iJ,gh,lF,kJ]|_::_,[]=>by simp[iJ,gh,lF,kJ]|s::S,t::T=>by rw[map_cons,map_cons,gh,lK,Vs];rfl
theorem zq{S T:List Int}:cm .eq (.lst (S.map D.int)) (.lst (T.map D.int))=some (S==T):=by show v7 _ _=_;unfold v7;rw[jX,jX,Qe,lK];rfl
theorem OJ{S T:List Int}:cm .ne (.lst (S.map D.int)) (.lst (T.map D.int))=some (!(S==T)):=by show vL _ _=_;unfold vL;rw[jX,jX,Qe,lK];rfl
theorem Ow{S:List Int}:cm .eq (.lst (S.map D.int)) (.lst [])=some S.isEmpty:=by rw[show(.lst []:D)=.lst (([]:List Int).map D.int)from rfl,zq];cases S<;>rfl
theorem Ao{a:Type}{l:List a}{x:a}:at' (l++[x]) (-1)=some x:=by
 unfold at' jt;rw[if_neg (by decide),if_pos (by simp only[length_append,List.length_singleton];omega)];have:(-1+((l++[x]).length:Int)).toNat=l.length:=by simp only[length_append,List.length_singleton];omega
 rw[this];simp
theorem Tv{a:Type}{l:List a}{f:a->D}{k:Nat}{x:a}(h:l[k]?=some x):at' (l.map f) (k:Int)=some (f x):=by have b:=(gw h).1;rw[xU (by simpa using b),getElem?_map,h];rfl
theorem RX{n k:Nat}(h:k<n):jt n (k:Int)=some k:=by unfold jt;rw[if_pos (by omega),if_pos (by omega)];simp
theorem pY{b:List Nat}{one:Bool}{body:List Sl->Res Fl}{g:Nat->D}{N:Nat}(J:Nat->List Sl->Prop){Q:Fl->List Sl->Prop}(c:∀i ρ,i<N->J i ρ->∃ρ1,bQ ρ b one (g i)=some ρ1/\(body ρ1).sat (fQ (J (i+1)) Q))(f:∀ρ,J N ρ->Q .next ρ){ρ:List Sl}(h0:J 0 ρ):(jb b one body ((List.range N).map g) ρ).sat Q:=by
 refine gM (λr ρ=>∃i,i<=N/\r=((List.range N).map g).drop i/\J i ρ) ?_ ?_ ⟨0,Jo,rfl,h0⟩
 . rintro d r ρ⟨i,hi,e,j⟩;have a:i<N:=by
    rcases Nat.lt_or_ge i N with h|h;.exact h
    .rw[List.drop_eq_nil_of_le (by simpa using h)]at e;cases e
   rw[List.drop_eq_getElem_cons (by simpa using a)]at e;injection e with e1 e2;simp at e1;subst e1;obtain⟨ρ1,h1,k⟩:=c i ρ a j;refine⟨ρ1,h1,k.imp λfl l q=>?_⟩;cases fl with|next=>exact⟨i+1,a,e2,q⟩|cont=>exact⟨i+1,a,e2,q⟩|brk=>exact q|ret v=>exact q
 . rintro ρ⟨i,hi,e,j⟩;have:i=N:=by have m:=congrArg List.length e;simp at m;omega
   subst this;exact f ρ j
theorem JS{c:Call}{o:List Nat}{one:Bool}{l:P}{t:Option P}(J:List Sl->Prop)(P:D->Prop){Q:List D->List Sl->Prop}{i:List D}{ρ:List Sl}(j:J ρ)(h:∀d,d∈i->∀ρ,J ρ->∃ρ1,bQ ρ o one d=some ρ1/\(jW c t ρ1).sat λb a=>if b=true then(ev c l a).sat λr g=>P r.d/\J g else J a)(k:∀xs ρ,J ρ->xs.length<=i.length->(∀x∈xs,P x)->Q xs ρ):(iy c o one t l i ρ).sat Q:=by suffices hh:∀(i:List D)(f:List D)(ρ:List Sl),J ρ->(∀x∈f,P x)->(∀d,d∈i->∀ρ,J ρ->∃ρ1,bQ ρ o one d=some ρ1/\(jW c t ρ1).sat λb a=>if b=true then(ev c l a).sat λr g=>P r.d/\J g else J a)->(turns o one (jW c t) (ev c l) i f ρ).sat λxs ρ=>J ρ/\(∀x∈xs,P x)/\xs.length<=f.length+i.length from(hh i [] ρ j (by simp) h).imp λxs ρ⟨n,q2,q3⟩=>k xs ρ n (by simpa using q3) q2;intro i;induction i with|nil=>intro f ρ j s _;rw[rM];exact⟨j,s,by simp⟩|cons d r u=>
   intro f ρ j s h;obtain⟨ρ1,e,h1⟩:=h d (by simp) ρ j;rw[sG,e];show((jW c t ρ1).bind _).sat _;rw[aY];refine h1.imp λb a q=>?_
   cases b with|true=>
     rw[if_pos rfl]at q;rw[if_pos rfl,aY];refine q.imp λx g⟨p,j3⟩=>?_;refine(u (f++[x.d]) g j3 (λy hy=>?_) λd' m=>h d' (by simp[m])).imp λxs ρ⟨n,q2,q3⟩=>⟨n,q2,by simp at q3 ⊢;omega⟩;rcases mem_append.mp hy with hy|hy;.exact s y hy
     .rw[mem_singleton.mp hy];exact p|false=>rw[if_neg (by simp)]at q;rw[if_neg (by simp)];exact(u f a q s λd' m=>h d' (by simp[m])).imp λxs ρ⟨n,q2,q3⟩=>⟨n,q2,by simp at q3 ⊢;omega⟩
inductive A3(a b c:Prop):Prop where|mk(ha:a)(hb:b)(hc:c)
inductive A4(a b c d:Prop):Prop where|mk(ha:a)(hb:b)(hc:c)(hd:d)
inductive A5(a b c d e:Prop):Prop where|mk(ha:a)(hb:b)(hc:c)(hd:d)(he:e)
inductive A6(a b c d e f:Prop):Prop where|mk(ha:a)(hb:b)(hc:c)(hd:d)(he:e)(hf:f)
inductive A7(a b c d e f g:Prop):Prop where|mk(ha:a)(hb:b)(hc:c)(hd:d)(he:e)(hf:f)(hg:g)
inductive A8(a b c d e f g h:Prop):Prop where|mk(ha:a)(hb:b)(hc:c)(hd:d)(he:e)(hf:f)(hg:g)(hh:h)
inductive A9(a b c d e f g h i:Prop):Prop where|mk(ha:a)(hb:b)(hc:c)(hd:d)(he:e)(hf:f)(hg:g)(hh:h)(hi:i)
end HH
end
section
namespace HT
open PySem PySem.Spec PyProof.Rows
section
variable{prog:Program}{w:World}{A:Around}{E:Value->Shared->Prop}{s:Shared}
theorem qt{t c:Addr}{a:Array Value}{vl g:Value}{lo hi:Option Int}{Q:Value->Shared->Prop}(b:IsTup s.heap t a)(hs:s.heap.IsSliceOf c vl g .none)(i:IsPart vl lo)(j:IsPart g hi)(h1:cH a.size 0 lo=0)(k:cH a.size a.size hi=a.size)(h:Q (.ref t) s):wpAny (model prog w) A (getItem (.ref t) (.ref c)) Q E s:=by
 obtain⟨os,e,f,l⟩:=id hs;have m:s.TypeIs (.ref c) "slice":=⟨os,e,f⟩;unfold getItem;try with_reducible refine wpAny_holding ?_
 first|refine wpAny_bind (wpAny_pure ?_)|skip
 refine wpAny_bind (wpAny_sequenceKey b.typeIs (by decide) (wpAny_bind (wpAny_callSpecial?_slot (name:=Str.ofString "__getitem__") b.typeIs slot_tuple_getitem (wpAny_call_entry slot_tuple_getitem b.typeIs entry_tuple_getitem ?_ (args_tuple_getitem _ _)))));show wpAny _ _ (tupleItemsOf (.ref t)>>=_) _ _ s;refine wpAny_bind (tupleItemsOf_ b (wpAny_bind (wpAny_typeOf m ?_)));rw[if_pos (by decide)];refine wpAny_bind (fW hs i j ?_);have n:((((cH a.size 0 lo:Nat):Int)==0&&(1:Int)==1&&(cH a.size a.size hi-cH a.size 0 lo)==a.size)=true):=by rw[h1,k];simp
 show wpAny _ _ (if(((cH a.size 0 lo:Nat):Int)==0&&(1:Int)==1&&(cH a.size a.size hi-cH a.size 0 lo)==a.size)=true then _ else _) _ _ s;rw[if_pos n];unfold Builtin.Tuple.tupleIsExact;refine wpAny_bind (wpAny_bind (wpAny_typeOf b.typeIs (wpAny_pure ?_)));rw[if_pos (by decide)];exact wpAny_bind (wpAny_rule (wpAny_pure ⟨_,rfl,wpAny_pure h⟩))
end
end HT
namespace HH
open PySem L2 PySem.Spec PyProof.Rows
noncomputable def Ra:Expr->Bool|.Starred _ _=>false|_=>true
theorem bI{e:Expr}{c:List Expr}{env:Env}(h:Ra e=true):starEach (e::c) env=(false,eval e env)::starEach c env:=by cases e with|Starred a b=>cases h|_=>rw[starEach];(intro e p z;cases z)
noncomputable def lO:List Int->List Expr->Option (List Expr)|[],a=>some a|i::b,.Constant (.int j) _ _::a=>if i=j then lO b a else none|_,_=>none
theorem ud{X:L2.Cx}{c:Call}:∀(f:List Int){g a:List Expr}{b:List P},lO f g=some a->SA X c a b->SA X c g (f.map (λi=>P.con (.int i))++b)|[],g,a,b,h,r=>by cases h;exact r|i::f,[],a,b,h,r=>by cases h|i::f,e::g,a,b,h,r=>by cases e with
   |Constant v k p=>cases v with
     |int j=>
       replace h:(if i=j then lO f g else none)=some a:=h;split at h;.rename_i l;subst l;exact j0 aj (ud f h r) (bI rfl)
       .cases h|_=>cases h
   |_=>cases h
theorem oH{n d:Nat}{o:Option Int}:HT.cH n d o=HH.cH n d o:=by cases o with|none=>rfl|some v=>
   show(if v<0 then(v+(n:Int)).toNat else min v.toNat n)=(if 0<=v then min v.toNat n else(v+n).toNat);by_cases h:0<=v;.rw[if_pos h,if_neg (by omega)]
   .rw[if_neg h,if_pos (by omega)]
theorem xF{xs:List V}{lo hi:Option Int}:pI xs lo hi=HH.cut xs lo hi:=by unfold pI HH.cut;rw[oH,oH]
theorem az.cut{K:PySem.W.Frag}{F:Hp}{a:List D}{b:List V}{lo hi:Option Int}(h:az K F b a):az K F (HH.cut b lo hi) (HH.cut a lo hi):=by unfold HH.cut;rw[h.length];exact(h.drop _).take _
section
variable{X:Cx}{c:Call}{n:Nat}{e a b:Expr}{p pa pb pl ph:P}{pos p2:Pos}{lo hi:Option Expr}
def R6(K:PySem.W.Frag):V->Option Int->Option Int->Hp->VK->Prop:=λx lo hi H Q=>∃F d r,aB F H/\cj K F H x d/\Dl d (some lo) (some hi)=some r/\∀v g f,Ext F H g f->bY K g f H v r->Q v f
theorem Mm:N8 X (R6 X.K):=by rintro f s w H x v vl y lo hi z Q I m hs pl o⟨F,d,r,h,A,he,k⟩;cases d with|lst q=>cases he;obtain⟨a,xs,rfl,l,i⟩:=A.lst h;refine Aa f s w H _ v vl y lo hi z Q I m hs pl o ⟨a,xs,rfl,l,λp t=>?_⟩;rw[xF];exact xH h i.cut t k|tup q=>
   cases he;obtain⟨a,xs,rfl,l,i,rt⟩:=A.tup h;by_cases j:HT.cH xs.length 0 lo=0/\HT.cH xs.length xs.length hi=xs.length
   . cases m;obtain⟨u,C,B,E⟩:=I.tuple l;have g:u.toArray.size=xs.length:=by rw[size_toArray];exact C.length.symm
     refine⟨"tuple",_,slot_tuple_getitem.lookup,B.typeIs,HT.qt B hs pl o (by rw[g];exact j.1) (by rw[g];exact j.2) ⟨.ref a,H,I,rfl,?_⟩⟩;have hc:HH.cut q lo hi=q:=by unfold HH.cut;rw[<-i.length,<-oH,<-oH,j.1,j.2];simp[i.length]
     rw[hc]at k;exact bY.dw h rt k
   .refine HW f s w H _ v vl y lo hi z Q I m hs pl o ⟨a,xs,rfl,l,j,λp t=>?_⟩;rw[xF];exact uY h i.cut t k|_=>cases he
def SO(X:Cx)(c:Call)(o:Option Expr)(p:P):Prop:=∃t,PO X o t/\∀{g:L2.St}{H F:Hp}{ρ f:List Sl}{d:D}{i:Option Int}{Q:Option Int->Hp->Prop},GS X.K F ρ g H->fU (isVar p) (HH.ev c p) ρ=.ok d f->part p d=some i->(∀j h,aZ X.K F ρ g H j f g h->Q i h)->t g H Q
theorem uD:SO X c none (.con .non):=by refine⟨_,zX,λ{l H F ρ f d i Q}g e h k=>?_⟩;cases(show some none=some i from h);have j:(HH.ev c (.con .non) ρ).bind (λr ρ=>.ok r.d ρ)=.ok d f:=e;clear e;rw[HH.E2]at j;cases j;exact k F H (.refl g)
theorem uA(h:SX X c e p)(l:HY p=false:=by rfl):SO X c (some e) p:=by obtain⟨t,h1,m⟩:=h.fU;refine⟨_,Bq h1,λ{y H F ρ o d i Q}g e f k=>?_⟩;unfold part at f;rw[l,if_neg (by decide)]at f;obtain⟨j,q,r⟩:=map_some f;cases j8 q;subst r;exact m g e λv u w s x=>⟨j,x.int,k u w s⟩
theorem pQ{d:D}{x y:Option (Option Int)}{r:R}(h:Dl d x y=some r):∃lo hi,x=some lo/\y=some hi:=by cases x with|none=>cases d<;>cases h|some lo=>cases y with|none=>cases d<;>cases h|some hi=>exact⟨lo,hi,rfl,rfl⟩
theorem o6(Y:SX X c a pa)(hl:SO X c lo pl)(hh:SO X c hi ph):SX X c (.Subscript a (.Slice lo hi none p2) pos) (.slice pa pl ph):=by obtain⟨tl,Z,l2⟩:=hl;obtain⟨th,h1,h2⟩:=hh;cases hv:isVar pa with|none=>refine⟨di (pW Mm Y.ev Z h1) ?_,λi h=>by cases h⟩;rintro σ H Q⟨F,ρ,r,A,g,e,k⟩;rw[HH.E15,hv]at e;obtain⟨x,ρ1,f,j⟩:=aa e;clear e;have NZ:(HH.ev c pa ρ).bind (λr ρ=>.ok r.d ρ)=.ok x ρ1:=f;clear f;obtain⟨rx,ab,e1,B⟩:=aa NZ;clear NZ;cases B;obtain⟨y,C,E,l⟩:=aa j;clear j;obtain⟨z,G,I,m⟩:=aa l;clear l;obtain⟨e,J⟩:=aJ m;clear m;subst J;obtain⟨L,M,o,q⟩:=pQ e;rw[o,q]at e;refine⟨F,ρ,rx,_,g,e1,λv F1 H1 s1 rr=>?_⟩;obtain⟨F2,s2,_,rp⟩:=s1.dI rr;refine l2 s2.gs E o λF3 H3 s3=>h2 s3.gs I q λN H4 s4=>?_;have s5:=s2.trans (s3.trans s4);refine⟨N,_,r,s4.gs.sub,.inl ((rp.mono s3.cA).mono s4.cA),e,λv O U x W=>?_⟩;exact k v O U (s5.trans (x.stp s5.gs)) (.later s5 (W.nM s5.gs))|some i=>refine⟨di (pW Mm (Y.var i hv) Z h1) ?_,λi h=>by cases h⟩;rintro σ H Q⟨F,ρ,r,A,g,e,k⟩;rw[HH.E15,hv]at e;obtain⟨x0,ac,s,j⟩:=aa e;clear e;obtain⟨B,BK⟩:=aJ s;clear s;subst BK;obtain⟨y,C,E,l⟩:=aa j;clear j;obtain⟨z,G,I,m⟩:=aa l;clear l;obtain⟨x,ae,t,ed⟩:=aa m;clear m;obtain⟨e5,e6⟩:=aJ t;clear t;subst e6;obtain⟨e,J⟩:=aJ ed;clear ed;subst J;obtain⟨L,M,o,q⟩:=pQ e;rw[o,q]at e;obtain⟨v,u,_⟩:=g.pk B;refine⟨v,u,l2 g E o λF3 H3 s3=>h2 s3.gs I q λN H4 s4=>?_⟩;have s5:=s3.trans s4;obtain⟨v',w,pv⟩:=s5.gs.pk e5;rw[u]at w;cases w;refine⟨N,_,r,s4.gs.sub,pv,e,λv O U x W=>?_⟩;exact k v O U (s5.trans (x.stp s5.gs)) (.later s5 (W.nM s5.gs))
theorem Kq:dm X (.type "int") (Hm X.K λx=>blt .int [x]):=by rintro f s g H xs h Q I r⟨x,j,F,d,l,m,o,he,k⟩;cases d with|int i=>cases(show some _=some l from he);exact mX f s g H xs h Q I r (.inl ⟨i,by rw[j,o.int],bY.dw m (cX _) k⟩)|bl b=>cases(show some _=some l from he);exact mX f s g H xs h Q I r (.inr ⟨b,by rw[j,o.bl],bY.dw m (cX _) k⟩)|_=>cases he
theorem La:dm X (.builtin "abs") (Hm X.K λx=>blt .abs [x]):=by rintro f s g H xs h Q I r⟨x,j,F,d,l,m,o,he,k⟩;cases d with|int i=>cases(show some _=some l from he);exact xg f s g H xs h Q I r ⟨i,by rw[j,o.int],bY.dw m (cX _) k⟩|_=>cases he
theorem boot_abs:bootBuiltins "abs"=some (.builtin "abs"):=by decide+kernel
theorem zQ{x:Str}{f:Pos}(g:x="int")(i:Gl X x)(j:X.mg x=none)(k:SX X c a pa)(hs:starEach [a] X.env=(false,eval a X.env)::starEach [] X.env:=by rfl):SX X c (.Call (.Name x f) [a] [] pos) (.blt .int [pa]):=by subst g;exact m8 (λh=>jA Kq i j (by decide+kernel) h (he:=hs)) k (λρ=>rfl) rfl hs
theorem Ho{x:Str}{f:Pos}(g:x="abs")(i:Gl X x)(j:X.mg x=none)(k:SX X c a pa)(hs:starEach [a] X.env=(false,eval a X.env)::starEach [] X.env:=by rfl):SX X c (.Call (.Name x f) [a] [] pos) (.blt .abs [pa]):=by subst g;exact m8 (λh=>dR La i j boot_abs h (he:=hs)) k (λρ=>rfl) rfl hs
end
end HH
end
section
namespace HH
open PySem
theorem pD:∀a b:List Int,dz a b=true->dz b a=false
 |[],[],h=>by simp[dz]at h|[],_::_,_=>by simp[dz]|_::_,[],h=>by simp[dz]at h|x::a,y::b,h=>by
   simp only[dz,or_eq_true,decide_eq_true_eq,and_eq_true]at h;simp only[dz,Bool.or_eq_false_iff,decide_eq_false_iff_not,Bool.and_eq_false_iff];rcases h with h|⟨h,h'⟩;.exact⟨by omega,.inl (by omega)⟩
   .exact⟨by omega,.inr (pD a b h')⟩
theorem wF:∀a b c:List Int,dz b a=false->dz c b=false->dz c a=false
 |[],_,c,_,_=>by cases c<;>simp[dz]|_::_,[],_,h,_=>by simp[dz]at h|_::_,_::_,[],_,h=>by simp[dz]at h|x::a,y::b,z::c,h1,f=>by
   simp only[dz,Bool.or_eq_false_iff,decide_eq_false_iff_not,Bool.and_eq_false_iff]at h1 f ⊢;refine⟨by omega,?_⟩;by_cases e:z=x;.right;exact wF a b c (h1.2.resolve_left (by omega)) (f.2.resolve_left (by omega))
   .exact .inl e
theorem pL:∀a b:List Int,dz a b=false->dz b a=false->a=b
 |[],[],_,_=>rfl|[],_::_,h,_=>by simp[dz]at h|_::_,[],_,h=>by simp[dz]at h|x::a,y::b,h1,c=>by
   simp only[dz,Bool.or_eq_false_iff,decide_eq_false_iff_not,Bool.and_eq_false_iff]at h1 c;have e:x=y:=by omega
   subst e;rw[pL a b (h1.2.resolve_left (by simp)) (c.2.resolve_left (by simp))]
theorem pX:∀{xs ys:List D},xs.all cJ=true->ys.all cJ=true->xs.map nQ=ys.map nQ->xs=ys
 |[],[],_,_,_=>rfl|[],_::_,_,_,h=>by simp at h|_::_,[],_,_,h=>by simp at h|x::xs,y::ys,h1,a,h=>by
   simp only[all_cons,and_eq_true]at h1 a;simp only[map_cons,List.cons.injEq]at h;obtain⟨i,rfl⟩:∃i,x=.int i:=by cases x<;>first|exact⟨_,rfl⟩|(have q:=h1.1;simp[cJ]at q;done)
   obtain⟨j,rfl⟩:∃j,y=.int j:=by cases y<;>first|exact⟨_,rfl⟩|(have q:=a.1;simp[cJ]at q;done)
   rw[pX h1.2 a.2 h.2,show i=j from h.1]
theorem uE{x y:D}(h:(cJ x=true/\cJ y=true)\/(qN x=true/\qN y=true))(e:lL x=lL y):x=y:=by
 rcases h with⟨h1,a⟩|⟨h1,a⟩
 . cases x<;>first|(simp[cJ]at h1;done)|skip
   cases y<;>first|(simp[cJ]at a;done)|skip
   simpa[lL]using e
 . cases x<;>first|(simp[qN]at h1;done)|skip
   cases y<;>first|(simp[qN]at a;done)|skip
   rename_i xs ys;cases xs<;>first|(simp[qN]at h1;done)|skip
   cases ys<;>first|(simp[qN]at a;done)|skip
   rw[pX h1 a e]
noncomputable def lN(a b:D):Bool:=!dz (lL b) (lL a)
theorem pq(a:List D):(QC a).Perm a:=List.mergeSort_perm ..
theorem zG(a b c:D)(h1:lN a b=true)(e:lN b c=true):lN a c=true:=by simp only[lN,Bool.not_eq_true']at*;exact wF _ _ _ h1 e
theorem v5(a b:D):(lN a b||lN b a)=true:=by simp only[lN,or_eq_true,Bool.not_eq_true'];cases h:dz (lL b) (lL a)with|false=>exact .inl rfl|true=>exact .inr (pD _ _ h)
theorem qK(c:List D):(QC c).Pairwise λa b=>lN a b=true:=List.pairwise_mergeSort zG v5 c
theorem ou{a:List D}(h:sortable a=true):∀x∈a,∀y∈a,lL x=lL y->x=y:=by
 simp only[sortable,and_eq_true,or_eq_true,all_eq_true]at h;intro x b y c e;rcases h.2 with h|h;.exact uE (.inl ⟨h x b,h y c⟩) e
 .exact uE (.inr ⟨h x b,h y c⟩) e
theorem Mv{c l:List D}(h:sortable c=true)(p:l.Perm c)(s:l.Pairwise λa b=>lN a b=true):l=QC c:=by refine List.Perm.eq_of_pairwise (le:=λa b=>lN a b=true) (λa b f g h1 e=>?_) s (qK c) (p.trans (pq c).symm);simp only[lN,Bool.not_eq_true']at h1 e;exact ou h a (p.mem_iff.mp f) b ((pq c).mem_iff.mp g) (pL _ _ e h1)
end HH
end
section
namespace HH
open PySem L2 PySem.Spec PyProof.Rows
section
variable{K:PySem.W.Frag}{F H F' H':Hp}{ρ ρ':List Sl}{σ σ':L2.St}
def Kp(ρ:List Sl)(σ:L2.St)(H:Hp)(a:Addr)(o:HO):Prop:=H a=some o/\¬ Own ρ σ a
theorem Kp.stp{a:Addr}{o:HO}(h:Kp ρ σ H a o)(s:aZ K F ρ σ H F' ρ' σ' H'):Kp ρ' σ' H' a o:=⟨s.keep a o h.1 h.2,λz=>(s.mF a z).elim h.2 λe=>by rw[h.1]at e;cases e⟩
end
end HH
end
section
namespace HH
open PySem L2 PySem.Spec PyProof.Rows
section
variable{K:PySem.W.Frag}{F F' F1 H H' H1 F0 H0:Hp}{ρ ρ' ρ1 ρ0:List Sl}{σ σ' σ1 σ0:L2.St}{x:Nat}{q:Addr}{as:List Addr}{rows Wh:List (List D)}
noncomputable def Ey:Sl->Bool|.aC=>true|.hold _=>true|_=>false
theorem iH{s:Sl}{i:Nat}{b:Addr}(g:Ey s=true){o:Option V}(h:aM (ρ.set x s) (σ.set x o) i b):aM ρ σ i b/\i≠x:=by
 obtain⟨⟨t,j,e,a⟩,f⟩:=h;by_cases c:x=i
 . subst c;rw[List.getElem?_set]at e;rw[if_pos rfl]at e;split at e;.cases e;cases s<;>first|(cases a;done)|(cases g;done)
   .cases e
 .rw[getElem?_set_ne c]at e f;exact⟨⟨⟨t,j,e,a⟩,f⟩,λz=>c z.symm⟩
theorem GS.sY{s:Sl}{o:Option V}(f:Ey s=true)(g:GS K F ρ σ H):GS K F (ρ.set x s) (σ.set x o) H:=by
 refine⟨g.sub,by simp[g.len],λi b d e=>?_,λi t k e h=>?_,λi j a h1 l=>g.dis i j a (iH f h1).1 (iH f l).1⟩
 . by_cases c:x=i
   . subst c;rw[List.getElem?_set,if_pos rfl]at e;split at e;.cases e;cases f
     .cases e
   .rw[getElem?_set_ne c]at e ⊢;exact g.val i b d e
 . by_cases c:x=i
   . subst c;rw[List.getElem?_set,if_pos rfl]at e;split at e;.cases e;cases s<;>first|(cases h;done)|(cases f;done)
     .cases e
   .rw[getElem?_set_ne c]at e ⊢;exact g.own i t k e h
theorem aZ.sY{s:Sl}{o:Option V}(a:Ey s=true)(t:aZ K F ρ σ H F1 ρ1 σ1 H1)(f:∀s0,ρ[x]?=some s0->xu s0=false):aZ K F ρ σ H F1 (ρ1.set x s) (σ1.set x o) H1:=by
 refine⟨t.gs.sY a,t.cA,t.oX,t.keep,λb⟨i,h⟩=>t.mF b ⟨i,(iH a h).1⟩,by simp[t.len],λi g e l=>?_⟩;have c:x≠i:=by rintro rfl;rw[f _ e]at l;cases l
 obtain⟨j,s2,k,m⟩:=t.lk i g e l;exact⟨by rw[getElem?_set_ne c];exact j,s2,by rw[getElem?_set_ne c];exact k,m⟩
end
end HH
end
section
namespace L2
open PySem PySem.Spec PyProof.Rows
end L2
namespace HH
open PySem L2 PySem.Spec PyProof.Rows
noncomputable def Pu(o:Obj):Bool:=match o.cls with|.type n=>n=="list"|_=>false
def G8(K:PySem.W.Frag):Prop:=(K.filter λp=>Pu p.2).map (·.1)=[]
theorem mem_lookup{f g:Type}[BEq f][LawfulBEq f]{a:f}{b:g}:∀{l:List (f×g)},l.lookup a=some b->(a,b)∈l
 |[],h=>by cases h|(c,d)::l,h=>by
   rw[lookup_cons]at h;split at h;.rename_i e;have:=eq_of_beq e;cases h;subst this;simp
   .exact mem_cons_of_mem _ (mem_lookup h)
theorem G8.no{K:PySem.W.Frag}(h:G8 K){a:Addr}{o:Obj}(e:K.lookup a=some o)(c:o.cls=.type "list"):False:=by have b:a∈(K.filter λp=>Pu p.2).map (·.1):=mem_map.mpr ⟨(a,o),List.mem_filter.mpr ⟨mem_lookup e,by unfold Pu;rw[c];rfl⟩,rfl⟩;rw[show(K.filter λp=>Pu p.2).map (·.1)=[]from h]at b;cases b
noncomputable def Mu:Option HO->Option HO|some (.lst _)=>none|some (.dI _ (.lst _))=>none|o=>o
noncomputable def lf(F:Hp):Hp:=λb=>Mu (F b)
section
variable{K:PySem.W.Frag}{F F1 H H1:Hp}
theorem qu{o:Option HO}{u:HO}(h:Mu o=some u):o=some u/\(∀xs,u≠.lst xs)/\∀a xs,u≠.dI a (.lst xs):=by
 unfold Mu at h;split at h;.cases h
 .cases h
 .rename_i h1 b;subst h;exact⟨rfl,λxs z=>h1 xs (by rw[z]),λa xs z=>b a xs (by rw[z])⟩
theorem rJ:aB (lf F) F:=λb o e=>(qu e).1
theorem jV{b:Addr}(h:F b=none):lf F b=none:=by unfold lf;rw[h];rfl
theorem Eh{b:Addr}{xs:List V}(h:Rd F b (.tup xs)):Rd (lf F) b (.tup xs):=by
 rcases h with h|⟨o,h⟩;.exact .inl (by unfold lf;rw[h];rfl)
 .exact .inr ⟨o,by unfold lf;rw[h];rfl⟩
theorem az.of{b:Hp}:∀{a:List D}{c:List V},(∀d∈a,∀v,Rep K F v d->Rep K b v d)->az K F c a->az K b c a|[],_,_,h=>by rw[h.fC];exact .nil|d::a,_,k,h=>by obtain⟨v,r,rfl,h1,e⟩:=h.bT;exact .cons (k d (by simp) v h1) (az.of (λd' hd=>k d' (by simp[hd])) e)
theorem Rep.lf:∀(k:Nat){d:D}{v:V},gf k d=true->Rep K F v d->Rep K (lf F) v d:=by intro k;induction k with
 |zero=>intro d v h r;cases d<;>first|(rw[Rep]at r ⊢;exact r)|(cases h;done)
 |succ k b=>
   intro d v h r
   cases d with|tup c=>
     rw[Rep]at r ⊢;obtain⟨a,xs,rfl,h1,e⟩:=r;have h':c.all (gf k)=true:=h;refine⟨a,xs,rfl,?_,az.of (λd hd v=>b (all_eq_true.mp h' d hd)) e⟩;rcases h1 with h1|h1;.exact .inl (Eh h1)
     .exact .inr h1|non=>rw[Rep]at r ⊢;exact r|bl _=>rw[Rep]at r ⊢;exact r|int _=>rw[Rep]at r ⊢;exact r|str _=>rw[Rep]at r ⊢;exact r|lst _=>cases h|dC _=>cases h|dv _ _=>cases h
noncomputable def uni(F F1:Hp):Hp:=λb=>match F b with|some o=>some o|none=>lf F1 b
theorem zr:aB F (uni F F1):=λb o e=>by unfold uni;rw[e]
theorem v8(h:aB F H1)(h1:aB F1 H1):aB (lf F1) (uni F F1):=λb o e=>by unfold uni;cases q:F b with|none=>exact e|some u=>have:=h b u q;rw[h1 b o (rJ b o e)]at this;cases this;rfl
end
end HH
namespace L2
open PySem PySem.Spec PyProof.Rows
end L2
end
section
namespace HH
open PySem L2 PySem.Spec PyProof.Rows
theorem Rd.same{F H:Hp}{a:Addr}{u:HO}(s:aB F H)(h:Rd F a u):Rd H a u:=by
 rcases h with h|⟨o,h⟩;.exact .inl (s _ _ h)
 .exact .inr ⟨o,s _ _ h⟩
section
variable{X:Cx}{c:Call}{n:Nat}{st st1 st2 st3:Stmt}{rest:List Stmt}{u:TS}{s:S}{B:List S}{y a b:Nat}
theorem Ai{K:PySem.W.Frag}{F e:Hp}{v:V}{d:D}(h:J8 d=true)(r:Rep K F v d):Rep K e v d:=by cases d<;>first|(cases h;done)|(rw[Rep]at r ⊢;exact r)
variable{k:Nat}{ny na nb ln:Str}{q1 q2 q3 q4 q5 q6 q7 q8 q9 Uz Wi q12 q13 q14 q15 q16 q17 q18:Pos}{j1 j2 j3 j4}{i j:Int}
end
end HH
end
section
namespace L2
open PySem PySem.Spec PyProof.Rows
variable{X:Cx}
structure qL(X:Cx)(H H':Hp):Prop where eq:∀b,H' b=H b\/∃o ys,H b=some (.dI o (.lst ys))/\H' b=some (.lst ys)/\∀o u,X.H₀ b≠some (.dI o u)
theorem qL.id{H a:Hp}(t:qL X H a){b:Addr}{u:HO}(h:H b=some u)(k:∀c f,u≠.dI c f):a b=some u:=by
 rcases t.eq b with e|⟨o,ys,e,_⟩;.rw[e];exact h
 .rw[e]at h;cases h;exact absurd rfl (k _ _)
theorem qL.non{H a:Hp}(t:qL X H a){b:Addr}(h:H b=none):a b=none:=by
 rcases t.eq b with e|⟨o,ys,e,_⟩;.rw[e];exact h
 .rw[e]at h;cases h
theorem Inv.Mx{a:List (Addr×Obj)}{g:St}{H i:Hp}{s:Shared}(I:Inv X a g H s)(t:qL X H i):Inv X a g i s:=by
 refine⟨I.ok,I.os,I.bare,⟨I.base.keep,I.base.slot,λb f h n j=>t.non (I.base.free b f h n j),I.base.there,λb xs h=>t.id (I.base.tups b xs h) (by intro _ _ z;cases z),λb f u h=>?_,λb ps h=>?_⟩,I.loc,I.cell,t.non I.free,λx c hc=>t.non (I.gV x c hc),λp k=>?_,λb u h=>?_,I.len⟩
 . have:=I.base.lV b f u h;rcases t.eq b with e|⟨o,ys,_,_,h0⟩;.rw[e];exact this
   .exact absurd h (h0 _ _)
 .obtain⟨more,l⟩:=I.base.oR b ps h;exact⟨more,t.id l (by intro _ _ z;cases z)⟩
 .obtain⟨m,r,w⟩:=I.pin p k;exact⟨m,t.non r,w⟩
 . rcases t.eq b with e|⟨o,ys,e,y,_⟩;.rw[e]at h;exact(I.hok b u h).stay (λc v _ q=>q) (λc q=>t.id q (by intro _ _ z;cases z)) λc xs q=>t.id q (by intro _ _ z;cases z)
   .rw[y]at h;cases h;obtain⟨_,q⟩:=I.hok b _ e;exact q.stay (λc v _ q=>q) (λc q=>t.id q (by intro _ _ z;cases z)) λc xs q=>t.id q (by intro _ _ z;cases z)
theorem vN{st:Stmt}{t:TS}(h:PS X st t):PS X st (λD c H=>∃b,qL X H b/\t D c b):=λa s c H D I⟨b,e,q⟩=>h a s c b D (I.Mx e) q
end L2
namespace HH
open PySem L2 PySem.Spec PyProof.Rows
variable{F H H' H0:Hp}{b a:Addr}{i:Nat}{ρ:List Sl}{σ:L2.St}{ys:List V}{K:PySem.W.Frag}{y:V}
section
variable{K:PySem.W.Frag}{F0 F1 H0 H1:Hp}{ρ0 ρ1:List Sl}{σ0 σ1:L2.St}
theorem az.VN{c:List D}{e:List V}(h:c.all (gf 9)=true)(r:az K F e c):az K (lf F) e c:=az.of (λd hd v r=>Rep.lf 9 (all_eq_true.mp h d hd) r) r
theorem tR{s:Sl}{o:Oc}(h:yO s=true)(e:lst? s=some o):∃c,s=.own true c/\o=.l c/\c.all (gf 9)=true:=by cases s with
 |own b c=>cases b with|true=>cases e;exact⟨c,rfl,rfl,h⟩|false=>cases h
 |_=>first|(cases e;done)|(cases h;done)
theorem Gd(g:GS K F0 ρ0 σ0 H0)(h:ρ0.all yO=true):GS K (lf F0) ρ0 σ0 H0:=by
 refine⟨rJ.trans g.sub,g.len,λi b d e=>?_,λi s o e j=>?_,g.dis⟩;.obtain⟨v,c,f⟩:=g.val i b d e;exact⟨v,c,Rep.lf 9 (all_eq_true.mp h _ (mem_of_getElem? e)) f⟩
 .obtain⟨n,rfl,rfl,hd⟩:=tR (all_eq_true.mp h _ (mem_of_getElem? e)) j;obtain⟨a,xs,c,f,k,l,rfl,m⟩:=g.own i _ _ e j;exact⟨a,_,c,f,jV k,l,rfl,m.VN hd⟩
theorem oG{s:Sl}{o:Oc}(h:lst? (o4 s)=some o):∃b f,s=.own b f/\o=.l f/\f.all (gf 9)=true/\o4 s=s:=by
 cases s with|own b f=>
   have h:lst? (if f.all (gf 9)=true then Sl.own b f else .aC)=some o:=h;have e:o4 (.own b f)=if f.all (gf 9)=true then Sl.own b f else .aC:=rfl;by_cases c:f.all (gf 9)=true;.rw[if_pos c]at h e;cases h;exact⟨b,f,rfl,rfl,c,e⟩
   .rw[if_neg c]at h;cases h|val b d=>have h:lst? (if gf 9 d=true then Sl.val b d else .aC)=some o:=h;split at h<;>cases h|_=>cases h
theorem Ak{s:Sl}{b:Bool}{d:D}(h:o4 s=.val b d):s=.val b d/\gf 9 d=true:=by cases s with
 |own e f=>have h:(if f.all (gf 9)=true then Sl.own e f else .aC)=.val b d:=h;split at h<;>cases h|val e d'=>
   have h:(if gf 9 d'=true then Sl.val e d' else .aC)=.val b d:=h;split at h;.rename_i c;cases h;exact⟨rfl,c⟩
   .cases h|_=>cases h
theorem qP(h:Own (ρ1.map o4) σ1 b):Own ρ1 σ1 b:=by obtain⟨i,⟨s,o,e,c⟩,h⟩:=h;rw[getElem?_map]at e;obtain⟨t,f,g⟩:=map_some e;rw[<-g]at c;obtain⟨k,l,m,n,p,j⟩:=oG c;rw[j]at c;exact⟨i,⟨t,o,f,c⟩,h⟩
theorem yf(g:GS K F1 ρ1 σ1 H1)(h:Own ρ1 σ1 b):F1 b=none:=by obtain⟨i,⟨s,o,e,f⟩,h⟩:=h;obtain⟨a,xs,c,k,j,_⟩:=g.own i s o e f;rw[h]at c;cases c;exact j
theorem wj(g:(ρ0.zip ρ1).all zO=true){f:List D}{t:Sl}(e:ρ0[i]?=some (.own true f))(j:ρ1[i]?=some t):∃b c,t=.own b c/\c.all (gf 9)=true:=by have h:=all_eq_true.mp g (Sl.own true f,t) (mem_of_getElem? (i:=i) (by rw[List.getElem?_zip_eq_some];exact⟨e,j⟩));cases t with|own b c=>exact⟨b,c,rfl,h⟩|_=>cases h
theorem HD(f:ρ0.all yO=true)(g:(ρ0.zip ρ1).all zO=true)(s:aZ K (lf F0) ρ0 σ0 H0 F1 ρ1 σ1 H1)(h:Own ρ0 σ0 b):F1 b=none:=by obtain⟨i,⟨t,o,e,j⟩,h⟩:=h;obtain⟨l,rfl,rfl,hd⟩:=tR (all_eq_true.mp f _ (mem_of_getElem? e)) j;obtain⟨k,t',c,m⟩:=s.lk i _ e rfl;obtain⟨n,p,rfl,_⟩:=wj g e c;exact yf s.gs ⟨i,⟨_,_,c,rfl⟩,by rw[k];exact h⟩
theorem pF(g:GS K F0 ρ0 σ0 H0)(L:ρ0.all yO=true)(M:(ρ0.zip ρ1).all zO=true)(s:aZ K (lf F0) ρ0 σ0 H0 F1 ρ1 σ1 H1):aZ K F0 ρ0 σ0 H0 (uni F0 F1) (ρ1.map o4) σ1 H1:=by
 have f0:∀{b:Addr},Own ρ0 σ0 b->F0 b=none:=λh=>yf g h;have m:aB F0 H1:=λb o e=>s.keep b o (g.sub b o e) λz=>by rw[f0 z]at e;cases e
 refine⟨⟨λb o e=>?_,by rw[length_map];exact s.gs.len,λi b d e=>?_,λi t o e c=>?_,λi j a h h'=>?_⟩,zr,λb n p=>?_,s.keep,λb h=>s.mF b (qP h),by rw[length_map];exact s.len,λi t h l=>?_⟩
 . unfold uni at e;split at e;.rename_i u q;cases e;exact m b _ q
   .exact s.gs.sub b o (rJ b o e)
 .rw[getElem?_map]at e;obtain⟨t,f,k⟩:=map_some e;obtain⟨rfl,hd⟩:=Ak k;obtain⟨v,N,O⟩:=s.gs.val i b d f;exact⟨v,N,(Rep.lf 9 hd O).mono (v8 m s.gs.sub)⟩
 . rw[getElem?_map]at e;obtain⟨t',f,k⟩:=map_some e;rw[<-k]at c;obtain⟨r,A,rfl,rfl,hd,B⟩:=oG c;obtain⟨a,xs,C,Q,U,W,rfl,X⟩:=s.gs.own i _ (.l A) f rfl;refine⟨a,_,C,Q,?_,W,rfl,(X.VN hd).mono (v8 m s.gs.sub)⟩;have Y:F0 a=none:=by
    rcases s.mF a ⟨i,⟨_,_,f,rfl⟩,C⟩with y|y;.exact f0 y
    .cases q:F0 a with|none=>rfl|some u=>rw[g.sub a u q]at y;cases y
   unfold uni;rw[Y];exact jV U
 . have E:∀{i:Nat},aM (ρ1.map o4) σ1 i a->aM ρ1 σ1 i a:=λ{i}⟨⟨t,o,e,c⟩,h⟩=>by rw[getElem?_map]at e;obtain⟨t',f,k⟩:=map_some e;rw[<-k]at c;obtain⟨_,_,_,_,_,B⟩:=oG c;rw[B]at c;exact⟨⟨t',o,f,c⟩,h⟩
   exact s.gs.dis i j a (E h) (E h')
 . have h1:lf F1 b≠none:=by unfold uni at p;rw[n]at p;exact p
   exact s.oX b (jV n) λz=>h1 (jV z)
 .obtain⟨G,t',w,I⟩:=s.lk i t h l;have J:=all_eq_true.mp L t (mem_of_getElem? h);cases t with
   |val b d=>cases b with|true=>have:t'=.val true d:=I;subst this;refine⟨G,.val true d,?_,rfl⟩;rw[getElem?_map,w];show some (if gf 9 d=true then Sl.val true d else .aC)=_;rw[if_pos (show gf 9 d=true from J)]|false=>cases l
   |own b A=>cases b with|true=>obtain⟨r,x,rfl,he⟩:=wj M h w;refine⟨G,.own r x,?_,I⟩;rw[getElem?_map,w];show some (if x.all (gf 9)=true then Sl.own r x else .aC)=_;rw[if_pos he]|false=>cases l
   |aC=>cases l|_=>cases J
theorem aZ.Rg{F1 H1 H2:Hp}{ρ1:List Sl}{σ1:L2.St}(s:aZ K F ρ σ H F1 ρ1 σ1 H1)(h:∀b,H2 b=H1 b\/H b=none/\F1 b=none/\¬ Own ρ1 σ1 b):aZ K F ρ σ H F1 ρ1 σ1 H2:=by
 refine⟨⟨λb u e=>?_,s.gs.len,s.gs.val,λi t c e f=>?_,s.gs.dis⟩,s.cA,s.oX,λb u e n=>?_,s.mF,s.len,s.lk⟩
 . rcases h b with q|⟨_,q,_⟩;.rw[q];exact s.gs.sub b u e
   .rw[q]at e;cases e
 . obtain⟨a,xs,g,j,k,l⟩:=s.gs.own i t c e f;refine⟨a,xs,g,?_,k,l⟩;rcases h a with q|⟨_,_,q⟩;.rw[q];exact j
   .exact absurd ⟨i,⟨t,c,e,f⟩,g⟩ q
 . rcases h b with q|⟨q,_⟩;.rw[q];exact s.keep b u e n
   .rw[q]at e;cases e
theorem rE(g:GS K F0 ρ0 σ0 H0)(l:ρ0.all yO=true)(m:(ρ0.zip ρ1).all zO=true)(s:aZ K (lf F0) ρ0 σ0 H0 F1 ρ1 σ1 H1)(c:Rd F1 a (.lst ys)):H0 a=none/\uni F0 F1 a=none/\¬ Own ρ1 σ1 a:=by
 have f:F1 a≠none:=by rcases c with c|⟨o,c⟩<;>rw[c]<;>simp
 have no:¬ Own ρ0 σ0 a:=λz=>f (HD l m s z);have j:lf F0 a=none:=by cases q:lf F0 a with|none=>rfl|some u=>
    have e:=s.cA a u q;obtain⟨_,n,p⟩:=qu q;rcases c with c|⟨o,c⟩;.rw[c]at e;cases e;exact absurd rfl (n ys)
    .rw[c]at e;cases e;exact absurd rfl (p o ys)
 have h0:H0 a=none:=by
  rcases s.oX a j f with y|y;.exact absurd y no
  .cases q:H0 a with|none=>rfl|some u=>
      rw[q]at y;have k:=s.keep a u q no
      cases u with|tup xs=>
        rcases c with c|⟨o,c⟩;.rw[s.gs.sub a _ c]at k;cases k
        .rw[s.gs.sub a _ c]at k;cases k|_=>cases y
 refine⟨h0,?_,λz=>f (yf s.gs z)⟩;have f0:F0 a=none:=by cases w:F0 a with|none=>rfl|some o=>rw[g.sub a o w]at h0;cases h0
 unfold uni;rw[f0];show Mu (F1 a)=none;rcases c with h|⟨o,h⟩<;>rw[h]<;>rfl
end
structure fK(P:Addr->Prop)(H H':Hp):Prop where eq:∀b,H' b=H b\/P b/\(∃ys,H b=some (.lst ys))/\H' b=some (.lst [])
section
variable{P:Addr->Prop}
theorem fK.refl:fK P H H:=⟨λ_=>.inl rfl⟩
theorem fK.mono{c:Addr->Prop}(a:fK P H H')(h:∀b,P b->c b):fK c H H':=⟨λb=>(a.eq b).imp id λ⟨p,q⟩=>⟨h b p,q⟩⟩
theorem fK.trans{e H2:Hp}(a:fK P H e)(b:fK P e H2):fK P H H2:=⟨λc=>by
 rcases b.eq c with q|⟨p,⟨ys,f⟩,g⟩;.rw[q];exact a.eq c
 . refine .inr ⟨p,?_,g⟩;rcases a.eq c with w|⟨_,w,_⟩;.exact⟨ys,by rw[<-w];exact f⟩
   .exact w⟩
theorem fK.upd{H:Hp}{a:Addr}{ys:List V}(p:P a)(h:H a=some (.lst ys)):fK P H (L2.upd H a (.lst [])):=⟨λb=>by
 by_cases e:b=a;.subst e;exact .inr ⟨p,⟨ys,h⟩,aO⟩
 .exact .inl (aD e)⟩
theorem fK.tup{K:PySem.W.Frag}{H H':Hp}(e:fK P H H'){a:Addr}{xs:List V}(h:fV K H a xs):fV K H' a xs:=by
 have c:∀{u:HO},(∀ys,u≠.lst ys)->H a=some u->H' a=some u:=λk w=>by
  rcases e.eq a with q|⟨_,⟨ys,q⟩,_⟩;.rw[q];exact w
  .rw[w]at q;cases q;exact absurd rfl (k _)
 rcases h with(h|⟨o,h⟩)|h;.exact .inl (.inl (c nofun h))
 .exact .inl (.inr ⟨o,c nofun h⟩)
 .exact .inr h
end
def iC(K:PySem.W.Frag)(H:Hp)(P:Addr->Prop)(y:V):Prop:=y=.non\/∃b,∃ns:List Int,y=.ref b/\(P b/\H b=some (.lst (ns.map V.int))\/fV K H b (ns.map V.int))
theorem iC.emp{P c:Addr->Prop}(e:fK c H H')(h:iC K H P y):iC K H' P y:=by
 rcases h with h|⟨b,ns,rfl,⟨p,h⟩|h⟩;.exact .inl h
 . rcases e.eq b with q|⟨_,_,q⟩;.exact .inr ⟨b,ns,rfl,.inl ⟨p,by rw[q];exact h⟩⟩
   .exact .inr ⟨b,[],rfl,.inl ⟨p,q⟩⟩
 .exact .inr ⟨b,ns,rfl,.inr (e.tup h)⟩
theorem dY{K:PySem.W.Frag}{F:Hp}:∀ns:List Int,az K F (ns.map V.int) (ns.map D.int)|[]=>.nil|n::ns=>.cons (by rw[Rep]) (dY ns)
theorem iC.rep{P:Addr->Prop}(h:iC K H P y):∃d,Rep K H y d/\(bA .list d=true↔∃b ns,y=.ref b/\P b/\H b=some (.lst ns)/\bA .list d=true):=by
 rcases h with rfl|⟨b,ns,rfl,⟨p,h⟩|h⟩;.exact⟨.non,by rw[Rep],nofun,λ⟨_,_,e,_⟩=>by cases e⟩
 .exact⟨.lst (ns.map D.int),by rw[Rep];exact⟨b,_,rfl,cR.of h,dY ns⟩,λz=>⟨b,_,rfl,p,h,z⟩,λ⟨_,_,_,_,_,z⟩=>z⟩
 .exact⟨.tup (ns.map D.int),by rw[Rep];exact⟨b,_,rfl,h,dY ns⟩,nofun,λ⟨_,_,_,_,_,z⟩=>by cases z⟩
theorem iC.reps{K:PySem.W.Frag}{H:Hp}{P:Addr->Prop}:∀{ys:List V},(∀y∈ys,iC K H P y)->∃c,az K H ys c|[],_=>⟨[],.nil⟩|y::ys,h=>by obtain⟨c,q⟩:=iC.reps (ys:=ys) λz e=>h z (by simp[e]);obtain⟨d,w,_⟩:=(h y (by simp)).rep;exact⟨d::c,.cons w q⟩
def FW(K:PySem.W.Frag)(H:Hp)(P:Addr->Prop)(a:Addr)(ys:List V):Prop:=((P a/\H a=some (.lst ys))/\∀y∈ys,iC K H (λb=>b≠a/\P b) y)\/(fV K H a ys/\∀y∈ys,iC K H P y)
def pJ(K:PySem.W.Frag):Sp:=λc H Q _=>∃a ys P,c=[.ref a]/\FW K H P a ys/\∀H',fK P H H'->Q .non H'
def VP(K:PySem.W.Frag):List V->Hp->VK->Prop:=λxs H Q=>∃x F c,xs=[x,.ty (oZ .list)]/\aB F H/\cj K F H x c/\Q (.bl (bA .list c)) H
def Oo(K:PySem.W.Frag)(i:Nat):TT:=tB (MJ (VP K) (uz (jL i) (uz (tC (.ty (oZ .list))) Gz)))
def T7(K:PySem.W.Frag):TS:=nU (Hb (Nh K (jL 0)) (iQ 1) (nU (zJ (Oo K 1) (nU (qg (zy K "list" nP (jL 1))) gH) gH) gH)) (nU (zJ (Oo K 0) (nU (qg (zy K "list" nP (jL 0))) gH) gH) gH)
section
variable{K:PySem.W.Frag}{H:Hp}{σ:L2.St}{a:Addr}{ys:List V}{En:Ends}
theorem uo{P:Addr->Prop}{N:L2.St->Hp->Prop}(h1:σ[1]?=some (some y))(h:iC K H P y)(c:En.nx=N)(k:∀H',fK P H H'->N σ H'):nU (zJ (Oo K 1) (nU (qg (zy K "list" nP (jL 1))) gH) gH) gH En σ H:=by
 subst c;rcases h with rfl|⟨b,ns,rfl,⟨p,h⟩|h⟩;.exact⟨_,h1,.non,H,.non,rfl,.refl _,.inl (by rw[Rep]),false,rfl,k H .refl⟩
 .exact⟨_,h1,.ref b,H,.lst (ns.map D.int),rfl,.refl _,.inl (by rw[Rep];exact⟨b,_,rfl,cR.of h,dY ns⟩),true,rfl,_,h1,.inl ⟨rfl,_,cR.of h⟩,b,_,rfl,rfl,h,k _ (.upd p h)⟩
 .exact⟨_,h1,.ref b,H,.tup (ns.map D.int),rfl,.refl _,.inl (by rw[Rep];exact⟨b,_,rfl,h,dY ns⟩),false,rfl,k H .refl⟩
theorem zg{P:Addr->Prop}{Q:VK}(h:FW K H P a ys)(k:∀H',fK P H H'->Q .non H'):T7 K {nx:=λ_ H'=>Q .non H',rt:=Q} [some (.ref a),none] H:=by
 rcases h with⟨⟨A,o⟩,p⟩|⟨o,p⟩
 . refine⟨_,rfl,a,rfl,.inl ⟨⟨ys,cR.of o⟩,λi m σ H'=>i+m=ys.length/\fK P H H'/\H' a=some (.lst ys)/\σ[0]?=some (some (.ref a))/\σ.length=2,⟨ys.length,by omega,.refl,o,rfl,rfl⟩,?_⟩⟩;rintro i m σ H'⟨hi,j,e,hs,t⟩;by_cases c:i=ys.length;.refine .inl ⟨⟨ys,cR.of e,by omega⟩,?_⟩;obtain⟨u,hd⟩:=iC.reps λy n=>(p y n).emp j;exact⟨_,hs,.ref a,H',.lst u,rfl,.refl _,.inl (by rw[Rep];exact⟨a,ys,rfl,cR.of e,hd⟩),true,rfl,_,hs,.inl ⟨rfl,_,cR.of e⟩,a,ys,rfl,rfl,e,k _ (j.trans (.upd A e))⟩
   . have g:i<ys.length:=by omega
     have r:ys[i]?=some ys[i]:=by simp[g]
     refine .inr ⟨⟨ys,ys[i],cR.of e,r⟩,λf l=>(i+1)+(m-1)=ys.length/\fK P H l/\l a=some (.lst ys)/\f[0]?=some (some (.ref a))/\f.length=2,λf l w=>⟨m-1,by omega,w⟩,?_⟩;rintro x l⟨rfl,v⟩;have:=v ys (cR.of e);rw[r]at this;obtain rfl:=Option.some.inj this;refine uo (P:=λb=>b≠a/\P b) (by rw[getElem?_set_self (by omega)]) ((p _ (getElem_mem g)).emp j) rfl λB s=>⟨by omega,j.trans (s.mono λ_ z=>z.2),?_,by rw[getElem?_set_ne (by decide)];exact hs,by simp[t]⟩;rcases s.eq a with q|⟨q,_⟩;.rw[q];exact e
     .exact absurd rfl q.1
 . refine⟨_,rfl,a,rfl,.inr ⟨⟨ys,o⟩,λi m σ H'=>i+m=ys.length/\fK P H H'/\fV K H' a ys/\σ[0]?=some (some (.ref a))/\σ.length=2,⟨ys.length,by omega,.refl,o,rfl,rfl⟩,?_⟩⟩;rintro i m σ H'⟨hi,j,e,hs,t⟩;by_cases c:i=ys.length;.refine .inl ⟨⟨ys,e,by omega⟩,?_⟩;obtain⟨u,hd⟩:=iC.reps λy n=>(p y n).emp j;exact⟨_,hs,.ref a,H',.tup u,rfl,.refl _,.inl (by rw[Rep];exact⟨a,ys,rfl,e,hd⟩),false,rfl,k _ j⟩
   . have g:i<ys.length:=by omega
     have r:ys[i]?=some ys[i]:=by simp[g]
     refine .inr ⟨⟨ys,ys[i],e,r⟩,λf l=>(i+1)+(m-1)=ys.length/\fK P H l/\fV K l a ys/\f[0]?=some (some (.ref a))/\f.length=2,λf l w=>⟨m-1,by omega,w⟩,?_⟩;rintro x l⟨rfl,v⟩;have:=v ys e;rw[r]at this;obtain rfl:=Option.some.inj this;exact uo (P:=P) (by rw[getElem?_set_self (by omega)]) ((p _ (getElem_mem g)).emp j) rfl λB s=>⟨by omega,j.trans s,s.tup e,by rw[getElem?_set_ne (by decide)];exact hs,by simp[t]⟩
end
section
variable{X:Cx}{nr no li nn:Str}{p1 p2 p3 p4 p5 p6 p7 p8 p9 Wj p11 p12 q3 q4 q5 q6 q7 q8 q9 Uz Wi:Pos}
theorem zE(hc:X.calm=true)(h:X.N.Nodup)(h0:X.N[0]?=some nr)(j:vG X.env.scope nr)(h1:X.N[1]?=some no)(k:vG X.env.scope no)(l:Loc X.env.scope no)(m:li="isinstance")(n:nn="list")(o:Gl X li)(p:X.mg li=none)(s:Gl X nn)(t:X.mg nn=none)(u:PassesOwn (model X.prog X.w) X.A X.env X.xe)(f1:X.fn no=true\/X.env.scope.names.lookup no=some .local:=by first|exact .inl rfl|exact .inr rfl|assumption)(d0:(nr==("__debug__":Str))=false:=by rfl)(c0:(nr==("__classdict__":Str))=false:=by rfl)(d1:(no==("__debug__":Str))=false:=by rfl)(c1:(no==("__classdict__":Str))=false:=by rfl)(b1:attributeBase (.Name no p7) "clear" X.env (eval (.Name no p7) X.env)=eval (.Name no p7) X.env:=by rfl)(x:(p8.endLine==p9.line)=true:=by rfl)(s1:swapsWith (.Call (.Attribute (.Name no p7) "clear" p8) [] [] p9) none Wj.line X.env=pure false:=by rfl)(b2:attributeBase (.Name nr q7) "clear" X.env (eval (.Name nr q7) X.env)=eval (.Name nr q7) X.env:=by rfl)(z:(q8.endLine==q9.line)=true:=by rfl)(s2:swapsWith (.Call (.Attribute (.Name nr q7) "clear" q8) [] [] q9) none Uz.line X.env=pure false:=by rfl):lY X [.For (.Name no p1) (.Name nr p2) [.If (.Call (.Name li p3) [.Name no p4,.Name nn p5] [] p6) [.Expr (.Call (.Attribute (.Name no p7) "clear" p8) [] [] p9) Wj] [] p11] [] p12,.If (.Call (.Name li q3) [.Name nr q4,.Name nn q5] [] q6) [.Expr (.Call (.Attribute (.Name nr q7) "clear" q8) [] [] q9) Uz] [] Wi] (T7 X.K):=by subst m n;have e:∀{q:Pos},PE X (.Name nr q) (jL 0):=λ{q}=>gQ h0 j d0 c0;have f:∀{q:Pos},PE X (.Name no q) (jL 1):=λ{q}=>gQ h1 k d1 c1;have g:∀{y:Str}{i:Nat}{a b c d:Pos},(∀{q:Pos},PE X (.Name y q) (jL i))->PT X (.Call (.Name "isinstance" a) [.Name y b,.Name "list" c] [] d) (Oo X.K i):=λ{y i a b c d}B=>wA (dR (r:=VP X.K) (vJ .list) o p lB (bR B (bR (oM (v:=.ty (oZ .list)) s t (by decide+kernel) rfl (by decide) (by decide)) dU (bI rfl)) (bI rfl)) (he:=bI rfl));exact cU (nR u hc (oK e) (aQ h h1 l f1) (cU (wM (g f) (cU (jY (xf plainAttrs_list PySem.F.slot_list_clear PySem.F.type_list_clear pK f b1 x) s1) fc) fc) fc)) (cU (wM (g e) (cU (jY (xf plainAttrs_list PySem.F.slot_list_clear PySem.F.type_list_clear pK e b2 z) s2) fc) fc) fc)
end
section
variable{Pg:Program}{w:World}{K:PySem.W.Frag}{mg:Str->Option Value}{base:Heap}
theorem Fo{x qual c no:Str}{st:Stmt}{f:Addr}{fd:FuncData}{k:Nat}(g:iw K x qual st f fd)(S:aL [c,no] [c] (ao st))(j:∀(cdv:Value)(A:Around)(outer:List Env)(s:Shared)(H:Hp)(E:XK),fZ k (A.deeper (envOfC qual (ao st) s.heap.objs.size f cdv))->lY (qi qD Pg w K mg base [c,no] qual (ao st) f cdv A outer s H E).J6 (cZ st) (T7 K)):gP Pg w K mg base qD (k+1) f fd [c] (pJ K):=by refine g.ok S (λl H Q E⟨a,ys,P,e,_⟩=>by rw[e];rfl) λcdv A outer s H l Q E hr h=>?_;obtain⟨a,ys,P,rfl,hs,q⟩:=h;exact⟨_,j cdv A outer s H E hr,zg hs q⟩
structure pg(Pg:Program)(w:World)(K:PySem.W.Frag)(mg:Str->Option Value)(base:Heap)(k:Nat)(c:Call)(g:Nat)(x:Str):Prop where ex:Gf c g=true->∃fa fd qs,gP Pg w K mg base qD k fa fd qs (pJ K)/\mg x=some (.ref fa)/\keepIn K (.ref fa)=true/\Binds K fd qs []/\qs.length=1
end
section
variable{X:Cx}{c:Call}{n:Nat}{st Wk:Stmt}{rest:List Stmt}{u:TS}{s:S}{B:List S}{x o g:Nat}
def LK(X:Cx)(c:Call)(n:Nat)(B:List S)(x o g:Nat)(u:TS):TS:=λD σ H=>∃k e f H0 m ρ1 fl h,(∀b,H0 b=none->∀o u,X.H₀ b≠some (.dI o u))/\GS X.K k e f H0/\e.all yO=true/\((put e o .aC).isSome=true/\(put e x .aC).isSome=true)/\Gf c g=true/\aZ X.K (lf k) e f H0 m ρ1 σ H/\(fj c n B ρ1).bind (lg e x o)=.ok fl h/\∀ l j H2,aZ X.K k e f H0 l h j H2->match fl with|.next=>u D j H2|.ret r=>∀v,bO X.K l h j H2 e f H0 v r->D.rt v H2|_=>False
theorem bV(h1:SS X c n st s)(w:lY X rest (LK X c n B x o g u)):lY X (st::rest) (LK X c n (s::B) x o g u):=by refine sr (cU h1 w) ?_;rintro D σ H⟨z,l,p,H0,A,ρ1,fl,m,C,q,t,ho,E,sp,e,k⟩;rw[Pa]at e;obtain⟨f1,f,j,e⟩:=aa e;obtain⟨f0,h,G,j⟩:=aa j;refine⟨A,ρ1,f0,h,sp.gs,G,λI J H2 s2=>?_⟩;cases f0 with|next=>exact⟨z,l,p,H0,I,h,fl,m,C,q,t,ho,E,sp.trans s2,by rw[show fj c n B h=.ok f1 f from j];exact e,k⟩|brk=>cases j;cases e|cont=>cases j;cases e|ret r=>cases j;intro v L;cases r with|own M=>cases e|val d=>
     have e:(if J8 d=true/\(l.zip f).all zO=true then Res.ok (Fl.ret (R.val d)) (f.map o4)else .stuck)=.ok fl m:=e;split at e;.rename_i hd;cases e;exact k _ _ _ (pF q t hd.2 (sp.trans s2)) v (show Rep X.K _ v d from Ai hd.1 L)
     .cases e
theorem aZ.Bw{m:Hp}{E:List Sl}{h f:L2.St}(t:aZ K F ρ σ H m E h H')(ho:(HH.put ρ o .aC).isSome=true)(w:(HH.put ρ x .aC).isSome=true)(p:f.length=h.length)(hs:∀q,q≠o->f[q]?=h[q]?):aZ K F ρ σ H m ((E.set o .aC).set x .aC) f H':=by
 obtain⟨z,A⟩:=Option.isSome_iff_exists.mp ho;obtain⟨s0,h0,j,_⟩:=lQ A;obtain⟨r,k⟩:=Option.isSome_iff_exists.mp w;obtain⟨s1,h1,C,_⟩:=lQ k;have lo:o<f.length:=by rw[p,<-t.gs.len,t.len];exact(gw h0).1
 have l:x<f.length:=by rw[p,<-t.gs.len,t.len];exact(gw h1).1
 have e:f=(h.set o (f[o]'lo)).set x (f[x]'l):=by
  refine List.ext_getElem? λq=>?_;by_cases c1:q=x;.subst c1;rw[getElem?_set_self (by simp;omega)];simp[l]
  . rw[eX c1];by_cases c2:q=o;.subst c2;rw[getElem?_set_self (by omega)];simp[lo]
    .rw[eX c2];exact hs q c2
 have t1:=t.sY (x:=o) (s:=.aC) (o:=f[o]'lo) rfl (λs1 q=>by rw[h0]at q;cases q;exact j);have v:=t1.sY (x:=x) (s:=.aC) (o:=f[x]'l) rfl (λs2 q=>by rw[h1]at q;cases q;exact C);rw[<-e]at v;exact v
noncomputable def jj(H0 H:Hp):Hp:=λb=>match H b,H0 b with|some (.dI _ (.lst ys)),none=>some (.lst ys)|o,_=>o
theorem Ia{X:Cx}(f:∀b,H0 b=none->∀o u,X.H₀ b≠some (.dI o u)):qL X H (jj H0 H):=⟨λb=>by
 unfold jj;split;.rename_i o ys e h;exact .inr ⟨o,ys,e,rfl,f b h⟩
 .exact .inl rfl⟩
theorem nW(H0 H:Hp)(b:Addr):jj H0 H b=H b\/H0 b=none/\∃o ys,H b=some (.dI o (.lst ys))/\jj H0 H b=some (.lst ys):=by
 unfold jj;split;.rename_i o ys e f;exact .inr ⟨f,o,ys,e,rfl⟩
 .exact .inl rfl
theorem DQ(h:Rd H b (.lst ys))(h0:H0 b=none):jj H0 H b=some (.lst ys):=by unfold jj;rcases h with h|⟨o,h⟩<;>rw[h,h0]
theorem zM(h:fV K H b ys):fV K (jj H0 H) b ys:=by
 rcases h with(h|⟨o,h⟩)|h
 . refine .inl (.inl ?_);rcases nW H0 H b with q|⟨_,o,e,q,_⟩;.rw[q];exact h
   .rw[h]at q;cases q
 . refine .inl (.inr ⟨o,?_⟩);rcases nW H0 H b with q|⟨_,o,e,q,_⟩;.rw[q];exact h
   .rw[h]at q;cases q
 .exact .inr h
theorem Rd.one{xs:List V}(h:Rd F a (.lst xs))(h':Rd F a (.lst ys)):xs=ys:=by rcases h with h|⟨o,h⟩<;>rcases h' with h'|⟨e,h'⟩<;>rw[h]at h'<;>cases h'<;>rfl
theorem vW:∀{f:List D},f.all cJ=true->∃ns:List Int,f=ns.map D.int
 |[],_=>⟨[],rfl⟩|d::f,h=>by
   simp only[all_cons,and_eq_true]at h;obtain⟨ns,e⟩:=vW h.2;cases d<;>first|(have q:=h.1;simp[cJ]at q;done)|skip
   rename_i i;exact⟨i::ns,by rw[e];rfl⟩
def R8(yG:Addr->Prop)(e H':Hp):Prop:=∀b,H' b=e b\/yG b/\(∃ys,e b=some (.lst ys))/\H' b=some (.lst [])
theorem Ff{j:Hp}{yG:Addr->Prop}{d:D}(G:G8 K)(sub:aB j H)(new:∀{a:Addr}{f:List V},Rd j a (.lst f)->yG a/\H0 a=none)(I:R8 yG (jj H0 H) H')(r:Rep K j y d)(hd:rW d=true):∃a ys,y=.ref a/\FW K H' yG a ys:=by
 have tup:∀{b:Addr}{f:List V},fV K j b f->fV K H' b f:=λ{b f}h=>by
  have h2:=zM (H0:=H0) (aB.gG sub h);have J:∀{u:HO},(∀ys,u≠.lst ys)->jj H0 H b=some u->H' b=some u:=λk w=>by
   rcases I b with q|⟨_,⟨ys,q⟩,_⟩;.rw[q];exact w
   .rw[w]at q;cases q;exact absurd rfl (k _)
  rcases h2 with(h2|⟨o,h2⟩)|h2;.exact .inl (.inl (J nofun h2))
  .exact .inl (.inr ⟨o,J nofun h2⟩)
  .exact .inr h2
 have lst:∀{b:Addr}{f:List V},Rd j b (.lst f)->H' b=some (.lst f)\/H' b=some (.lst []):=λ{b f}h=>by
  have:=DQ (Rd.same sub h) (new h).2;rcases I b with q|⟨_,_,q⟩;.exact .inl (by rw[q];exact this)
  .exact .inr q
 have item:∀{z:V}{e:D}{P:Addr->Prop},Rep K j z e->wy e=true->(∀b(ns:List Int),z=.ref b->Rd j b (.lst (ns.map V.int))->P b)->iC K H' P z:=λ{z e P}q he p=>by
  cases e with|non=>rw[Rep]at q;exact .inl q|lst v=>
    rw[Rep]at q;obtain⟨b,O,rfl,h1,h2⟩:=q;obtain⟨ns,rfl⟩:=vW (show v.all cJ=true from he);obtain rfl:=lM h2;rcases h1 with h1|⟨o,A,n,C,E,_⟩
    . rcases lst h1 with w|w;.exact .inr ⟨b,_,rfl,.inl ⟨p b _ rfl h1,w⟩⟩
      .exact .inr ⟨b,[],rfl,.inl ⟨p b _ rfl h1,w⟩⟩
    .exact(G.no C E).elim|tup v=>rw[Rep]at q;obtain⟨b,O,rfl,h1,h2⟩:=q;obtain⟨ns,rfl⟩:=vW (show v.all cJ=true from he);obtain rfl:=lM h2;exact .inr ⟨b,_,rfl,.inr (tup h1)⟩|_=>cases he
 have items:∀{f:List V}{l:List D}{P:Addr->Prop},az K j f l->l.all wy=true->(∀b(ns:List Int),V.ref b∈f->Rd j b (.lst (ns.map V.int))->P b)->∀z∈f,iC K H' P z:=λ{f l P}q he p z L=>by
  obtain⟨i,hi⟩:=List.getElem?_of_mem L;have m:i<l.length:=by rw[<-q.length];exact(gw hi).1
  obtain⟨U,M,Q⟩:=q.get (i:=i) (d:=l[i]) (by simp[m]);rw[hi]at M;cases M;exact item Q (all_eq_true.mp he _ (getElem_mem m)) λb ns e w=>p b ns (e▸L) w
 cases d with|lst l=>
   rw[Rep]at r;obtain⟨a,f,rfl,h1,h2⟩:=r;rcases h1 with h1|⟨o,A,n,C,E,_⟩
   . rcases lst h1 with w|w;.refine⟨a,f,rfl,.inl ⟨⟨(new h1).1,w⟩,items h2 hd λb ns N t=>⟨λe=>?_,(new t).1⟩⟩⟩;subst e;have:=Rd.one h1 t;rw[this]at N;obtain⟨_,_,z⟩:=mem_map.mp N;cases z
     .exact⟨a,[],rfl,.inl ⟨⟨(new h1).1,w⟩,λ_ z=>by cases z⟩⟩
   .exact(G.no C E).elim|tup l=>rw[Rep]at r;obtain⟨a,f,rfl,h1,h2⟩:=r;exact⟨a,f,rfl,.inr ⟨tup h1,items h2 hd λ_ _ _ t=>(new t).1⟩⟩|_=>cases hd
theorem Bd(nl:G8 X.K)(p:Gf c g=true->PS X Wk (Hb (Cp X.K (jL x)) (iQ o) (nU (qg (CZ (pJ X.K) [] E0 (uz (jL o) Gz))) gH)))(r:lY X rest u):lY X (Wk::rest) (LK X c n [] x o g u):=by
 rintro E s σ H D I⟨G,ab,ah,H0,C,ρ1,fl,ac,nf,g0,hl,⟨ho,hx⟩,hv,sp,e,k⟩;refine cU (vN (p hv)) r E s σ H D I ?_;have e:lg ab x o .next ρ1=.ok fl ac:=e;unfold lg at e;simp only at e;split at e
 . rename_i bx rows J;split at e
   . rename_i ae;obtain⟨L,ai,hk⟩:=ae;cases e;obtain⟨A,_,sx,M,am,ys,rfl,N⟩:=sp.gs.own x _ (.l rows) J rfl;have af:Own ρ1 σ A:=⟨x,⟨_,_,J,rfl⟩,sx⟩;have fr:∀{a:Addr}{O:List V},Rd C a (.lst O)->H0 a=none/\uni G C a=none/\¬ Own ρ1 σ a:=λh=>rE g0 hl hk sp h;have Wl:jj H0 H A=some (.lst ys):=by
      rcases nW H0 H A with q|⟨_,_,_,q,_⟩;.rw[q];exact M
      .rw[M]at q;cases q
     obtain⟨ap,hp⟩:=Option.isSome_iff_exists.mp ho;obtain⟨s0,h0,ar,_⟩:=lQ hp;have av:o<σ.length:=by rw[<-sp.gs.len,sp.len];exact(gw h0).1
     let yG:Addr->Prop:=λa=>H0 a=none/\uni G C a=none/\¬ Own ρ1 σ a;refine⟨_,Ia nf,.ref A,sx,A,rfl,⟨ys,cR.of Wl⟩,λi m f H'=>i+m=ys.length/\f.length=σ.length/\(∀q,q≠o->f[q]?=σ[q]?)/\R8 yG (jj H0 H) H',⟨ys.length,by omega,rfl,λ_ _=>rfl,λ_=>.inl rfl⟩,?_⟩;rintro i m f H'⟨hi,Q,Wm,U⟩;have Il:H' A=some (.lst ys):=by
      rcases U A with q|⟨⟨_,_,q⟩,_⟩;.rw[q];exact Wl
      .exact absurd af q
     by_cases ci:i=ys.length
     . refine .inl ⟨⟨ys,cR.of Il,by omega⟩,?_⟩;have stp:=pF g0 hl hk sp;refine k _ _ _ ((stp.Rg (H2:=H') λb=>?_).Bw ho hx Q Wm);have ag:jj H0 H b=H b\/H0 b=none/\uni G C b=none/\¬ Own (ρ1.map o4) σ b:=by
        rcases nW H0 H b with q|⟨W,ob,O,q2,_⟩;.exact .inl q
        . refine .inr ⟨W,?_,λz=>?_⟩
          . have f0:G b=none:=by cases w:G b with|none=>rfl|some u=>rw[g0.sub b u w]at W;cases W
            unfold uni;rw[f0];show Mu (C b)=none;cases w:C b with|none=>rfl|some u=>have:=sp.gs.sub b u w;rw[q2]at this;cases this;rfl
          .obtain⟨j,⟨t,oc,w1,w2⟩,w3⟩:=qP z;obtain⟨a',xs,r1,r2,_,r4⟩:=sp.gs.own j t oc w1 w2;rw[w3]at r1;cases r1;rw[q2]at r2;cases r2;cases oc with|l ds=>obtain⟨_,w,_⟩:=r4;cases w|d m=>cases m<;>(have w:=(show HO.dI ob (.lst O)=_ from r4);cases w)|v aw=>obtain⟨_,w,_⟩:=r4;cases w
       rcases U b with q|⟨⟨n1,n2,n3⟩,_,q⟩;.rw[q];exact ag
       .exact .inr ⟨n1,n2,λz=>n3 (qP z)⟩
     . have Y:i<ys.length:=by omega
       have BW:ys[i]?=some ys[i]:=by simp[Y]
       refine .inr ⟨⟨ys,ys[i],cR.of Il,BW⟩,λf gW=>(i+1)+(m-1)=ys.length/\f.length=σ.length/\(∀q,q≠o->f[q]?=σ[q]?)/\R8 yG (jj H0 H) gW,λf gW w=>⟨m-1,by omega,w⟩,?_⟩;rintro y gW⟨rfl,hy⟩;have:=hy ys (cR.of Il);rw[BW]at this;obtain rfl:=Option.some.inj this;have Z:i<rows.length:=by rw[<-N.length];exact Y
       obtain⟨y',g1,g2⟩:=N.get (i:=i) (d:=rows[i]) (by simp[Z]);rw[BW]at g1;cases g1;obtain⟨a,O,ea,hS⟩:=Ff (yG:=yG) (H0:=H0) nl sp.gs.sub (λh=>⟨fr h,(fr h).1⟩) U g2 (all_eq_true.mp L _ (getElem_mem Z));rw[ea];refine⟨.ref a,by rw[getElem?_set_self (by omega)],a,O,yG,rfl,hS,λH3 e3=>⟨by omega,by rw[length_set];exact Q,λq hq=>by rw[eX hq];exact Wm q hq,λb=>?_⟩⟩;rcases e3.eq b with q|⟨W,⟨ws,q2⟩,q3⟩;.rw[q];exact U b
       . refine .inr ⟨W,?_,q3⟩;rcases U b with w|⟨_,w,_⟩;.exact⟨ws,by rw[<-w];exact q2⟩
         .exact w
   .cases e
 .cases e
theorem pN{h:List Sl}{f fl:Fl}{j:List Sl}(e:lg h x o f ρ=.ok fl j):fl≠.brk/\fl≠.cont:=by cases f with
 |brk=>cases e|cont=>cases e|ret r=>cases r with|own k=>cases e|val d=>
     have e:(if J8 d=true/\(h.zip ρ).all zO=true then Res.ok (Fl.ret (R.val d)) (ρ.map o4)else .stuck)=.ok fl j:=e;split at e;.cases e;exact⟨nofun,nofun⟩
     .cases e
 |next=>
   unfold lg at e;simp only at e;split at e
   . split at e;.cases e;exact⟨nofun,nofun⟩
     .cases e
   .cases e
theorem nJ(s:Sl):lst? (jc s)=lst? s:=by cases s<;>rfl
theorem iZ:aM (ρ.map jc) σ i a↔aM ρ σ i a:=by
 constructor;.rintro⟨⟨s,f,e,j⟩,h⟩;rw[getElem?_map]at e;obtain⟨t,k,l⟩:=map_some e;exact⟨⟨t,f,k,by rw[<-nJ,l];exact j⟩,h⟩
 .rintro⟨⟨s,f,e,j⟩,h⟩;exact⟨⟨jc s,f,by rw[getElem?_map,e];rfl,by rw[nJ];exact j⟩,h⟩
theorem Gm(g:GS K F ρ σ H):GS K F (ρ.map jc) σ H:=by
 refine⟨g.sub,by rw[length_map];exact g.len,λi b d e=>?_,λi s k e l=>?_,λi j a h1 m=>g.dis i j a (iZ.mp h1) (iZ.mp m)⟩;.rw[getElem?_map]at e;obtain⟨t,f,h⟩:=map_some e;cases t<;>cases h;exact g.val i _ _ f
 .rw[getElem?_map]at e;obtain⟨t,f,h⟩:=map_some e;exact g.own i t k f (by rw[<-nJ,h];exact l)
theorem Bp{m:Hp}{f:List Sl}{j:L2.St}(s:aZ K F (ρ.map jc) σ H m f j H'):aZ K F ρ σ H m f j H':=by have k:∀{b:Addr},Own (ρ.map jc) σ b↔Own ρ σ b:=λ{b}=>⟨λ⟨i,h⟩=>⟨i,iZ.mp h⟩,λ⟨i,h⟩=>⟨i,iZ.mpr h⟩⟩;refine⟨s.gs,s.cA,λb n p=>(s.oX b n p).imp k.mp id,λb o e n=>s.keep b o e λz=>n (k.mp z),λb h=>(s.mF b h).imp k.mp id,by rw[s.len,length_map],λi t h l=>?_⟩;refine s.lk i t ?_ l;rw[getElem?_map,h];cases t with
 |own b q=>cases b with|true=>rfl|false=>cases l
 |_=>rfl
theorem zx{j:Hp}{e:List Sl}{f:L2.St}{v:V}{r:R}(h:bO K j e f H' (ρ.map jc) σ H v r):bO K j e f H' ρ σ H v r:=by cases r with|val d=>exact h|own w=>obtain⟨a,xs,h1,k,l,m,p,t⟩:=h;exact⟨a,xs,h1,k,l,m,p,t.imp (λ⟨i,q⟩=>⟨i,iZ.mp q⟩) id⟩
theorem HJ{j:List Stmt}{ss:List S}(h:lY X j (LK X c n B x o g (JK X.K (fj c n ss)))):SB X c n j (.emp B x o g::ss):=by
 rintro l s σ H D I⟨F,ρ,fl,p,L,e,k⟩;rw[Pa]at e;obtain⟨f1,ρ1,f,e⟩:=aa e;have f:(if(ρ.map jc).all yO=true/\((put (ρ.map jc) o .aC).isSome=true/\(put (ρ.map jc) x .aC).isSome=true)/\Gf c g=true then(fj c n B (ρ.map jc)).bind (lg (ρ.map jc) x o)else .stuck)=.ok f1 ρ1:=f;split at f
 . rename_i m;have E:=Gm L;refine h l s σ H D I ⟨F,ρ.map jc,σ,H,lf F,ρ.map jc,f1,ρ1,λq G o u z=>?_,E,m.1,m.2.1,m.2.2,.refl (Gd E m.1),f,λJ t H2 s2=>?_⟩;.rw[I.base.lV q o u z]at G;cases G
   .have s2:=Bp s2;cases f1 with
     |next=>refine⟨J,ρ1,fl,p,s2.gs,e,λM w N s3=>?_⟩;have q:=k M w N (s2.trans s3);cases fl with|next=>exact q|brk=>exact q|cont=>exact q|ret r=>exact λv A=>q v (A.later s2)
     |ret r=>cases e;exact λv A=>k J t H2 s2 v (zx A)|brk=>obtain⟨O,C,_,f⟩:=aa f;exact absurd rfl (pN f).1|cont=>obtain⟨O,C,_,f⟩:=aa f;exact absurd rfl (pN f).2
 .cases f
variable{k:Nat}{nx no fn:Str}{q1 q2 q3 q4 q5 q6 q7:Pos}
theorem vU{ss:List S}(q:G8 X.K)(CE:pg X.prog X.w X.K X.mg X.base k c g fn)(hr:fZ k X.A)(r:PassesOwn (model X.prog X.w) X.A X.env X.xe)(hc:X.calm=true)(t:X.N.Nodup)(v:X.N[x]?=some nx)(z:vG X.env.scope nx)(ho:X.N[o]?=some no)(C:vG X.env.scope no)(lo:Loc X.env.scope no)(e:SB X c n rest ss)(f:Gl X fn:=by rfl)(h:(fn==("__debug__":Str))=false:=by rfl)(j:(nx==("__debug__":Str))=false:=by rfl)(l:(nx==("__classdict__":Str))=false:=by rfl)(m:(no==("__debug__":Str))=false:=by rfl)(p:(no==("__classdict__":Str))=false:=by rfl)(s1:swapsWith (.Call (.Name fn q3) [.Name no q4] [] q5) none q6.line X.env=pure false:=by rfl)(f1:X.fn no=true\/X.env.scope.names.lookup no=some .local:=by first|exact .inl rfl|exact .inr rfl|assumption):lY X (.For (.Name no q1) (.Name nx q2) [.Expr (.Call (.Name fn q3) [.Name no q4] [] q5) q6] [] q7::rest) (LK X c n [] x o g (JK X.K (fj c n ss))):=by refine Bd q (λG=>?_) e;obtain⟨I,fd,J,c1,c2,c3,c4,c5⟩:=CE.ex G;exact nR r hc (An (gQ v z j l)) (aQ t ho lo f1) (cU (jY (tL (E:=E0) c1 hr f c2 c3 c4 .nil Dm (bR (gQ ho C m p) dU (bI rfl)) h (bI rfl) rfl) s1) fc)
end
section
variable{Pg:Program}{w:World}{K:PySem.W.Frag}{mg:Str->Option Value}{base h:Heap}
theorem Gq{Γ:Tab}{c:Nat}{x:Str}:pg Pg w K mg base 0 (run Γ c 0) i x:=⟨λh=>by cases h⟩
theorem Ei{Γ:Tab}{g n:Nat}{x:Str}{st:Stmt}{ps:List Str}(X:K.In h)(G:h.Ns mainGlobals mg)(D:bN K x st)(j:ps.length=1)(k:∀(kV c l:Value)(m:Option Addr)(cdv ct:Value)(e:List Value),e.length=ps.length->bindArgs (PySem.W.fnOf x x (fG st) (cZ st) (ao st) .none kV c l m cdv ct) ⟨e,[]⟩=pure (ps.zip e))(ok:∀f fd,iw K x x st f fd->gP Pg w K mg base qD (n+1) f fd ps (pJ K)):pg Pg w K mg base (n+1) (run Γ g (n+1)) i x:=⟨λ_=>by obtain⟨f,fd,a,F⟩:=D.ex;exact⟨f,fd,ps,ok f fd F,mg_of X G a,F.kp,F.binds k,j⟩⟩
end
structure Gb(ρ ρ1:List Sl)(xs:List Nat):Prop where
 len:ρ1.length=ρ.length
 inn:∀i∈xs,∃ds,ρ[i]?=some (.own false ds)/\ρ1[i]?=some (.lent ds)out:∀i,i∉xs->ρ1[i]?=ρ[i]?
theorem um:∀{xs:List Nat}{ρ ρ1:List Sl},uK ρ xs=some ρ1->Gb ρ ρ1 xs
 |[],ρ,ρ1,h=>by cases h;exact⟨rfl,by simp,λ_ _=>rfl⟩|x::r,ρ,ρ1,h=>by
   unfold uK at h;split at h
   . rename_i l e;obtain⟨m,c,f⟩:=um h;have g:x∉r:=λz=>by obtain⟨j,q,_⟩:=c x z;rw[getElem?_set_self (gw e).1]at q;cases q
     refine⟨by rw[m,length_set],λi hi=>?_,λi hi=>?_⟩
     . rcases mem_cons.mp hi with rfl|hi;.exact⟨l,e,by rw[f i g,getElem?_set_self (gw e).1]⟩
       .obtain⟨j,k,n⟩:=c i hi;have:x≠i:=λz=>g (z▸hi);rw[getElem?_set_ne this]at k;exact⟨j,k,n⟩
     .rw[mem_cons,not_or]at hi;rw[f i hi.2,getElem?_set_ne (Ne.symm hi.1)]
   .cases h
theorem jg:∀{xs:List Nat}{ρ:List Sl},(jn ρ xs).length=ρ.length
 |[],_=>rfl|x::r,ρ=>by
   unfold jn;split;.rw[jg,length_set]
   .exact jg
theorem gn:∀{xs:List Nat}{ρ:List Sl}{i:Nat},(jn ρ xs)[i]?=ρ[i]?\/i∈xs/\∃f,ρ[i]?=some (.lent f)/\(jn ρ xs)[i]?=some (.own false f)
 |[],_,_=>.inl rfl|x::r,ρ,i=>by
   unfold jn;split
   . rename_i f e;by_cases c:x=i
     . subst c;have hs:(ρ.set x (.own false f))[x]?=some (.own false f):=getElem?_set_self (gw e).1;rcases gn (xs:=r) (ρ:=ρ.set x (.own false f)) (i:=x)with q|⟨_,g,q,_⟩;.exact .inr ⟨by simp,f,e,by rw[q,hs]⟩
       .rw[hs]at q;cases q
     . have hs:(ρ.set x (.own false f))[i]?=ρ[i]?:=getElem?_set_ne c;rcases gn (xs:=r) (ρ:=ρ.set x (.own false f)) (i:=i)with q|⟨h,g,q,j⟩;.exact .inl (by rw[q,hs])
       .exact .inr ⟨by simp[h],g,by rw[<-hs];exact q,j⟩
   . rcases gn (xs:=r) (ρ:=ρ) (i:=i)with q|⟨h,g,q,j⟩;.exact .inl q
     .exact .inr ⟨by simp[h],g,q,j⟩
section
variable{K:PySem.W.Frag}{F H F1 H1:Hp}{ρ ρ1 ρ2:List Sl}{σ σ1:L2.St}{xs:List Nat}
theorem Gb.at(l:Gb ρ ρ1 xs){i:Nat}{s:Sl}(e:ρ1[i]?=some s):ρ[i]?=some s\/i∈xs/\∃c,s=.lent c/\ρ[i]?=some (.own false c):=by
 by_cases h:i∈xs;.obtain⟨c,g,f⟩:=l.inn i h;rw[e]at f;cases f;exact .inr ⟨h,c,rfl,g⟩
 .exact .inl (by rw[<-l.out i h];exact e)
theorem Gb.own(l:Gb ρ ρ1 xs):aM ρ1 σ i a↔aM ρ σ i a:=by
 constructor
 . rintro⟨⟨s,o,e,f⟩,h⟩;rcases l.at e with q|⟨_,j,rfl,q⟩;.exact⟨⟨s,o,q,f⟩,h⟩
   .exact⟨⟨_,o,q,f⟩,h⟩
 . rintro⟨⟨s,o,e,f⟩,h⟩;by_cases c:i∈xs;.obtain⟨j,g,k⟩:=l.inn i c;rw[e]at g;cases g;exact⟨⟨_,o,k,f⟩,h⟩
   .exact⟨⟨s,o,by rw[l.out i c];exact e,f⟩,h⟩
theorem GS.lnd(g:GS K F ρ σ H)(l:Gb ρ ρ1 xs):GS K F ρ1 σ H:=by
 refine⟨g.sub,by rw[l.len];exact g.len,λi b d e=>?_,λi s o e c=>?_,λi j a h1 f=>g.dis i j a (l.own.mp h1) (l.own.mp f)⟩
 . rcases l.at e with q|⟨_,h,q,_⟩;.exact g.val i b d q
   .cases q
 . rcases l.at e with q|⟨_,h,rfl,q⟩;.exact g.own i s o q c
   .exact g.own i _ o q c
theorem aZ.jn(l:Gb ρ ρ1 xs)(t:aZ K F ρ1 σ H F1 ρ2 σ1 H1):aZ K F ρ σ H F1 (HH.jn ρ2 xs) σ1 H1:=by
 have g:∀{i:Nat}{a:Addr},aM (HH.jn ρ2 xs) σ1 i a->aM ρ2 σ1 i a:=λ{i a}⟨⟨s,o,e,c⟩,h⟩=>by
  rcases gn (xs:=xs) (ρ:=ρ2) (i:=i)with q|⟨_,m,q,f⟩;.exact⟨⟨s,o,by rw[<-q];exact e,c⟩,h⟩
  .rw[f]at e;cases e;exact⟨⟨_,o,q,c⟩,h⟩
 have p:∀{b:Addr},Own ρ1 σ b↔Own ρ σ b:=λ{b}=>⟨λ⟨i,h⟩=>⟨i,l.own.mp h⟩,λ⟨i,h⟩=>⟨i,l.own.mpr h⟩⟩;refine⟨⟨t.gs.sub,by rw[jg];exact t.gs.len,λi b d e=>?_,λi s o e c=>?_,λi j a h1 r=>t.gs.dis i j a (g h1) (g r)⟩,t.cA,λb n u=>(t.oX b n u).imp p.mp id,λb o e n=>t.keep b o e λz=>n (p.mp z),λb⟨i,h⟩=>(t.mF b ⟨i,g h⟩).imp p.mp id,by rw[jg,t.len,l.len],λi s e k=>?_⟩
 . rcases gn (xs:=xs) (ρ:=ρ2) (i:=i)with q|⟨_,m,q,f⟩;.exact t.gs.val i b d (by rw[<-q];exact e)
   .rw[f]at e;cases e
 . rcases gn (xs:=xs) (ρ:=ρ2) (i:=i)with q|⟨_,m,q,f⟩;.exact t.gs.own i s o (by rw[<-q];exact e) c
   .rw[f]at e;cases e;exact t.gs.own i _ o q c
 . have hi:i∉xs:=λz=>by obtain⟨m,q,_⟩:=l.inn i z;rw[e]at q;cases q;cases k
   obtain⟨v,w,x,A⟩:=t.lk i s (by rw[l.out i hi];exact e) k;refine⟨v,w,?_,A⟩;rcases gn (xs:=xs) (ρ:=ρ2) (i:=i)with q|⟨h,_⟩;.rw[q];exact x
   .exact absurd h hi
theorem vZ{x o:Nat}{c:List D}(g:GS K F ρ σ H)(ex:ρ[x]?=some (.lent c))(ho:(HH.put ρ o .aC).isSome=true)(w:σ[x]?=some (some (V.ref a))):GS K F ((ρ.set x (.hold [])).set o (.lent c)) (σ.set o (some (V.ref a))) H/\∀F1 ρ2 σ1 H1,aZ K F ((ρ.set x (.hold [])).set o (.lent c)) (σ.set o (some (V.ref a))) H F1 ρ2 σ1 H1->aZ K F ρ σ H F1 ((ρ2.set o .aC).set x (.lent c)) σ1 H1:=by
 obtain⟨ae,hp⟩:=Option.isSome_iff_exists.mp ho;obtain⟨s0,A,k0,_⟩:=lQ hp;have J:x≠o:=by rintro rfl;rw[ex]at A;cases A;cases k0
 have ox:o≠x:=Ne.symm J;have lx:=(gw ex).1;have lo:=(gw A).1;have L:o<σ.length:=by rw[<-g.len];exact lo
 obtain⟨a',_,w1,w2,w3,ys,rfl,w4⟩:=g.own x _ (.l c) ex rfl;rw[w]at w1;cases w1;have M:((ρ.set x (.hold [])).set o (.lent c))[o]?=some (.lent c):=getElem?_set_self (by rw[length_set];exact lo);have B:((ρ.set x (.hold [])).set o (.lent c))[x]?=some (.hold []):=by rw[getElem?_set_ne ox,getElem?_set_self lx]
 have C:∀{i:Nat},i≠o->i≠x->((ρ.set x (.hold [])).set o (.lent c))[i]?=ρ[i]?:=λh1 m=>by rw[eX h1,eX m]
 have N:(σ.set o (some (V.ref a)))[o]?=some (some (V.ref a)):=getElem?_set_self L;have v:∀{i:Nat},i≠o->(σ.set o (some (V.ref a)))[i]?=σ[i]?:=λh=>eX h--whose thing lies where,in the turn
 have O:∀{i:Nat}{b:Addr},aM ((ρ.set x (.hold [])).set o (.lent c)) (σ.set o (some (V.ref a))) i b->(i=o/\b=a)\/(i≠o/\i≠x/\aM ρ σ i b):=λ{i b}⟨⟨s,p,e,f⟩,h⟩=>by
  by_cases c1:i=o;.subst c1;rw[N]at h;cases h;exact .inl ⟨rfl,rfl⟩
  . by_cases c2:i=x;.subst c2;rw[B]at e;cases e;cases f
    .exact .inr ⟨c1,c2,⟨s,p,by rw[<-C c1 c2];exact e,f⟩,by rw[<-v c1];exact h⟩
 have E:aM ρ σ x a:=⟨⟨_,_,ex,rfl⟩,w⟩;have Q:∀{b:Addr},Own ((ρ.set x (.hold [])).set o (.lent c)) (σ.set o (some (V.ref a))) b->Own ρ σ b:=λ{b}⟨i,h⟩=>by
  rcases O h with⟨_,rfl⟩|⟨_,_,h⟩;.exact⟨x,E⟩
  .exact⟨i,h⟩
 refine⟨⟨g.sub,by simp[g.len],λi b d e=>?_,λi s p e f=>?_,λi j b h1 m=>?_⟩,λF1 ρ2 σ1 H1 t=>?_⟩
 . by_cases c1:i=o;.subst c1;rw[M]at e;cases e
   . by_cases c2:i=x;.subst c2;rw[B]at e;cases e
     .rw[v c1];exact g.val i b d (by rw[<-C c1 c2];exact e)
 . by_cases c1:i=o;.subst c1;rw[M]at e;cases e;cases f;exact⟨a,_,N,w2,w3,ys,rfl,w4⟩
   . by_cases c2:i=x;.subst c2;rw[B]at e;cases e;cases f
     .rw[v c1];exact g.own i s p (by rw[<-C c1 c2];exact e) f
 . rcases O h1 with⟨U,b1⟩|⟨n1,n2,q⟩<;>rcases O m with⟨W,b2⟩|⟨m1,m2,r⟩;.rw[U,W]
   .rw[b1]at r;exact absurd (g.dis _ _ _ E r).symm m2
   .rw[b2]at q;exact absurd (g.dis _ _ _ q E) n2
   .exact g.dis _ _ _ q r
 . obtain⟨X,s1,Y,Z⟩:=t.lk o _ M rfl;obtain⟨G,s2,r2,r3⟩:=t.lk x _ B rfl;have Z:s1=.lent c:=Z;subst Z;rw[N]at X;rw[v J,w]at G;have ab:=(gw Y).1;have ac:=(gw r2).1;have UW:((ρ2.set o .aC).set x (.lent c))[x]?=some (.lent c):=getElem?_set_self (by rw[length_set];exact ac);have U0:((ρ2.set o .aC).set x (.lent c))[o]?=some .aC:=by rw[getElem?_set_ne J,getElem?_set_self ab]
   have I:∀{i:Nat},i≠o->i≠x->((ρ2.set o .aC).set x (.lent c))[i]?=ρ2[i]?:=λh1 m=>by rw[eX m,eX h1]
   have oe:∀{i:Nat}{b:Addr},aM ((ρ2.set o .aC).set x (.lent c)) σ1 i b->(i=x/\b=a)\/(i≠o/\i≠x/\aM ρ2 σ1 i b):=λ{i b}⟨⟨s,p,e,f⟩,h⟩=>by
    by_cases c1:i=x;.subst c1;rw[G]at h;cases h;exact .inl ⟨rfl,rfl⟩
    . by_cases c2:i=o;.subst c2;rw[U0]at e;cases e;cases f
      .exact .inr ⟨c2,c1,⟨s,p,by rw[<-I c2 c1];exact e,f⟩,h⟩
   have a2:aM ρ2 σ1 o a:=⟨⟨_,_,Y,rfl⟩,X⟩;refine⟨⟨t.gs.sub,by simp[t.gs.len],λi b d e=>?_,λi s p e f=>?_,λi j b h1 m=>?_⟩,t.cA,λb n n'=>(t.oX b n n').imp Q id,λb u e n=>t.keep b u e λz=>n (Q z),λb⟨i,h⟩=>?_,by simp[t.len],λi s e k=>?_⟩
   . by_cases c1:i=x;.subst c1;rw[UW]at e;cases e
     . by_cases c2:i=o;.subst c2;rw[U0]at e;cases e
       .exact t.gs.val i b d (by rw[<-I c2 c1];exact e)
   . by_cases c1:i=x;.subst c1;rw[UW]at e;cases e;cases f;obtain⟨b,_,v1,v2,v3,zs,rfl,v4⟩:=t.gs.own o _ (.l c) Y rfl;rw[X]at v1;cases v1;exact⟨a,_,G,v2,v3,zs,rfl,v4⟩
     . by_cases c2:i=o;.subst c2;rw[U0]at e;cases e;cases f
       .exact t.gs.own i s p (by rw[<-I c2 c1];exact e) f
   . rcases oe h1 with⟨U,b1⟩|⟨n1,n2,q⟩<;>rcases oe m with⟨W,b2⟩|⟨m1,m2,r⟩;.rw[U,W]
     .rw[b1]at r;exact absurd (t.gs.dis _ _ _ a2 r).symm m1
     .rw[b2]at q;exact absurd (t.gs.dis _ _ _ q a2) n1
     .exact t.gs.dis _ _ _ q r
   . rcases oe h with⟨_,rfl⟩|⟨_,_,h⟩;.exact .inl ⟨x,E⟩
     .exact(t.mF b ⟨i,h⟩).imp Q id
   . by_cases c1:i=x;.subst c1;rw[ex]at e;cases e;exact⟨by rw[G,w],_,UW,rfl⟩
     . by_cases c2:i=o;.subst c2;rw[A]at e;cases e;rw[k0]at k;cases k
       .obtain⟨z1,s',z2,z3⟩:=t.lk i s (by rw[C c2 c1];exact e) k;exact⟨by rw[z1,v c2],s',by rw[I c2 c1];exact z2,z3⟩
end
section
variable{X:Cx}{c:Call}{n:Nat}{pos:Pos}{body:List Stmt}{ss:List S}
def Ph(X:Cx)(f:List Expr)(xs:List Nat):Prop:=PA X f (λσ H Q=>∃e:List V,e.length=xs.length/\(∀(j x:Nat),xs[j]?=some x->∃v,e[j]?=some v/\σ[x]?=some (some v))/\Q e H)
theorem zA:Ph X [] []:=iV dU λ_ _ _⟨e,h,_,q⟩=>by rw[List.eq_nil_of_length_eq_zero h]at q;exact q
theorem j9{x:Nat}{y:Str}{p:Pos}{f:List Expr}{xs:List Nat}(l:X.N[x]?=some y)(m:vG X.env.scope y)(h:Ph X f xs)(hd:(y==("__debug__":Str))=false:=by rfl)(g:(y==("__classdict__":Str))=false:=by rfl)(hs:starEach (.Name y p::f) X.env=(false,eval (.Name y p) X.env)::starEach f X.env:=by rfl):Ph X (.Name y p::f) (x::xs):=iV (bR (gQ l m hd g) h hs) λσ H Q⟨k,hl,hq,q⟩=>by cases k with|nil=>cases hl|cons v k=>obtain⟨s,o,r⟩:=hq 0 x rfl;cases o;exact⟨v,r,k,by simpa using hl,λj y e=>hq (j+1) y (by simpa using e),q⟩
theorem Bf{o:Nat}{x:Str}{Y:List Expr}{xs:List Nat}{B N6:Pos}(hp:PassesOwn (model X.prog X.w) X.A X.env X.xe)(hc:X.calm=true)(hN:X.N.Nodup)(Z:X.N[o]?=some x)(hx:Loc X.env.scope x)(he:Ph X Y xs)(hb:SB X c n body ss)(ag:xs.length<=30)(hs:∀x,foldedSetIterable (.List Y N6) X.env x=pure x:=by intro _;rfl)(hf:X.fn x=true\/X.env.scope.names.lookup x=some .local:=by first|exact .inl rfl|exact .inr rfl|assumption):SS X c n (.For (.Name x B) (.List Y N6) body [] pos) (.yF o xs ss):=by
 refine jd (nR hp hc (oK (xK he)) (aQ hN Z hx hf) hb hs) ?_;rintro E σ H⟨F,ρ,fl,ah,g0,e,k⟩;rw[ex]at e;obtain⟨ρ1,ai,L,e⟩:=aa e;have zz:=aJ L;clear L;obtain⟨L,e2⟩:=zz;subst e2;obtain⟨f2,C,e2,e3⟩:=aa e;cases e3;have l:=um L;have g1:=g0.lnd l--what the names hold
 have own:∀j y,xs[j]?=some y->∃a,σ[y]?=some (some (V.ref a)):=λj y h=>by obtain⟨ds,q,_⟩:=l.inn y (mem_of_getElem? h);obtain⟨a,_,w,_⟩:=g0.own y _ (.l ds) q rfl;exact⟨a,w⟩
 obtain⟨g,ab,G⟩:∃g:List V,g.length=xs.length/\∀(j y:Nat),xs[j]?=some y->∃v,g[j]?=some v/\σ[y]?=some (some v):=by refine⟨xs.map λy=>((σ[y]?).getD none).getD .non,by simp,λj y h=>?_⟩;obtain⟨a,I⟩:=own j y h;exact⟨.ref a,by rw[getElem?_map,h];simp[I],I⟩
 refine⟨g,ab,G,by rw[sizeLine_eq];omega,λq hq=>⟨q,rfl,.inl ⟨⟨g,cR.of aO⟩,λj m p M=>∃z f,aZ X.K F ρ1 σ H z f p M/\Kp f p M q (.lst g)/\j+m=xs.length/\yL o (fj c n ss) (xs.drop j) f=.ok f2 C,⟨xs.length,F,ρ1,?_,⟨aO,λ⟨j,⟨s',ac,y,y'⟩,y1⟩=>?_⟩,by omega,e2⟩,?_⟩⟩⟩;.exact(show Ext F H F (upd H q (.lst g))from⟨aB.cz hq,.refl _,g1.sub.trans (aB.cz hq),λ_ a b=>absurd a b⟩).stp g1
 .obtain⟨ad,ob,O,z2,_⟩:=g1.own j s' ac y y';rw[y1]at O;cases O;rw[hq]at z2;cases z2
 . rintro j m p M⟨z,f,Q,U,hj,s⟩;by_cases c1:j=xs.length;.left;rw[c1,List.drop_length]at s;cases s;exact⟨⟨g,cR.of U.1,by omega⟩,k z p M (aZ.jn l Q)⟩
   . have t:j<xs.length:=by omega
     have hy:xs[j]?=some xs[j]:=by simp[t]
     rw[List.drop_eq_getElem_cons t]at s;obtain⟨a,I⟩:=own j _ hy;obtain⟨v,v1,v2⟩:=G j _ hy;rw[I]at v2;cases v2;obtain⟨am,_,w2⟩:=l.inn xs[j] (getElem_mem t);obtain⟨O,_⟩:=Q.lk _ _ w2 rfl;generalize xs[j]=y at*;rw[yL]at s;split at s;.rename_i ds ap ey ep;obtain⟨fb,J,eb,W⟩:=aa s;have ht:=vZ (o:=o) Q.gs ey (by rw[ep];rfl) (by rw[O];exact I);refine .inr ⟨⟨g,.ref a,cR.of U.1,v1⟩,λu H'=>∃z f,aZ X.K F ρ1 σ H z f u H'/\Kp f u H' q (.lst g)/\(j+1)+(m-1)=xs.length/\yL o (fj c n ss) (xs.drop (j+1)) f=.ok f2 C,λu H' w=>⟨m-1,by omega,w⟩,?_⟩;rintro x' H'⟨rfl,ae⟩;have:=ae _ (cR.of U.1);rw[v1]at this;cases this;refine⟨z,_,fb,J,ht.1,eb,λF4 af H4 s4=>?_⟩;have s5:=ht.2 F4 J af H4 s4;cases fb with|next=>exact⟨F4,_,Q.trans s5,U.stp s5,by omega,W⟩|brk=>cases W|cont=>cases W|ret r=>cases W
     .cases s
end
end HH
end
noncomputable section
set_option maxHeartbeats 4000000
namespace T
open PySem L2 PySem.Spec PyProof.Rows HH
local macro_rules|`(term|⇑$n)=>`(P.con (.int $n))
local macro_rules|`(term|↑$n)=>`(P.var $n)
local macro_rules|`(tactic|ac_rfl)=>`(tactic|first|exact Or.inl rfl|exact Or.inr (Or.inl rfl))
set_option hygiene false
local macro_rules|`(term|↥($a,$b,$d))=>`(gP Pg w K mg base qD (k+1) f fd $a (yV K $b (λargs=>enter c n $d args)))
local macro_rules|`(term|↥($a,$b,$d,0))=>`(bC Pg w K mg base k c $a $b $d)
set_option hygiene true
local macro_rules|`(term|⇑($x))=>`(λ_ _ _ _ _=>$x)
local macro_rules|`(term|nofun)=>`(⟨rfl,rfl,rfl,by decide+kernel,rfl,by decide+kernel,by decide+kernel⟩)
local macro_rules|`(tactic|exists$e)=>`(tactic|with_reducible refine$e)
local macro_rules|`(tactic|lia)=>`(tactic|with_reducible refine aX ?_ ?_)
set_option hygiene false
local macro_rules|`(tactic|exists$i,$e)=>`(tactic|((with_reducible refine qU (i:=$i) ?_ ?_ ?_ ?_ ?_ ?_);exact nd;exact rfl;exact oi;rotate_left;rfl;exact oi;exact$e))
local macro_rules|`(tactic|exists$i,$e,0)=>`(tactic|((with_reducible refine Av (i:=$i) ?_ ?_ ?_ ?_ ?_ ?_ ?_ ?_ ?_);exact PassesOwn.never;exact hc;exact nd;exact rfl;exact oi;exact$e;rotate_left;(· intro _;rfl);exact oi))
local macro_rules|`(tactic|exists$a,$b,0,0)=>`(tactic|(refine Ln $a $b rfl rfl λcdv A outer s H E hr=>?_;have nd:=($b).nd))
local macro_rules|`(tactic|exists(),$e)=>`(tactic|((with_reducible refine Ge ?_);exact$e))
set_option hygiene true
local macro_rules|`(term|‹$l›)=>`((show(($l):List Str).Nodup by decide+kernel))
theorem hc:true=true:=rfl
theorem oi{b:Type}{a:b}{p:Prop}:a=a\/p:=.inl rfl
theorem aU{X:Cx}{c:Call}{a:Expr}{b:List Expr}{e:P}{ps:List P}(f:SX X c a e)(hr:SG X c b ps)(h:Ra a=true):SG X c (a::b) (e::ps):=zj f hr (bI h)
theorem cW{X:Cx}{c:Call}{a:Expr}{b:List Expr}{e:P}{ps:List P}(f:SX X c a e)(hr:SA X c b ps)(h:Ra a=true):SA X c (a::b) (e::ps):=j0 f hr (bI h)
variable{Pg:Program}{w:World}{K:PySem.W.Frag}{mg:Str->Option Value}{base:Heap}{f:Addr}{fd:FuncData}{k n:Nat}{c:Call}{cl:Nat->Addr}
noncomputable def top(i:Nat):Stmt:=PySem.Challenge.pw_hourhaul_k57_calendars_made.main.body.getD i (.Pass ⟨0,0,0,0⟩)
abbrev s0:Stmt:=top 4
noncomputable def b0:List S:=[.ret (.and (.inst [.int] ↑0) (.not (.inst [.bool] ↑0)))]
def f0:Fd:=⟨1,1,b0⟩
theorem sc0:aL ["thing"] ["thing"] (ao s0):=nofun
include cl in
theorem d0(a:iw K "is_whole" "is_whole" s0 f fd)(jF:mg "bool"=none)(jo:mg "int"=none)(aF:mg "isinstance"=none):↥(["thing"],1,f0):=by
 exists a,sc0,0,0;refine aX ?_ ?_;.exists(),bW (fX .int rfl (by rfl) aF (sv 0) (by rfl) jo (by kernel_rfl) (by decide) (by rfl)) (dJ (wK (fX .bool rfl (by rfl) aF (sv 0) (by rfl) jF (by kernel_rfl) (by decide) (by rfl))))
 exact au
abbrev s1:Stmt:=top 5
noncomputable def b1:List S:=[.ret (.and (.call 0 [↑0]) (.chain .le .le ↑1 ↑0 ↑2))]
def f1:Fd:=⟨3,3,b1⟩
theorem sc1:aL ["thing","least","most"] ["thing","least","most"] (ao s1):=nofun
include cl in
theorem d1(a:iw K "whole_within" "whole_within" s1 f fd)(b:↥(0,"is_whole",1,0)):↥(["thing","least","most"],3,f1):=by
 exists a,sc1,0,0;refine aX ?_ ?_;.exists(),bW (dg b hr (aU (sv 0) aq rfl)) (dJ (yp qI qI (sv 1) (sv 0) (sv 2)))
 exact au
abbrev s2:Stmt:=top 6
noncomputable def b2:List S:=[.ret (.inst [.list,.tuple] ↑0)]
def f2:Fd:=⟨1,1,b2⟩
theorem sc2:aL ["thing"] ["thing"] (ao s2):=nofun
include cl in
theorem d2(a:iw K "is_row" "is_row" s2 f fd)(aF:mg "isinstance"=none)(dG:mg "list"=none)(aN:mg "tuple"=none):↥(["thing"],1,f2):=by
 exists a,sc2,0,0;refine aX ?_ ?_;.exists(),xQ rfl (by rfl) aF (sv 0) (pZ .list (by rfl) dG (by kernel_rfl) (pZ .tuple (by rfl) aN (by kernel_rfl) yZ (by decide) (by rfl)) (by decide) (by rfl))
 exact au
abbrev s3:Stmt:=top 13
noncomputable def b3:List S:=[.ret (.and (.call 2 [↑1]) (.and (.cmp .eq (.blt .len [↑1]) ⇑4) (.and (.call 1 [.idx ↑1 ⇑0,⇑0,.bin .sub ↑0 ⇑1]) (.and (.call 1 [.idx ↑1 ⇑1,⇑0,.bin .sub ↑0 ⇑1]) (.and (.cmp .ne (.idx ↑1 ⇑0) (.idx ↑1 ⇑1)) (.and (.call 1 [.idx ↑1 ⇑2,⇑0,.glob "MOST_ROOM" (.int 1000000000)]) (.call 1 [.idx ↑1 ⇑3,⇑1,.glob "MOST_HOURS" (.int 1000000)])))))))]
def f3:Fd:=⟨2,2,b3⟩
theorem sc3:aL ["many","thing"] ["many","thing"] (ao s3):=nofun
include cl in
theorem d3(b:iw K "is_way" "is_way" s3 f fd)(bK:mg "len"=none)(gB:∃t,mg "MOST_HOURS"=some (Value.int 1000000 t))(cP:∃t,mg "MOST_ROOM"=some (Value.int 1000000000 t))(e:↥(2,"is_row",1,0))(a:↥(1,"whole_within",3,0)):↥(["many","thing"],2,f3):=by
 exists b,sc3,0,0;refine aX ?_ ?_;.exists(),bW (dg e hr (aU (sv 1) aq rfl)) (bW (fL (ju (fM hr)) (eF rfl (by rfl) bK (sv 1)) aj (bH _)) (bW (dg a hr (aU (aG (sv 1) aj) (aU aj (aU (aA gq (sv 0) aj) aq rfl) rfl) rfl)) (bW (dg a hr (aU (aG (sv 1) aj) (aU aj (aU (aA gq (sv 0) aj) aq rfl) rfl) rfl)) (bW (fL (n6 (fM hr)) (aG (sv 1) aj) (aG (sv 1) aj) (bH _)) (bW (dg a hr (aU (aG (sv 1) aj) (aU aj (aU (eH (by rfl) cP.choose_spec (by rfl)) aq rfl) rfl) rfl)) (dJ (dg a hr (aU (aG (sv 1) aj) (aU aj (aU (eH (by rfl) gB.choose_spec (by rfl)) aq rfl) rfl) rfl)))).ev).ev).ev).ev).ev
 exact au
abbrev s4:Stmt:=top 16
noncomputable def b4:List S:=[.ret (.and (.call 2 [↑1]) (.and (.cmp .eq (.blt .len [↑1]) ⇑3) (.call 3 [↑0,.tup [.idx ↑1 ⇑0,.idx ↑1 ⇑1,⇑0,.idx ↑1 ⇑2]])))]
def f4:Fd:=⟨2,2,b4⟩
theorem sc4:aL ["many","thing"] ["many","thing"] (ao s4):=nofun
include cl in
theorem d4(a:iw K "is_hour_way" "is_hour_way" s4 f fd)(bK:mg "len"=none)(b:↥(2,"is_row",1,0))(e:↥(3,"is_way",2,0)):↥(["many","thing"],2,f4):=by
 exists a,sc4,0,0;refine aX ?_ ?_;.exists(),bW (dg b hr (aU (sv 1) aq rfl)) (bW (fL (ju (fM hr)) (eF rfl (by rfl) bK (sv 1)) aj (bH _)) (dJ (dg e hr (aU (sv 0) (aU (cN (cW (aG (sv 1) aj) (cW (aG (sv 1) aj) (cW aj (cW (aG (sv 1) aj) bu rfl) rfl) rfl) rfl)) aq rfl) rfl)))).ev
 exact au
abbrev s5:Stmt:=top 17
noncomputable def b5:List S:=[.ret (.and (.call 2 [↑1]) (.and (.cmp .le (.blt .len [↑1]) (.glob "MOST_WAYS" (.int 12))) (.blt .all [.comp ↑1 1 [2] true none (.call 4 [↑0,↑2])])))]
def f5:Fd:=⟨2,2,b5⟩
theorem sc5:aL ["many","thing"] ["many","thing"] (ao s5):=nofun
include cl in
theorem d5(a:iw K "are_hour_ways" "are_hour_ways" s5 f fd)(eO:mg "all"=none)(bK:mg "len"=none)(gY:∃t,mg "MOST_WAYS"=some (Value.int 12 t))(b:↥(4,"is_hour_way",2,0))(e:↥(2,"is_row",1,0)):↥(["many","thing"],2,f5):=by
 exists a,sc5,0,0;refine aX ?_ ?_;.exists(),bW (dg e hr (aU (sv 1) aq rfl)) (SX.ev (bW (fL qI (eF rfl (by rfl) bK (sv 1)) (eH (by rfl) gY.choose_spec (by rfl)) (bH _)) (dJ (lJ rfl hc (by rfl) eO (cD (N':=["many","thing","way"]) hc (qF rfl (by rfl)) (cO (sv 1)) ⇑(aQ (i:=2) ‹["many","thing","way"]› rfl (Or.inl rfl) (Or.inr rfl)) (bG (dH)) ⇑(bL) ⇑((dg b hr (aU (sv 0) (aU (sv 2) aq rfl) rfl))))))))
 exact au
abbrev s6:Stmt:=top 18
noncomputable def b6:List S:=[.ret (.and (.call 2 [↑1]) (.and (.cmp .eq (.blt .len [↑1]) ↑0) (.blt .all [.comp ↑1 1 [2] true none (.call 1 [↑2,⇑0,.glob "MOST_ROOM" (.int 1000000000)])])))]
def f6:Fd:=⟨2,2,b6⟩
theorem sc6:aL ["count","thing"] ["count","thing"] (ao s6):=nofun
include cl in
theorem d6(a:iw K "are_rooms" "are_rooms" s6 f fd)(eO:mg "all"=none)(bK:mg "len"=none)(cP:∃t,mg "MOST_ROOM"=some (Value.int 1000000000 t))(b:↥(2,"is_row",1,0))(e:↥(1,"whole_within",3,0)):↥(["count","thing"],2,f6):=by
 exists a,sc6,0,0;refine aX ?_ ?_;.exists(),bW (dg b hr (aU (sv 1) aq rfl)) (SX.ev (bW (fL (ju (fM hr)) (eF rfl (by rfl) bK (sv 1)) (sv 0) (bH _)) (dJ (lJ rfl hc (by rfl) eO (cD (N':=["count","thing","room"]) hc (qF rfl (by rfl)) (cO (sv 1)) ⇑(aQ (i:=2) ‹["count","thing","room"]› rfl (Or.inl rfl) (Or.inr rfl)) (bG (dH)) ⇑(bL) ⇑((dg e hr (aU (sv 2) (aU aj (aU (eH (by rfl) cP.choose_spec (by rfl)) aq rfl) rfl) rfl))))))))
 exact au
abbrev s7:Stmt:=top 19
noncomputable def b7:List S:=[.ret (.and (.call 2 [↑2]) (.and (.cmp .eq (.blt .len [↑2]) (.blt .len [↑0])) (.blt .all [.comp ↑2 1 [3] true none (.call 6 [.bin .add ↑1 ⇑1,↑3])])))]
def f7:Fd:=⟨3,3,b7⟩
theorem sc7:aL ["ways","last","thing"] ["ways","last","thing"] (ao s7):=nofun
include cl in
theorem d7(a:iw K "are_all_rooms" "are_all_rooms" s7 f fd)(eO:mg "all"=none)(bK:mg "len"=none)(b:↥(6,"are_rooms",2,0))(e:↥(2,"is_row",1,0)):↥(["ways","last","thing"],3,f7):=by
 exists a,sc7,0,0;refine aX ?_ ?_;.exists(),bW (dg e hr (aU (sv 2) aq rfl)) (SX.ev (bW (fL (ju (fM hr)) (eF rfl (by rfl) bK (sv 2)) (eF rfl (by rfl) bK (sv 0)) (bH _)) (dJ (lJ rfl hc (by rfl) eO (cD (N':=["ways","last","thing","row"]) hc (qF rfl (by rfl)) (cO (sv 2)) ⇑(aQ (i:=3) ‹["ways","last","thing","row"]› rfl (Or.inl rfl) (Or.inr rfl)) (bG (dH)) ⇑(bL) ⇑((dg b hr (aU (aA bD (sv 1) aj) (aU (sv 3) aq rfl) rfl))))))))
 exact au
abbrev s8:Stmt:=top 20
noncomputable def b8:List S:=[.ifs (.or (.not (.call 2 [↑2])) (.or (.cmp .ne (.blt .len [↑2]) ↑0) (.or (.cmp .yD (.idx ↑2 ⇑0) (.con .non)) (.cmp .yD (.idx ↑2 (.neg ⇑1)) (.con .non))))) [.ret (.con (.bl false))] [],.ret (.blt .all [.comp ↑2 1 [3] true none (.or (.cmp .yS ↑3 (.con .non)) (.call 6 [↑1,↑3]))])]
def f8:Fd:=⟨3,3,b8⟩
theorem sc8:aL ["many","last","thing"] ["many","last","thing"] (ao s8):=nofun
include cl in
theorem d8(a:iw K "are_all_waits" "are_all_waits" s8 f fd)(eO:mg "all"=none)(bK:mg "len"=none)(b:↥(6,"are_rooms",2,0))(e:↥(2,"is_row",1,0)):↥(["many","last","thing"],3,f8):=by
 exists a,sc8,0,0;refine aX ?_ ?_;.exists eN ?_ ?_ ?_;exact SW.st (ni (dX (dD (dg e hr (aU (sv 2) aq rfl)))) (ni (dF (n6 (fM hr)) (eF rfl (by rfl) bK (sv 2)) (sv 0) (bH _)) (ni (dF tQ (aG (sv 2) aj) cL (bH _)) (nY (dF tQ (aG (sv 2) (Ga aj)) cL (bH _))))));(· lia;(· exists(),mV);exact au);exact au
 lia;.exists(),lJ rfl hc (by rfl) eO (cD (N':=["many","last","thing","row"]) hc (qF rfl (by rfl)) (cO (sv 2)) ⇑(aQ (i:=3) ‹["many","last","thing","row"]› rfl (Or.inl rfl) (Or.inr rfl)) (bG (dH)) ⇑(bL) ⇑((Kv (fL jw (sv 3) cL (bH _)) (dJ (dg b hr (aU (sv 1) (aU (sv 3) aq rfl) rfl))))))
 exact au
abbrev s9:Stmt:=top 21
noncomputable def b9:List S:=[.ret (.blt .tuple [.comp ↑0 1 [1] true none (.Dy (.cmp .yS ↑1 (.con .non)) (.con .non) (.blt .tuple [↑1]))])]
def f9:Fd:=⟨1,1,b9⟩
theorem sc9:aL ["rows"] ["rows"] (ao s9):=nofun
include cl in
theorem d9(a:iw K "rows_kept" "rows_kept" s9 f fd)(aN:mg "tuple"=none):↥(["rows"],1,f9):=by
 exists a,sc9,0,0;refine aX ?_ ?_;.exists(),cM rfl (by rfl) aN (cD (N':=["rows","row"]) hc (qF rfl (by rfl)) (cO (sv 0)) ⇑(aQ (i:=1) ‹["rows","row"]› rfl (Or.inl rfl) (Or.inr rfl)) (bG (dH)) ⇑(bL) ⇑((rC (dF jw (sv 1) cL (bH _)) cL (cM rfl (by rfl) aN (sv 1)))))
 exact au
abbrev Kf:Stmt:=top 22
noncomputable def b10:List S:=[.ifs (.not (.call 1 [↑0,.glob "LEAST_PLACES" (.int 2),.glob "MOST_PLACES" (.int 6)])) [.bad] [],.ifs (.not (.call 1 [↑1,⇑0,.glob "MOST_LAST" (.int 12)])) [.bad] [],.ifs (.not (.call 5 [↑0,↑2])) [.bad] [],.ifs (.not (.call 7 [↑2,↑1,↑3])) [.bad] [],.ifs (.not (.call 8 [↑0,↑1,↑4])) [.bad] [],.ret (.tup [↑0,↑1,.call 9 [↑2],.call 9 [↑3],.call 9 [↑4]])]
def Ol:Fd:=⟨5,5,b10⟩
theorem R5:aL ["many","last","ways","rooms","waits"] ["many","last","ways","rooms","waits"] (ao Kf):=nofun
include cl in
theorem d10(e:iw K "made_calendar" "made_calendar" Kf f fd)(eU:∃t,mg "LEAST_PLACES"=some (Value.int 2 t))(ie:∃t,mg "MOST_LAST"=some (Value.int 12 t))(fP:∃t,mg "MOST_PLACES"=some (Value.int 6 t))(g:↥(7,"are_all_rooms",3,0))(h:↥(8,"are_all_waits",3,0))(i:↥(5,"are_hour_ways",2,0))(a:↥(9,"rows_kept",1,0))(b:↥(1,"whole_within",3,0)):↥(["many","last","ways","rooms","waits"],5,Ol):=by
 exists e,R5,0,0;refine aX ?_ ?_;.exists eN ?_ ?_ ?_;exact dX (dD (dg b hr (aU (sv 0) (aU (eH (by rfl) eU.choose_spec (by rfl)) (aU (eH (by rfl) fP.choose_spec (by rfl)) aq rfl) rfl) rfl)));(· lia;exact kI;exact au);exact au
 lia;.exists eN ?_ ?_ ?_;exact dX (dD (dg b hr (aU (sv 1) (aU aj (aU (eH (by rfl) ie.choose_spec (by rfl)) aq rfl) rfl) rfl)));(· lia;exact kI;exact au);exact au
 lia;.exists eN ?_ ?_ ?_;exact dX (dD (dg i hr (aU (sv 0) (aU (sv 2) aq rfl) rfl)));(· lia;exact kI;exact au);exact au
 lia;.exists eN ?_ ?_ ?_;exact dX (dD (dg g hr (aU (sv 2) (aU (sv 1) (aU (sv 3) aq rfl) rfl) rfl)));(· lia;exact kI;exact au);exact au
 lia;.exists eN ?_ ?_ ?_;exact dX (dD (dg h hr (aU (sv 0) (aU (sv 1) (aU (sv 4) aq rfl) rfl) rfl)));(· lia;exact kI;exact au);exact au
 lia;.exists(),cN (cW (sv 0) (cW (sv 1) (cW (dg a hr (aU (sv 2) aq rfl)) (cW (dg a hr (aU (sv 3) aq rfl)) (cW (dg a hr (aU (sv 4) aq rfl)) bu rfl) rfl) rfl) rfl) rfl)
 exact au
abbrev Px:Stmt:=top 23
noncomputable def b11:List S:=[.asg 2 (.comp (.idx ↑0 ⇑1) 1 [4] true none (.tup [.idx ↑4 ⇑0,.idx ↑4 ⇑1,.idx ↑4 ⇑3])),.asg 3 (.comp (.idx ↑0 ⇑1) 1 [4] true none (.bin .mul (.tup [.idx ↑4 ⇑2]) (.bin .add ↑1 ⇑1))),.ret (.tup [.idx ↑0 ⇑0,↑1,.blt .tuple [↑2],.blt .tuple [↑3],.bin .mul (.tup [.con .non]) (.idx ↑0 ⇑0)])]
def f11:Fd:=⟨2,4,b11⟩
theorem QZ:aL ["net","last","ways","rooms"] ["net","last"] (ao Px):=nofun
include cl in
theorem d11(a:iw K "net_calendar" "net_calendar" Px f fd)(aN:mg "tuple"=none):↥(["net","last"],2,f11):=by
 exists a,QZ,0,0;refine aX ?_ ?_;.exact(nA (i:=2) (N':=["net","last","ways","rooms","way"]) hc nd rfl oi (qF rfl (by rfl)) (cO (aG (sv 0) aj)) ⇑(aQ (i:=4) ‹["net","last","ways","rooms","way"]› rfl (Or.inl rfl) (Or.inr rfl)) (bG (dH)) ⇑(bL) ⇑((cN (cW (aG (sv 4) aj) (cW (aG (sv 4) aj) (cW (aG (sv 4) aj) bu rfl) rfl) rfl))) (by rfl) (by intro _;rfl) (Or.inl rfl))
 lia;.exact(nA (i:=3) (N':=["net","last","ways","rooms","way"]) hc nd rfl oi (qF rfl (by rfl)) (cO (aG (sv 0) aj)) ⇑(aQ (i:=4) ‹["net","last","ways","rooms","way"]› rfl (Or.inl rfl) (Or.inr rfl)) (bG (dH)) ⇑(bL) ⇑((aA fH (cN (cW (aG (sv 4) aj) bu rfl)) (aA bD (sv 1) aj))) (by rfl) (by intro _;rfl) (Or.inl rfl))
 lia;.exists(),cN (cW (aG (sv 0) aj) (cW (sv 1) (cW (cM rfl (by rfl) aN (sv 2)) (cW (cM rfl (by rfl) aN (sv 3)) (cW (aA fH (cN (cW cL bu rfl)) (aG (sv 0) aj)) bu rfl) rfl) rfl) rfl) rfl)
 exact au
abbrev s12:Stmt:=top 25
noncomputable def b12:List S:=[.ret (.lst [.blt .max2 [⇑0,.bin .sub (.blt .abs [↑0]) (.bin .pow ⇑10 ⇑18)],.bin .mod ↑0 (.bin .pow ⇑10 ⇑18),⇑0])]
def Qd:Fd:=⟨1,1,b12⟩
theorem RD:aL ["cell"] ["cell"] (ao s12):=nofun
include cl in
theorem d12(a:iw K "_law_pool" "_law_pool" s12 f fd)(yI:mg "abs"=none)(yJ:mg "max"=none):↥(["cell"],1,Qd):=by
 exists a,RD,0,0;refine aX ?_ ?_;.exists(),fO (cW (zB rfl hc (by rfl) yJ (cW aj (cW (aA gq (Ho rfl (by rfl) yI (sv 0)) (aA je aj aj)) bu rfl) rfl)) (cW (aA eZ (sv 0) (aA je aj aj)) (cW aj bu rfl) rfl) rfl)
 exact au
abbrev Tq:Stmt:=top 26
noncomputable def b13:List S:=[.ifs (.cmp .gt (.idx ↑0 ⇑0) ⇑0) [.asg 2 (.bin .mod (.idx ↑0 ⇑0) ↑1),.yE 0 ⇑0 (.bin .fdiv (.idx ↑0 ⇑0) ↑1),.ret ↑2] [],.yE 0 ⇑2 (.bin .add (.idx ↑0 ⇑2) ⇑1),.asg 3 (.bin .mod (.bin .add (.idx ↑0 ⇑1) (.bin .mul ⇑7919 (.idx ↑0 ⇑2))) ⇑1000000007),.asg 4 (.bin .mod (.bin .mul (.bin .add ↑3 ⇑11) (.bin .add ↑3 ⇑48271)) ⇑998244353),.ret (.bin .mod (.bin .fdiv (.bin .mod (.bin .mul ↑4 ↑4) ⇑2147483647) ⇑8) ↑1)]
def Ox:Fd:=⟨2,5,b13⟩
theorem QM:aL ["pool","base","digit","near","stir"] ["pool","base"] (ao Tq):=nofun
include cl in
theorem d13(a:iw K "_law_next" "_law_next" Tq f fd):↥(["pool","base"],2,Ox):=by
 exists a,QM,0,0;refine aX ?_ ?_;.exists eN ?_ ?_ ?_;exact dF rR (aG (sv 0) aj) aj (bH _);(· lia;(· exists 2,aA eZ (aG (sv 0) aj) (sv 1));(· lia;exact uq (k:=0) rfl (by ac_rfl) aj (aA ql (aG (sv 0) aj) (sv 1));(· lia;(· exists(),sv 2);exact au)));exact au
 lia;.exact(uq (k:=0) rfl (by ac_rfl) aj (aA bD (aG (sv 0) aj) aj))
 lia;.exists 3,aA eZ (aA bD (aG (sv 0) aj) (aA fH aj (aG (sv 0) aj))) aj
 lia;.exists 4,aA eZ (aA fH (aA bD (sv 3) aj) (aA bD (sv 3) aj)) aj
 lia;.exists(),aA eZ (aA ql (aA eZ (aA fH (sv 4) (sv 4)) aj) aj) (sv 1)
 exact au
abbrev Td:Stmt:=top 27
noncomputable def b14:List S:=[.ret (.bin .mod (.bin .add (.bin .mul (.call 13 [↑0,⇑100000]) ⇑100000) (.call 13 [↑0,⇑100000])) ↑1)]
def Qf:Fd:=⟨2,2,b14⟩
theorem S6:aL ["pool","base"] ["pool","base"] (ao Td):=nofun
include cl in
theorem d14(b:iw K "_law_wide" "_law_wide" Td f fd)(a:↥(13,"_law_next",2,0)):↥(["pool","base"],2,Qf):=by
 exists b,S6,0,0;refine aX ?_ ?_;.exists(),aA eZ (aA bD (aA fH (dg a hr (aU (sv 0) (aU aj aq rfl) rfl)) aj) (dg a hr (aU (sv 0) (aU aj aq rfl) rfl))) (sv 1)
 exact au
abbrev Ss:Stmt:=top 28
noncomputable def b15:List S:=[.asg 2 (.lst []),.oW (.vH ⇑0 (.bin .sub ↑1 ⇑1)) [3] true [.ifs (.cmp .gt (.call 13 [↑0,⇑8]) ⇑0) [.app 2 (.tup [↑3,.bin .add ↑3 ⇑1])] []],.oW (.vH ⇑0 (.call 13 [↑0,.bin .sub ⇑13 (.blt .len [↑2])])) [4] true [.asg 5 (.call 13 [↑0,↑1]),.app 2 (.tup [↑5,.bin .mod (.bin .add (.bin .add ↑5 ⇑1) (.call 13 [↑0,.bin .sub ↑1 ⇑1])) ↑1])],.asg 6 (.lst []),.oW ↑2 [5,7] false [.app 6 (.tup [↑5,↑7,.idx (.lst [⇑1,⇑1,⇑2,⇑2,⇑3,.bin .add ⇑1 (.call 13 [↑0,⇑5]),.bin .add ⇑1 (.call 14 [↑0,.bin .pow ⇑10 ⇑6])]) (.call 13 [↑0,⇑7])])],.ret ↑6]
def O5:Fd:=⟨2,8,b15⟩
theorem RJ:aL ["pool","many","roads","place","k","begin","found","end"] ["pool","many"] (ao Ss):=nofun
include cl in
theorem d15(b:iw K "_law_roads" "_law_roads" Ss f fd)(bK:mg "len"=none)(fJ:mg "range"=none)(a:↥(13,"_law_next",2,0))(e:↥(14,"_law_wide",2,0)):↥(["pool","many"],2,O5):=by
 exists b,RJ,0,0;refine aX ?_ ?_;.exists 2,fO bu
 lia;.exists 3,jR rfl (by rfl) fJ (aA gq (sv 1) aj),0;(· lia;(· exists eN ?_ ?_ ?_;exact dF rR (dg a hr (aU (sv 0) (aU aj aq rfl) rfl)) aj (bH _);(· lia;exact eY (k:=2) rfl (by ac_rfl) (cN (cW (sv 3) (cW (aA bD (sv 3) aj) bu rfl) rfl));exact au);exact au);exact au)
 lia;.exists 4,jR rfl (by rfl) fJ (dg a hr (aU (sv 0) (aU (aA gq aj (eF rfl (by rfl) bK (sv 2))) aq rfl) rfl)),0;(· lia;(· exists 5,dg a hr (aU (sv 0) (aU (sv 1) aq rfl) rfl));(· lia;exact eY (k:=2) rfl (by ac_rfl) (cN (cW (sv 5) (cW (aA eZ (aA bD (aA bD (sv 5) aj) (dg a hr (aU (sv 0) (aU (aA gq (sv 1) aj) aq rfl) rfl))) (sv 1)) bu rfl) rfl));exact au))
 lia;.exists 6,fO bu
 lia;.exact(wU PassesOwn.never hc (cO (sv 2)) (xJ hc (jf (aQ (i:=5) nd rfl oi oi) (jf (aQ (i:=7) nd rfl oi oi) tG))) (G5 rfl (tX _ _ (tX _ _ Ay 7) 5)) (by lia;exact eY (k:=6) rfl (by ac_rfl) (cN (cW (sv 5) (cW (sv 7) (cW (aG (fO (ud [1,1,2,2,3] rfl (cW (aA bD aj (dg a hr (aU (sv 0) (aU aj aq rfl) rfl))) (cW (aA bD aj (dg e hr (aU (sv 0) (aU (aA je aj aj) aq rfl) rfl))) bu rfl) rfl))) (dg a hr (aU (sv 0) (aU aj aq rfl) rfl))) bu rfl) rfl) rfl));exact au))
 lia;.exists(),sv 6
 exact au
abbrev QJ:Stmt:=top 29
noncomputable def b16:List S:=[.asg 3 (.idx (.lst [⇑3,⇑10,.bin .add (.bin .pow ⇑10 ⇑9) ⇑1]) (.call 13 [↑0,⇑3])),.ret (.comp (.vH ⇑0 ↑1) 1 [4] true none (.comp (.vH ⇑0 ↑2) 1 [5] true none (.call 14 [↑0,↑3])))]
def PK:Fd:=⟨3,4,b16⟩
theorem RB:aL ["pool","many","length","high"] ["pool","many","length"] (ao QJ):=nofun
include cl in
theorem d16(a:iw K "_law_rows" "_law_rows" QJ f fd)(fJ:mg "range"=none)(b:↥(13,"_law_next",2,0))(e:↥(14,"_law_wide",2,0)):↥(["pool","many","length"],3,PK):=by
 exists a,RB,0,0;refine aX ?_ ?_;.exists qU (i:=3) ?_ ?_ ?_ ?_ ?_ ?_;exact nd;exact rfl;exact Or.inr rfl;rotate_left;rfl;exact oi;exact aG (fO (cW aj (cW aj (cW (aA bD (aA je aj aj) aj) bu rfl) rfl) rfl)) (dg b hr (aU (sv 0) (aU aj aq rfl) rfl))
 lia;.exists(),cD (N':=["pool","many","length","high","k"]) hc (qF rfl (by rfl)) (jR rfl (by rfl) fJ (sv 1)) ⇑(aQ (i:=4) ‹["pool","many","length","high","k"]› rfl (Or.inl rfl) (Or.inr rfl)) (bG (dH)) ⇑(bL) ⇑((cD (N':=["pool","many","length","high","k","hour"]) hc (qF rfl (by rfl)) (jR rfl (by rfl) fJ (sv 2)) ⇑(aQ (i:=5) ‹["pool","many","length","high","k","hour"]› rfl (Or.inl rfl) (Or.inr rfl)) (bG (dH)) ⇑(bL) ⇑((dg e hr (aU (sv 0) (aU (sv 3) aq rfl) rfl)))))
 exact au
abbrev Tf:Stmt:=top 30
noncomputable def b17:List S:=[.ifs (.cmp .eq (.call 13 [↑0,⇑2]) ⇑0) [.ret (.blt .list [↑1])] [],.ret (.blt .tuple [↑1])]
def O6:Fd:=⟨2,2,b17⟩
theorem S5:aL ["pool","row"] ["pool","row"] (ao Tf):=nofun
include cl in
theorem d17(a:iw K "_law_as" "_law_as" Tf f fd)(dG:mg "list"=none)(aN:mg "tuple"=none)(b:↥(13,"_law_next",2,0)):↥(["pool","row"],2,O6):=by
 exists a,S5,0,0;refine aX ?_ ?_;.exists eN ?_ ?_ ?_;exact dF (ju (fM hr)) (dg b hr (aU (sv 0) (aU aj aq rfl) rfl)) aj (bH _);(· lia;(· exists(),uc rfl (by rfl) dG (sv 1));exact au);exact au
 lia;.exists(),cM rfl (by rfl) aN (sv 1)
 exact au
abbrev RK:Stmt:=top 31
noncomputable def b18:List S:=[.ifs (.cmp .yS ↑1 (.con .non)) [.ret (.cmp .yS ↑0 (.con .non))] [],.ifs (.inst [.tuple] ↑1) [.ifs (.or (.not (.inst [.tuple] ↑0)) (.cmp .ne (.blt .len [↑0]) (.blt .len [↑1]))) [.ret (.con (.bl false))] [],.ret (.blt .all [.comp (.zip ↑0 ↑1) 2 [2,3] false none (.call 18 [↑2,↑3])])] [],.ret (.and (.inst [.int] ↑0) (.and (.not (.inst [.bool] ↑0)) (.cmp .eq ↑0 ↑1)))]
def zT:Fd:=⟨2,2,b18⟩
theorem Sg:aL ["found","due"] ["found","due"] (ao RK):=nofun
include cl in
theorem d18(a:iw K "_law_same" "_law_same" RK f fd)(eO:mg "all"=none)(jF:mg "bool"=none)(jo:mg "int"=none)(aF:mg "isinstance"=none)(bK:mg "len"=none)(aN:mg "tuple"=none)(yK:mg "zip"=none)(b:↥(18,"_law_same",2,0)):↥(["found","due"],2,zT):=by
 exists a,Sg,0,0;refine aX ?_ ?_;.exists eN ?_ ?_ ?_;exact dF jw (sv 1) cL (bH _);(· lia;(· exists(),fL jw (sv 0) cL (bH _));exact au);exact au
 lia;.exists eN ?_ ?_ ?_;exact dD (fX .tuple rfl (by rfl) aF (sv 1) (by rfl) aN (by kernel_rfl) (by decide) (by rfl));(· lia;(· exists eN ?_ ?_ ?_;exact SW.st (ni (dX (dD (fX .tuple rfl (by rfl) aF (sv 0) (by rfl) aN (by kernel_rfl) (by decide) (by rfl)))) (nY (dF (n6 (fM hr)) (eF rfl (by rfl) bK (sv 0)) (eF rfl (by rfl) bK (sv 1)) (bH _))));(· lia;(· exists(),mV);exact au);exact au);(· lia;(· exists(),lJ rfl hc (by rfl) eO (cD (N':=["found","due","one","other"]) hc (qF rfl (by rfl)) (DP rfl (by rfl) yK (sv 0) (sv 1)) ⇑(xJ hc (jf (aQ (i:=2) ‹["found","due","one","other"]› rfl (Or.inl rfl) (Or.inr rfl)) (jf (aQ (i:=3) ‹["found","due","one","other"]› rfl (Or.inl rfl) (Or.inr rfl)) tG))) (Bk rfl (pH (show 2<=2 by decide) (pH (show 2<=3 by decide) zb))) ⇑(bL) ⇑((dg b hr (aU (sv 2) (aU (sv 3) aq rfl) rfl)))));exact au));exact au
 lia;.exists(),bW (fX .int rfl (by rfl) aF (sv 0) (by rfl) jo (by kernel_rfl) (by decide) (by rfl)) (bW (wK (fX .bool rfl (by rfl) aF (sv 0) (by rfl) jF (by kernel_rfl) (by decide) (by rfl))) (dJ (fL (ju (fM hr)) (sv 0) (sv 1) (bH _)))).ev
 exact au
abbrev Sh:Stmt:=top 32
noncomputable def b19:List S:=[.ret (.blt .tuple [.comp ↑0 1 [1] true none (.Dy (.cmp .yS ↑1 (.con .non)) (.con .non) (.blt .tuple [↑1]))])]
def Oj:Fd:=⟨1,1,b19⟩
theorem QQ:aL ["row"] ["row"] (ao Sh):=nofun
include cl in
theorem d19(a:iw K "_law_flat" "_law_flat" Sh f fd)(aN:mg "tuple"=none):↥(["row"],1,Oj):=by
 exists a,QQ,0,0;refine aX ?_ ?_;.exists(),cM rfl (by rfl) aN (cD (N':=["row","one"]) hc (qF rfl (by rfl)) (cO (sv 0)) ⇑(aQ (i:=1) ‹["row","one"]› rfl (Or.inl rfl) (Or.inr rfl)) (bG (dH)) ⇑(bL) ⇑((rC (dF jw (sv 1) cL (bH _)) cL (cM rfl (by rfl) aN (sv 1)))))
 exact au
abbrev T4:Stmt:=top 33
def f20:Fd:=⟨1,2,[]⟩
theorem Ng:aL ["row","one"] ["row"] (ao T4):=nofun
include cl in
theorem d20(a:iw K "_law_emptied" "_law_emptied" T4 f fd)(aF:mg "isinstance"=none)(dG:mg "list"=none):gP Pg w K mg base qD (k+1) f fd ["row"] (pJ K):=by refine Fo a Ng λcdv A outer s H E hr=>?_;exact zE hc Ng.nd rfl (.inl rfl) rfl (.inl rfl) (.inl rfl) rfl rfl rfl aF rfl dG PassesOwn.never
abbrev Tp:Stmt:=top 34
noncomputable def LQ:List S:=[.emp [.asg 1 (.bin .add ⇑2 (.call 13 [↑0,⇑5])),.asg 2 (.call 13 [↑0,⇑13]),.asg 3 (.call 15 [↑0,↑1]),.asg 4 (.call 16 [↑0,.blt .len [↑3],.bin .add ↑2 ⇑1]),.asg 5 (.comp (.call 16 [↑0,.bin .sub ↑1 ⇑2,↑2]) 1 [14] true none (.idx (.lst [.con .non,↑14]) (.blt .int [.cmp .gt (.call 13 [↑0,⇑3]) ⇑0]))),.asg 5 (.bin .add (.bin .add (.lst [.con .non]) ↑5) (.lst [.con .non])),.asg 6 (.tup [↑1,↑2,.blt .tuple [↑3],.call 19 [↑4],.call 19 [↑5]]),.asg 7 (.lst []),.yF 8 [3,4,5] [.app 7 (.call 17 [↑0,.comp ↑8 1 [14] true none (.Dy (.cmp .yS ↑14 (.con .non)) (.con .non) (.call 17 [↑0,↑14]))])],.asg 9 (.call 10 [↑1,↑2,.idx ↑7 ⇑0,.idx ↑7 ⇑1,.idx ↑7 ⇑2]),.ifs (.or (.not (.call 18 [↑9,↑6])) (.cmp .ne (.comp ↑7 1 [14] true none (.call 19 [↑14])) (.blt .list [.slice ↑6 ⇑2 (.con .non)]))) [.ret (.con (.bl false))] [],.asg 10 (.call 10 [↑1,↑2,.idx ↑6 ⇑2,.idx ↑6 ⇑3,.idx ↑6 ⇑4])] 7 11 20,.ifs (.or (.not (.call 18 [↑9,↑6])) (.not (.call 18 [↑10,↑6]))) [.ret (.con (.bl false))] [],.asg 12 (.tup [↑1,.blt .tuple [.comp ↑3 1 [14] true none (.tup [.idx ↑14 ⇑0,.idx ↑14 ⇑1,.call 14 [↑0,.bin .add (.bin .pow ⇑10 ⇑9) ⇑1],.idx ↑14 ⇑2])]]),.asg 13 (.blt .tuple [.comp (.idx ↑12 ⇑1) 1 [14] true none (.bin .mul (.tup [.idx ↑14 ⇑2]) (.bin .add ↑2 ⇑1))]),.ret (.call 18 [.call 11 [↑12,↑2],.tup [↑1,↑2,.idx ↑6 ⇑2,↑13,.bin .mul (.tup [.con .non]) ↑1]])]
def QV:Fd:=⟨1,14,LQ⟩
theorem QR:aL ["pool","many","last","ways","rooms","waits","due","handed","some","found","again","row","net","steady"] ["pool"] (ao Tp):=nofun
include cl in
theorem d21(l:iw K "_law_one" "_law_one" Tp f fd)(jo:mg "int"=none)(bK:mg "len"=none)(dG:mg "list"=none)(aN:mg "tuple"=none)(g:↥(17,"_law_as",2,0))(b:↥(19,"_law_flat",1,0))(e:↥(13,"_law_next",2,0))(m:↥(15,"_law_roads",2,0))(h:↥(16,"_law_rows",3,0))(a:↥(18,"_law_same",2,0))(p:↥(14,"_law_wide",2,0))(j:↥(10,"made_calendar",5,0))(q:↥(11,"net_calendar",2,0))(r:pg Pg w K mg base k c 20 "_law_emptied")(NL:G8 K):↥(["pool"],1,QV):=by
 exists l,QR,0,0;refine HJ ?_;refine bV ?_ ?_;.exists 1,aA bD aj (dg e hr (aU (sv 0) (aU aj aq rfl) rfl))
 exists bV ?_ ?_;.exists qU (i:=2) ?_ ?_ ?_ ?_ ?_ ?_;exact nd;exact rfl;exact Or.inr rfl;rotate_left;rfl;exact oi;exact dg e hr (aU (sv 0) (aU aj aq rfl) rfl)
 exists bV ?_ ?_;.exists 3,dg m hr (aU (sv 0) (aU (sv 1) aq rfl) rfl)
 exists bV ?_ ?_;.exists 4,dg h hr (aU (sv 0) (aU (eF rfl (by rfl) bK (sv 3)) (aU (aA bD (sv 2) aj) aq rfl) rfl) rfl)
 exists bV ?_ ?_;.exact(nA (i:=5) (N':=["pool","many","last","ways","rooms","waits","due","handed","some","found","again","row#11","net","steady","row"]) hc nd rfl oi (qF rfl (by rfl)) (cO (dg h hr (aU (sv 0) (aU (aA gq (sv 1) aj) (aU (sv 2) aq rfl) rfl) rfl))) ⇑(aQ (i:=14) ‹["pool","many","last","ways","rooms","waits","due","handed","some","found","again","row#11","net","steady","row"]› rfl (Or.inl rfl) (Or.inr rfl)) (bG (dH)) ⇑(bL) ⇑((aG (fO (cW cL (cW (sv 14) bu rfl) rfl)) (zQ rfl (by rfl) jo (fL rR (dg e hr (aU (sv 0) (aU aj aq rfl) rfl)) aj (bH _))))) (by rfl) (by intro _;rfl) (Or.inl rfl))
 exists bV ?_ ?_;.exists 5,aA bD (aA bD (fO (cW cL bu rfl)) (sv 5)) (fO (cW cL bu rfl))
 exists bV ?_ ?_;.exists 6,cN (cW (sv 1) (cW (sv 2) (cW (cM rfl (by rfl) aN (sv 3)) (cW (dg b hr (aU (sv 4) aq rfl)) (cW (dg b hr (aU (sv 5) aq rfl)) bu rfl) rfl) rfl) rfl) rfl)
 exists bV ?_ ?_;.exists 7,fO bu
 exists bV ?_ ?_;.exists Bf (o:=8) ?_ ?_ ?_ ?_ ?_ ?_ ?_ ?_ ?_ ?_;exact PassesOwn.never;exact hc;exact nd;exact rfl;exact oi;exact j9 rfl (by ac_rfl) (j9 rfl (by ac_rfl) (j9 rfl (by ac_rfl) zA));(· lia;exact eY (k:=7) rfl (by ac_rfl) (dg g hr (aU (sv 0) (aU (cD (N':=["pool","many","last","ways","rooms","waits","due","handed","some","found","again","row","net","steady","one"]) hc (qF rfl (by rfl)) (cO (sv 8)) ⇑(aQ (i:=14) ‹["pool","many","last","ways","rooms","waits","due","handed","some","found","again","row","net","steady","one"]› rfl (Or.inl rfl) (Or.inr rfl)) (bG (dH)) ⇑(bL) ⇑((rC (dF jw (sv 14) cL (bH _)) cL (dg g hr (aU (sv 0) (aU (sv 14) aq rfl) rfl))))) aq rfl) rfl));exact au);(· decide);(· intro _;rfl);exact oi
 exists bV ?_ ?_;.exists 9,dg j hr (aU (sv 1) (aU (sv 2) (aU (aG (sv 7) aj) (aU (aG (sv 7) aj) (aU (aG (sv 7) aj) aq rfl) rfl) rfl) rfl) rfl)
 exists bV ?_ ?_;.exists eN ?_ ?_ ?_;exact SW.st (ni (dX (dD (dg a hr (aU (sv 9) (aU (sv 6) aq rfl) rfl)))) (nY (dF (n6 (fM hr)) (cD (N':=["pool","many","last","ways","rooms","waits","due","handed","some","found","again","row#11","net","steady","row"]) hc (qF rfl (by rfl)) (cO (sv 7)) ⇑(aQ (i:=14) ‹["pool","many","last","ways","rooms","waits","due","handed","some","found","again","row#11","net","steady","row"]› rfl (Or.inl rfl) (Or.inr rfl)) (bG (dH)) ⇑(bL) ⇑((dg b hr (aU (sv 14) aq rfl)))) (uc rfl (by rfl) dG (o6 (sv 6) (uA aj) uD)) (bH _))));(· lia;(· exists(),mV);exact au);exact au
 exists bV ?_ ?_;.exists 10,dg j hr (aU (sv 1) (aU (sv 2) (aU (aG (sv 6) aj) (aU (aG (sv 6) aj) (aU (aG (sv 6) aj) aq rfl) rfl) rfl) rfl) rfl)
 exact(vU (x:=7) (o:=11) NL r hr PassesOwn.never hc nd rfl (by ac_rfl) rfl (by ac_rfl) (.inl rfl) (by lia;(· exists eN ?_ ?_ ?_;exact SW.st (ni (dX (dD (dg a hr (aU (sv 9) (aU (sv 6) aq rfl) rfl)))) (nY (dX (dD (dg a hr (aU (sv 10) (aU (sv 6) aq rfl) rfl))))));(· lia;(· exists(),mV);exact au);exact au);(· lia;(· exists 12,cN (cW (sv 1) (cW (cM rfl (by rfl) aN (cD (N':=["pool","many","last","ways","rooms","waits","due","handed","some","found","again","row","net","steady","way"]) hc (qF rfl (by rfl)) (cO (sv 3)) ⇑(aQ (i:=14) ‹["pool","many","last","ways","rooms","waits","due","handed","some","found","again","row","net","steady","way"]› rfl (Or.inl rfl) (Or.inr rfl)) (bG (dH)) ⇑(bL) ⇑((cN (cW (aG (sv 14) aj) (cW (aG (sv 14) aj) (cW (dg p hr (aU (sv 0) (aU (aA bD (aA je aj aj) aj) aq rfl) rfl)) (cW (aG (sv 14) aj) bu rfl) rfl) rfl) rfl))))) bu rfl) rfl));(· lia;(· exists 13,cM rfl (by rfl) aN (cD (N':=["pool","many","last","ways","rooms","waits","due","handed","some","found","again","row","net","steady","way"]) hc (qF rfl (by rfl)) (cO (aG (sv 12) aj)) ⇑(aQ (i:=14) ‹["pool","many","last","ways","rooms","waits","due","handed","some","found","again","row","net","steady","way"]› rfl (Or.inl rfl) (Or.inr rfl)) (bG (dH)) ⇑(bL) ⇑((aA fH (cN (cW (aG (sv 14) aj) bu rfl)) (aA bD (sv 2) aj)))));(· lia;(· exists(),dg a hr (aU (dg q hr (aU (sv 12) (aU (sv 2) aq rfl) rfl)) (aU (cN (cW (sv 1) (cW (sv 2) (cW (aG (sv 6) aj) (cW (sv 13) (cW (aA fH (cN (cW cL bu rfl)) (sv 1)) bu rfl) rfl) rfl) rfl) rfl)) aq rfl) rfl));exact au)))))
abbrev Q0:Stmt:=top 35
noncomputable def b22:List S:=[.oW (.bin .add (.lst [⇑0]) (.slice ↑0 (.con .non) ⇑63)) [1] true [.ifs (.not (.call 21 [.call 12 [↑1]])) [.ret (.con (.bl false))] []],.ret (.con (.bl true))]
def PX:Fd:=⟨1,2,b22⟩
theorem QX:aL ["script","cell"] ["script"] (ao Q0):=nofun
include cl in
theorem Ve(a:iw K "law" "law" Q0 f fd)(b:↥(21,"_law_one",1,0))(e:↥(12,"_law_pool",1,0)):↥(["script"],1,PX):=by
 exists a,QX,0,0;refine aX ?_ ?_;.exists 1,cO (aA bD (fO (cW aj bu rfl)) (o6 (sv 0) uD (uA aj))),0;(· lia;(· exists eN ?_ ?_ ?_;exact dX (dD (dg b hr (aU (dg e hr (aU (sv 1) aq rfl)) aq rfl)));(· lia;(· exists(),mV);exact au);exact au);exact au)
 lia;.exists(),mV
 exact au
end T
end
noncomputable section
namespace T
open PySem L2 PySem.Spec PyProof.Rows HH
def Γ:Tab:=λi=>[f0,f1,f2,f3,f4,f5,f6,f7,f8,f9,Ol,f11,Qd,Ox,Qf,O5,PK,O6,zT,Oj,f20,QV,PX][i]?
end T
end
noncomputable section
namespace T
open HH
variable{w n o:Nat}{x y z m:Int}{Q:R->List Sl->Prop}{ρ:List Sl}{ds:List D}{b:Bool}{rs:List (List Int)}
local macro_rules|`(tactic|symm)=>`(tactic|first|apply ak|apply vd)
abbrev big:Int:=1606938044258990275541962092341162602522202993782792835301376
theorem bM(h0:0<m)(a:m<big)(k:∀d x z:Int,0<=d->d<m->Q (.val (.int d)) [.own true [.int x,.int y,.int z],.val false (.int m)]):(run Γ w (n+1) 13 [.own true [.int x,.int y,.int z],.val false (.int m)]).sat Q:=by
 have c:m<1606938044258990275541962092341162602522202993782792835301376:=a;refine aP (d:=Ox) rfl rfl (by decide) ?_;symm;simp[Ox];constructor;.intro _;symm;simp[h0];apply ak;simp[h0,c,jt];apply ak;simp;exact k _ _ _ (Int.emod_nonneg _ (by omega)) (Int.emod_lt_of_pos _ h0)
 . intro _;symm;simp[jt];apply ak;simp;generalize g:(y+7919*(z+1))%1000000007=q;have h:0<=q/\q<1000000007:=by omega
   have e:-18446744073709551616<q+11/\q+11<18446744073709551616:=by omega
   symm;simp[e];generalize hs:(q+11)*(q+48271)%998244353=st;have f:-18446744073709551616<st/\st<18446744073709551616:=by omega
   symm;simp[f,h0];exact k _ _ _ (Int.emod_nonneg _ (by omega)) (Int.emod_lt_of_pos _ h0)
theorem wY(k:∀a b c:Int,Q (.own [.int a,.int b,.int c]) [.val false (.int x)]):(run Γ w (n+1) 12 [.val false (.int x)]).sat Q:=by refine aP (d:=Qd) rfl rfl (by decide) ?_;symm;simp[Qd];exact k _ _ _
theorem other{a b:Int}(h1:0<=a)(c:a<m)(f:0<=b)(g:b<m-1):0<=(a+1+b)%m/\(a+1+b)%m<m/\(a+1+b)%m≠a:=by
 by_cases h:a+1+b<m;.rw[Int.emod_eq_of_lt (by omega) h];omega
 . have e:(a+1+b)%m=a+1+b-m:=by rw[<-Int.sub_emod_right,Int.emod_eq_of_lt (by omega) (by omega)]
   rw[e];omega
def Al{c e:Type}(P:c->e->Prop):List c->List e->Prop|[],[]=>True|a::l,b::r=>P a b/\Al P l r|_,_=>False
section
variable{α β:Type}{P:α->β->Prop}
theorem Al.len:∀{l:List α}{r:List β},Al P l r->r.length=l.length|[],[],_=>rfl|_::_,_::_,⟨_,h⟩=>by rw[length_cons,length_cons,Al.len h]|[],_::_,h=>h.elim|_::_,[],h=>h.elim
theorem Al.get:∀{l:List α}{r:List β},Al P l r->∀b∈r,∃a∈l,P a b
 |[],[],_,b,hb=>by cases hb|a::l,c::r,⟨h1,e⟩,b,hb=>by
   rcases mem_cons.mp hb with rfl|hb;.exact⟨a,by simp,h1⟩
   .obtain⟨x,f,g⟩:=Al.get e b hb;exact⟨x,by simp[f],g⟩|[],_::_,h,_,_=>h.elim|_::_,[],h,_,_=>h.elim
theorem Al.app{a:α}{b:β}(p:P a b):∀{l:List α}{r:List β},Al P l r->Al P (l++[a]) (r++[b])|[],[],_=>⟨p,trivial⟩|_::_,_::_,⟨h1,c⟩=>⟨h1,Al.app p c⟩|[],_::_,h=>h.elim|_::_,[],h=>h.elim
theorem Al.imp{c:α->β->Prop}(i:∀a b,P a b->c a b):∀{l:List α}{r:List β},Al P l r->Al c l r|[],[],_=>trivial|_::_,_::_,⟨h1,e⟩=>⟨i _ _ h1,Al.imp i e⟩|[],_::_,h=>h.elim|_::_,[],h=>h.elim
end
theorem dN{s:Type}{c:Call}{i:List Nat}{one:Bool}{a:P}(J:List Sl->Prop)(e:s->D)(t:s->D->Prop){Q:List D->List Sl->Prop}{l:List s}(j:J ρ)(h:∀p∈l,∀ρ,J ρ->∃ρ1,bQ ρ i one (e p)=some ρ1/\(ev c a ρ1).sat λr g=>t p r.d/\J g)(k:∀xs ρ,J ρ->Al t l xs->Q xs ρ):(iy c i one none a (l.map e) ρ).sat Q:=by
 suffices hh:∀(l:List s)(f:List D)(ρ:List Sl),J ρ->(∀p∈l,∀ρ,J ρ->∃ρ1,bQ ρ i one (e p)=some ρ1/\(ev c a ρ1).sat λr g=>t p r.d/\J g)->(turns i one (jW c none) (ev c a) (l.map e) f ρ).sat λxs ρ=>J ρ/\∃ys,xs=f++ys/\Al t l ys from(hh l [] ρ j h).imp λxs ρ⟨u,ys,q2,q3⟩=>by rw[q2];exact k ys ρ u q3
 intro l;induction l with|nil=>intro f ρ j _;exact⟨j,[],by simp,trivial⟩|cons p l v=>intro f ρ j h;obtain⟨ρ1,A,h1⟩:=h p (by simp) ρ j;rw[map_cons];show(match bQ ρ i one (e p)with|none=>Res.stuck|some ρ=>(jW c none ρ).bind λ(b:Bool)(ρ:List Sl)=>if b=true then(ev c a ρ).bind λ(x:R)(ρ:List Sl)=>turns i one (jW c none) (ev c a) (l.map e) (f++[x.d]) ρ else turns i one (jW c none) (ev c a) (l.map e) f ρ).sat _;rw[A];show((jW c none ρ1).bind _).sat _;rw[jW];show((ev c a ρ1).bind _).sat _;rw[aY];refine h1.imp λr g⟨B,j3⟩=>?_;exact(v (f++[r.d]) g j3 λq C=>h q (by simp[C])).imp λxs ρ⟨u,ys,q2,q3⟩=>⟨u,r.d::ys,by rw[q2];simp,B,q3⟩
abbrev Rw:=Option (List Int)
def jH:Rw->D|none=>.non|some a=>.tup (a.map D.int)
def eE(x:Rw)(d:D):Prop:=match x with|none=>d=.non|some a=>d=.lst (a.map D.int)\/d=.tup (a.map D.int)
def Jr(xs:List Rw)(d:D):Prop:=∃ds,(d=.lst ds\/d=.tup ds)/\Al eE xs ds
def Od:D->D|.lst l=>.tup l|d=>d
theorem eE.fl{x:Rw}{d:D}(h:eE x d):Od d=jH x:=by cases x with|none=>have:d=.non:=h;rw[this];rfl|some a=>rcases(show d=_\/d=_ from h)with rfl|rfl<;>rfl
theorem Al.fl:∀{xs:List Rw}{ds:List D},Al eE xs ds->ds.map Od=xs.map jH|[],[],_=>rfl|x::xs,d::ds,⟨h1,a⟩=>by rw[map_cons,map_cons,h1.fl,Al.fl a]|[],_::_,h=>h.elim|_::_,[],h=>h.elim
def Cv(xs:List Rw):Prop:=xs.length<=12/\∀a,some a∈xs->a.length<=13
theorem eE.cases{x:Rw}{d:D}(h:eE x d):(x=none/\d=.non)\/∃a:List Int,x=some a/\(d=.lst (a.map D.int)\/d=.tup (a.map D.int)):=by cases x with|none=>exact .inl ⟨rfl,h⟩|some a=>exact .inr ⟨a,rfl,h⟩
inductive VG(a:Sl)(ρ:List Sl):Prop where|mk(s:Sl)(q0:ρ=[a,s])(q1:fr s=true)
theorem lz{s:Sl}{xs:List Rw}(hs:s=.val false (.lst ds)\/s=.val false (.tup ds)\/s=.own true ds)(h:Al eE xs ds)(a:Cv xs)(k:Q (.val (.tup (xs.map jH))) [s]):(run Γ w (n+1) 19 [s]).sat Q:=by have g:=h.len;have i:=a.1;have f:∀d∈ds,∃x∈xs,eE x d:=λd hd=>h.get d hd;refine aP (d:=Oj) rfl rfl (by decide) ?_;symm;rcases hs with rfl|rfl|rfl;all_goals
  simp[Oj,show ds.length<=lim by show _<=16777216;omega];refine aV (VG _) Od ⟨.aC,rfl,rfl⟩ ?_ ?_
  . rintro d hd _⟨s,rfl,hs⟩;obtain⟨x,c,hi⟩:=f d hd;rcases hi.cases with⟨rfl,rfl⟩|⟨e,rfl,rfl|rfl⟩;.simp[hs];exact⟨rfl,_,rfl,rfl⟩
    .have:=a.2 e c;simp[hs];exact⟨rfl,_,rfl,rfl⟩
    .have:=a.2 e c;simp[hs];exact⟨rfl,_,rfl,rfl⟩
  rintro _⟨s,rfl,hs⟩;rw[h.fl];simp;exact k
theorem lq{s:Sl}{xs:List Rw}(hs:s=.val false (.lst ds)\/s=.val false (.tup ds)\/s=.own true ds)(h:Al eE xs ds)(a:Cv xs)(k:Q (.val (.tup (xs.map jH))) [s]):(run Γ w (n+1) 9 [s]).sat Q:=by have g:=h.len;have i:=a.1;have f:∀d∈ds,∃x∈xs,eE x d:=λd hd=>h.get d hd;refine aP (d:=f9) rfl rfl (by decide) ?_;symm;rcases hs with rfl|rfl|rfl;all_goals
  simp[f9,show ds.length<=lim by show _<=16777216;omega];refine aV (VG _) Od ⟨.aC,rfl,rfl⟩ ?_ ?_
  . rintro d hd _⟨s,rfl,hs⟩;obtain⟨x,c,hi⟩:=f d hd;rcases hi.cases with⟨rfl,rfl⟩|⟨e,rfl,rfl|rfl⟩;.simp[hs];exact⟨rfl,_,rfl,rfl⟩
    .have:=a.2 e c;simp[hs];exact⟨rfl,_,rfl,rfl⟩
    .have:=a.2 e c;simp[hs];exact⟨rfl,_,rfl,rfl⟩
  rintro _⟨s,rfl,hs⟩;rw[h.fl];simp;exact k
theorem CK{ns:List Int}{i lo hi:Int}(h0:0<=i)(h1:i<(ns.length:Int))(k:∀x∈ns,lo<=x/\x<=hi):∃r,at' (ns.map D.int) i=some (.int r)/\lo<=r/\r<=hi:=by
 have a:i.toNat<ns.length:=by omega
 refine⟨ns[i.toNat],?_,k _ (getElem_mem a)⟩;rw[su h0 (by simpa using h1)];simp[a]
theorem qH{a:Int}(h:a<=1000000000000000000000):a<big:=by show _<(1606938044258990275541962092341162602522202993782792835301376:Int);omega
theorem kE(h0:0<m)(k:∀d x z:Int,0<=d->d<m->Q (.val (.int d)) [.own true [.int x,.int y,.int z],.val false (.int m)]):(run Γ w (n+2) 14 [.own true [.int x,.int y,.int z],.val false (.int m)]).sat Q:=by refine aP (d:=Qf) rfl rfl (by decide) ?_;symm;simp[Qf];refine bM (by decide) (by decide) λd x z d0 d1=>?_;simp;refine bM (by decide) (by decide) λe x z a c=>?_;simp[h0];exact k _ _ _ (Int.emod_nonneg _ (by omega)) (Int.emod_lt_of_pos _ h0)
structure gC where(s t h:Int)
def gC.d(r:gC):D:=.tup [.int r.s,.int r.t,.int r.h]
structure gC.Ok(m:Int)(r:gC):Prop where
 s0:0<=r.s
 s1:r.s<m
 t0:0<=r.t
 t1:r.t<m
 ne:r.s≠r.t
 h0:1<=r.h
 h1:r.h<=1000000
def Br(p:Int×Int):D:=.tup [.int p.1,.int p.2]
def Fv(m:Int)(p:Int×Int):Prop:=0<=p.1/\p.1<m/\0<=p.2/\p.2<m/\p.1≠p.2
inductive JRo(y m:Int)(b:Nat)(s4 s5 s6 s7:Sl)(i:Nat)(ρ:List Sl):Prop where|mk(x z:Int)(ps:List (Int×Int))(s3:Sl)(q0:ρ=[.own true [.int x,.int y,.int z],.val false (.int m),.own false (ps.map Br),s3,s4,s5,s6,s7])(q1:fr s3=true)(q2:(∀p∈ps,Fv m p))(q3:ps.length<=b+i)
inductive JRp(y m:Int)(b:Nat)(s3 s6 s7:Sl)(i:Nat)(ρ:List Sl):Prop where|mk(x z:Int)(ps:List (Int×Int))(s4 s5:Sl)(q0:ρ=[.own true [.int x,.int y,.int z],.val false (.int m),.own false (ps.map Br),s3,s4,s5,s6,s7])(q1:(fr s4=true/\fr s5=true))(q2:(∀p∈ps,Fv m p))(q3:ps.length<=b+i)
inductive JRq(y m:Int)(ds:List D)(s3 s4:Sl)(r:List D)(ρ:List Sl):Prop where|mk(x z:Int)(us:List (Int×Int))(vs:List gC)(s5 s7:Sl)(q0:ρ=[.own true [.int x,.int y,.int z],.val false (.int m),.lent ds,s3,s4,s5,.own false (vs.map gC.d),s7])(q1:(fr s5=true/\fr s7=true))(q2:r=us.map Br)(q3:(∀p∈us,Fv m p))(q4:(∀v∈vs,v.Ok m))(q5:us.length+vs.length<=12)
theorem uV(m0:2<=m)(m1:m<=6)(k:∀(g:List gC)(x z:Int),(∀v∈g,v.Ok m)->g.length<=12->Q (.own (g.map gC.d)) [.own true [.int x,.int y,.int z],.val false (.int m)]):(run Γ w (n+3) 15 [.own true [.int x,.int y,.int z],.val false (.int m)]).sat Q:=by
 refine aP (d:=O5) rfl rfl (by decide) ?_;symm;simp[O5];apply ak;simp[show m-1<=1000000000 by omega,show-1000000000<=m-1 by omega];refine pY (JRo y m 0 _ _ _ _) ?_ ?_ ⟨x,z,[],.aC,rfl,rfl,by simp,by simp⟩
 . rintro i _ hi⟨x,z,ps,s3,rfl,H,u,A⟩;simp[H];apply ak;simp;refine bM (by decide) (by decide) λd x z d0 d1=>?_;simp;refine⟨λ_=>?_,λ_=>?_⟩
   . symm;simp[show ps.length<lim by show _<16777216;omega];refine⟨x,z,ps++[((i:Int),(i:Int)+1)],_,by simp[Br];rfl,rfl,λp hp'=>?_,by simp;omega⟩;rcases mem_append.mp hp' with hp'|hp';.exact u p hp'
     .rw[mem_singleton.mp hp'];refine⟨?_,?_,?_,?_,?_⟩<;>simp<;>omega
   .exact⟨x,z,ps,_,rfl,rfl,u,by omega⟩
 rintro _⟨x,z,ps,s3,rfl,H,u,A⟩;symm;simp;have L:ps.length<=5:=by omega
 refine bM (by omega) (qH (by omega)) λc x z c0 c1=>?_;simp;refine⟨by omega,?_⟩;refine pY (JRp y m ps.length _ _ _) ?_ ?_ ⟨x,z,ps,.aC,.aC,rfl,⟨rfl,rfl⟩,u,by simp⟩
 . rintro i _ hi⟨x,z,l,s4,s5,rfl,⟨I,j⟩,s,B⟩;simp[I];apply ak;simp;refine bM (by omega) (qH (by omega)) λa x z C E=>?_;simp[j];apply ak;simp;refine bM (by omega) (qH (by omega)) λb x z b0 b1=>?_;obtain⟨t0,t1,M⟩:=other C E b0 b1;simp[show 0<m by omega,show l.length<lim by show _<16777216;omega];refine⟨x,z,l++[(a,(a+1+b)%m)],.val false (.int i),.val false (.int a),by simp[Br],⟨rfl,rfl⟩,λp hp'=>?_,by simp;omega⟩;rcases mem_append.mp hp' with hp'|hp';.exact s p hp'
   .rw[mem_singleton.mp hp'];exact⟨C,E,t0,t1,λz=>M z.symm⟩
 rintro _⟨x,z,l,s4,s5,rfl,⟨I,j⟩,s,B⟩;have N:l.length<=12:=by omega
 symm;simp;apply ak;simp;refine gM (JRq y m _ _ _) ?_ ?_ ⟨x,z,l,[],s5,.aC,rfl,⟨j,rfl⟩,rfl,s,by simp,by simpa using N⟩;.rintro d r _⟨x,z,t,g,s5,s7,rfl,⟨j,J⟩,hr,F,G,A⟩;cases t with|nil=>cases hr|cons p t=>
     obtain⟨rfl,rfl⟩:d=Br p/\r=t.map Br:=by simpa using hr
     have f:=F p (by simp);simp at A;simp[j,J,Br];apply ak;simp;refine bM (by decide) (by decide) λa x z C E=>?_;simp;refine kE (by decide) λb x z b0 b1=>?_;simp;refine bM (by decide) (by decide) λe x z O U=>?_;obtain⟨h,he,h0,h1⟩:=CK (ns:=[1,1,2,2,3,1+a,1+b]) (lo:=1) (hi:=1000000) O (by simpa using U) (by simp;omega);simp only[map_cons,map_nil]at he;simp[he,show g.length<lim by show _<16777216;omega];refine⟨x,z,t,g++[⟨p.1,p.2,h⟩],.val false (.int p.1),.val false (.int p.2),by simp[gC.d],⟨rfl,rfl⟩,rfl,λq s=>F q (by simp[s]),λv hv'=>?_,by simp;omega⟩;rcases mem_append.mp hv' with hv'|hv';.exact G v hv'
     .rw[mem_singleton.mp hv'];exact⟨f.1,f.2.1,f.2.2.1,f.2.2.2.1,f.2.2.2.2,h0,h1⟩
 .rintro _⟨x,z,t,g,s5,s7,rfl,⟨j,J⟩,hr,F,G,A⟩;symm;simp;exact k g x z G (by omega)
def qz(r:List Int):D:=.lst (r.map D.int)
def Rn(L:Int)(r:List Int):Prop:=(r.length:Int)=L/\∀x∈r,0<=x/\x<=1000000000
theorem tM{P:Int->Prop}{c:Type}:∀{l:List c}{ds:List D},Al (λ_ d=>∃i:Int,d=D.int i/\P i) l ds->∃a:List Int,ds=a.map D.int/\a.length=l.length/\∀x∈a,P x
 |[],[],_=>⟨[],rfl,rfl,by simp⟩|_::l,_::ds,⟨⟨i,rfl,p⟩,h⟩=>by
   obtain⟨a,rfl,e,q⟩:=tM h;refine⟨i::a,rfl,by simp[e],λx hx=>?_⟩;rcases mem_cons.mp hx with rfl|hx;.exact p
   .exact q x hx|[],_::_,h=>h.elim|_::_,[],h=>h.elim
theorem sW{P:List Int->Prop}{a:Type}:∀{l:List a}{ds:List D},Al (λ_ d=>∃r:List Int,d=qz r/\P r) l ds->∃rs:List (List Int),ds=rs.map qz/\rs.length=l.length/\∀r∈rs,P r
 |[],[],_=>⟨[],rfl,rfl,by simp⟩|_::l,_::ds,⟨⟨i,rfl,p⟩,h⟩=>by
   obtain⟨c,rfl,e,q⟩:=sW h;refine⟨i::c,rfl,by simp[e],λx hx=>?_⟩;rcases mem_cons.mp hx with rfl|hx;.exact p
   .exact q x hx|[],_::_,h=>h.elim|_::_,[],h=>h.elim
inductive JRw(y:Int)(a1 a2 a3:Sl)(ρ:List Sl):Prop where|mk(x z:Int)(s:Sl)(q0:ρ=[.own true [.int x,.int y,.int z],a1,a2,a3,s])(q1:fr s=true)
inductive JRx(y:Int)(a1 a2 a3 a4:Sl)(ρ:List Sl):Prop where|mk(x z:Int)(s:Sl)(q0:ρ=[.own true [.int x,.int y,.int z],a1,a2,a3,a4,s])(q1:fr s=true)
theorem pO{L:Int}(m0:0<=m)(m1:m<=12)(p:0<=L)(q:L<=13)(k:∀(rs:List (List Int))(x z:Int),(rs.length:Int)=m->(∀r∈rs,Rn L r)->Q (.own (rs.map qz)) [.own true [.int x,.int y,.int z],.val false (.int m),.val false (.int L)]):(run Γ w (n+3) 16 [.own true [.int x,.int y,.int z],.val false (.int m),.val false (.int L)]).sat Q:=by
 refine aP (d:=PK) rfl rfl (by decide) ?_;symm;simp[PK];refine bM (by decide) (by decide) λd x z d0 d1=>?_;obtain⟨h,he,h0,h1⟩:=CK (ns:=[3,10,1000000001]) (lo:=3) (hi:=1000000001) d0 (by simpa using d1) (by simp);simp only[map_cons,map_nil]at he;simp[he];apply ak;simp[show m<=1000000000 by omega,show-1000000000<=m by omega];refine⟨λ_=>?_,by omega⟩;refine dN (JRw y _ _ _) (λ(i:Nat)=>D.int (i:Int)) (λ_ d=>∃r:List Int,d=qz r/\Rn L r) ⟨x,z,.aC,rfl,rfl⟩ ?_ ?_
 . rintro i hi _⟨x,z,s,rfl,hs⟩;simp[hs,show L<=1000000000 by omega,show-1000000000<=L by omega];refine⟨λ_=>?_,by omega⟩;refine dN (JRx y _ _ _ _) (λ(i:Nat)=>D.int (i:Int)) (λ_ d=>∃i:Int,d=D.int i/\(0<=i/\i<=1000000000)) ⟨x,z,.aC,rfl,rfl⟩ ?_ ?_;.rintro j t _⟨x,z,s,rfl,hs⟩;simp[hs];refine kE (by omega) λe x z g a=>?_;simp;exact⟨⟨g,by omega⟩,_,_,_,rfl,rfl⟩
   rintro ds _⟨x,z,s,rfl,hs⟩c;obtain⟨l,rfl,a,f⟩:=tM c;simp;refine⟨⟨l,rfl,?_,f⟩,x,z,_,rfl,rfl⟩;rw[a];simp;omega
 rintro ds _⟨x,z,s,rfl,hs⟩c;obtain⟨rs,rfl,a,f⟩:=sW c;simp;refine k rs x z ?_ f;rw[a];simp;omega
theorem qR{s:Sl}(hs:s=.val false (.lst ds)\/s=.val false (.tup ds)\/s=.own false ds)(f:ds.length<=1000)(k:∀(r:R)(x z:Int)(e:Sl),(r=.own ds\/r=.val (.tup ds))->(e=s\/∃b,e=.val b (.lst ds))->Q r [.own true [.int x,.int y,.int z],e]):(run Γ w (n+2) 17 [.own true [.int x,.int y,.int z],s]).sat Q:=by
 have a:ds.length<=lim:=by show _<=16777216;omega
 refine aP (d:=O6) rfl rfl (by decide) ?_;symm;rcases hs with rfl|rfl|rfl;all_goals
  simp[O6];refine bM (by decide) (by decide) λd x z d0 d1=>?_;by_cases c:d=0;.simp[c];symm;simp[a];exact k _ x z _ (.inl rfl) (.inl rfl)
  .simp[c];symm;simp[a];first|exact k _ x z _ (.inr rfl) (.inl rfl)|exact k _ x z _ (.inr rfl) (.inr ⟨_,rfl⟩)
def gd:Nat->D->Bool|_,.non=>true|_,.int _=>true|k+1,.tup ds=>decide (ds.length<=1000)&&ds.all (gd k)|_,_=>false
theorem vm:∀l:List D,∃bs,(l.map λ_=>D.bl true).mapM u6=some bs/\bs.all id=true|[]=>⟨[],rfl,rfl⟩|d::l=>by obtain⟨bs,h1,a⟩:=vm l;refine⟨true::bs,?_,by simpa using a⟩;rw[map_cons,List.mapM_cons,h1];rfl
inductive F2g(a b:Sl)(ρ:List Sl):Prop where|mk(s:Sl)(t:Sl)(q0:ρ=[a,b,s,t])(q1:fr s=true)(q2:fr t=true)
theorem xX:(ds.zip ds).map (λp=>D.tup [p.1,p.2])=ds.map λd=>D.tup [d,d]:=by induction ds with|nil=>rfl|cons d ds a=>simp[a]
theorem iT:∀(j:Nat){w n:Nat}{d:D}{Q:R->List Sl->Prop},gd j d=true->Q (.val (.bl true)) [.val false d,.val false d]->(run Γ w (n+j+1) 18 [.val false d,.val false d]).sat Q:=λj=>by induction j with
 |zero=>intro w n d Q h k;refine aP (d:=zT) rfl rfl (by decide) ?_;symm;cases d with|non=>simp[zT];apply ak;simp;exact k|int i=>simp[zT];apply ak;simp[bA];apply ak;simp[bA];exact k|_=>cases h
 |succ j g=>intro w n d Q h k;rw[show n+(j+1)+1=(n+j+1)+1 by omega];refine aP (d:=zT) rfl rfl (by decide) ?_;symm;cases d with|non=>simp[zT];apply ak;simp;exact k|int i=>simp[zT];apply ak;simp[bA];apply ak;simp[bA];exact k|tup ds=>
     have h':(decide (ds.length<=1000)&&ds.all (gd j))=true:=h;rw[and_eq_true]at h';have q:ds.length<=1000:=of_decide_eq_true h'.1;have a:ds.length<=lim:=by show _<=16777216;omega
     have l:=all_eq_true.mp h'.2;simp[zT];apply ak;simp[bA];apply ak;simp;apply ak;simp[a];rw[xX];refine aV (F2g _ _) (λ_=>.bl true) ⟨.aC,.aC,rfl,rfl,rfl⟩ ?_ ?_;.rintro e he _⟨s1,s2,rfl,h1,f⟩;obtain⟨d,hd,rfl⟩:=mem_map.mp he;simp[h1,f];refine g (l d hd) ?_;simp;exact⟨_,_,rfl,rfl,rfl⟩
     rintro _⟨s1,s2,rfl,h1,f⟩;obtain⟨bs,p,c⟩:=vm (ds.map λd=>D.tup [d,d]);generalize(ds.map λd=>D.tup [d,d]).map (λ_=>D.bl true)=r at*;simp[p,c];exact k|_=>cases h
theorem uT{i:Int}(k:Q (.val (.bl true)) [.val false (.int i)]):(run Γ w (n+1) 0 [.val false (.int i)]).sat Q:=by refine aP (d:=f0) rfl rfl (by decide) ?_;symm;simp[f0,bA];exact k
theorem cu{i a b:Int}(h1:a<=i)(c:i<=b)(k:Q (.val (.bl true)) [.val false (.int i),.val false (.int a),.val false (.int b)]):(run Γ w (n+2) 1 [.val false (.int i),.val false (.int a),.val false (.int b)]).sat Q:=by refine aP (d:=f1) rfl rfl (by decide) ?_;symm;simp[f1];refine uT ?_;simp[h1,c];exact k
theorem cC{d:D}(h:d=.lst ds\/d=.tup ds)(k:Q (.val (.bl true)) [.val b d]):(run Γ w (n+1) 2 [.val b d]).sat Q:=by refine aP (d:=f2) rfl rfl (by decide) ?_;symm;rcases h with rfl|rfl;all_goals simp[f2,bA];exact k
theorem mZ{s t h:Int}(v:gC.Ok m ⟨s,t,h⟩)(k:Q (.val (.bl true)) [.val false (.int m),.val false (.tup [.int s,.int t,.int 0,.int h])]):(run Γ w (n+3) 3 [.val false (.int m),.val false (.tup [.int s,.int t,.int 0,.int h])]).sat Q:=by obtain⟨s0,s1,t0,t1,ne,h0,h1⟩:=v;simp only at s0 s1 t0 t1 ne h0 h1;refine aP (d:=f3) rfl rfl (by decide) ?_;symm;simp[f3];refine cC (.inr rfl) ?_;simp;refine cu s0 (by omega) ?_;simp;refine cu t0 (by omega) ?_;simp[ne];refine cu (Int.le_refl _) (by decide) ?_;simp;refine cu h0 h1 ?_;simp;exact k
def gU(r:gC):Rw:=some [r.s,r.t,r.h]
theorem pB{v:gC}{d:D}(a:v.Ok m)(h:eE (gU v) d)(k:Q (.val (.bl true)) [.val false (.int m),.val false d]):(run Γ w (n+4) 4 [.val false (.int m),.val false d]).sat Q:=by
 obtain⟨s,t,c⟩:=v;refine aP (d:=f4) rfl rfl (by decide) ?_;symm;rcases(show d=.lst [.int s,.int t,.int c]\/d=.tup [.int s,.int t,.int c]from h)with rfl|rfl;.simp[f4];refine cC (.inl rfl) ?_;simp;refine mZ a ?_;simp;exact k
 .simp[f4];refine cC (.inr rfl) ?_;simp;refine mZ a ?_;simp;exact k
inductive O8(a b:Sl)(ρ:List Sl):Prop where|mk(s:Sl)(q0:ρ=[a,b,s])(q1:fr s=true)
inductive Iv(a b c:Sl)(ρ:List Sl):Prop where|mk(s:Sl)(q0:ρ=[a,b,c,s])(q1:fr s=true)
theorem vp{f:List gC}{d:D}(g:∀v∈f,v.Ok m)(q:f.length<=12)(hd:d=.lst ds\/d=.tup ds)(h:Al eE (f.map gU) ds)(k:Q (.val (.bl true)) [.val false (.int m),.val false d]):(run Γ w (n+5) 5 [.val false (.int m),.val false d]).sat Q:=by
 have h1:=h.len;rw[length_map]at h1;have i:∀e∈ds,∃v∈f,eE (gU v) e:=λe he=>by obtain⟨x,l,hi⟩:=h.get e he;obtain⟨v,g,rfl⟩:=mem_map.mp l;exact⟨v,g,hi⟩
 obtain⟨bs,j,c⟩:=vm ds;refine aP (d:=f5) rfl rfl (by decide) ?_;symm;rcases hd with rfl|rfl
 . simp[f5];refine cC (.inl rfl) ?_;simp[show(ds.length:Int)<=12 by omega,show ds.length<=lim by show _<=16777216;omega];refine aV (O8 _ _) (λ_=>.bl true) ⟨.aC,rfl,rfl⟩ ?_ ?_;.rintro e he _⟨s,rfl,hs⟩;obtain⟨v,a,hi⟩:=i e he;simp[hs];refine pB (g v a) hi ?_;simp;exact⟨_,rfl,rfl⟩
   rintro _⟨s,rfl,hs⟩;generalize ds.map (λ_=>D.bl true)=p at*;simp[j,c];exact k
 . simp[f5];refine cC (.inr rfl) ?_;simp[show(ds.length:Int)<=12 by omega,show ds.length<=lim by show _<=16777216;omega];refine aV (O8 _ _) (λ_=>.bl true) ⟨.aC,rfl,rfl⟩ ?_ ?_;.rintro e he _⟨s,rfl,hs⟩;obtain⟨v,a,hi⟩:=i e he;simp[hs];refine pB (g v a) hi ?_;simp;exact⟨_,rfl,rfl⟩
   rintro _⟨s,rfl,hs⟩;generalize ds.map (λ_=>D.bl true)=p at*;simp[j,c];exact k
theorem bZ{L:Int}{a:List Int}{d:D}(h:Rn L a)(q:L<=13)(hd:d=.lst (a.map D.int)\/d=.tup (a.map D.int))(k:Q (.val (.bl true)) [.val false (.int L),.val false d]):(run Γ w (n+3) 6 [.val false (.int L),.val false d]).sat Q:=by
 obtain⟨h1,j⟩:=h;obtain⟨bs,l,c⟩:=vm (a.map D.int);refine aP (d:=f6) rfl rfl (by decide) ?_;symm;rcases hd with rfl|rfl
 . simp[f6];refine cC (.inl rfl) ?_;simp[h1,show a.length<=lim by show _<=16777216;omega];refine aV (O8 _ _) (λ_=>.bl true) ⟨.aC,rfl,rfl⟩ ?_ ?_;.rintro e he _⟨s,rfl,hs⟩;obtain⟨i,hi,rfl⟩:=mem_map.mp he;obtain⟨f,g⟩:=j i hi;simp[hs];refine cu f g ?_;simp;exact⟨_,rfl,rfl⟩
   rintro _⟨s,rfl,hs⟩;generalize(a.map D.int).map (λ_=>D.bl true)=p at*;simp[l,c];exact k
 . simp[f6];refine cC (.inr rfl) ?_;simp[h1,show a.length<=lim by show _<=16777216;omega];refine aV (O8 _ _) (λ_=>.bl true) ⟨.aC,rfl,rfl⟩ ?_ ?_;.rintro e he _⟨s,rfl,hs⟩;obtain⟨i,hi,rfl⟩:=mem_map.mp he;obtain⟨f,g⟩:=j i hi;simp[hs];refine cu f g ?_;simp;exact⟨_,rfl,rfl⟩
   rintro _⟨s,rfl,hs⟩;generalize(a.map D.int).map (λ_=>D.bl true)=p at*;simp[l,c];exact k
theorem wG{T:Int}{W d:D}{i:List D}(q:T<=12)(hr:∀r∈rs,Rn (T+1) r)(t:rs.length<=12)(l:W=.lst i\/W=.tup i)(hc:i.length=rs.length)(hd:d=.lst ds\/d=.tup ds)(h:Al eE (rs.map some) ds)(k:Q (.val (.bl true)) [.val false W,.val false (.int T),.val false d]):(run Γ w (n+4) 7 [.val false W,.val false (.int T),.val false d]).sat Q:=by
 have h1:=h.len;rw[length_map]at h1;have f:∀e∈ds,∃r∈rs,e=.lst (r.map D.int)\/e=.tup (r.map D.int):=λe he=>by obtain⟨x,p,hi⟩:=h.get e he;obtain⟨r,hr,rfl⟩:=mem_map.mp p;exact⟨r,hr,hi⟩
 obtain⟨bs,g,c⟩:=vm ds;refine aP (d:=f7) rfl rfl (by decide) ?_;symm;rcases l with rfl|rfl<;>rcases hd with rfl|rfl
 . simp[f7];refine cC (.inl rfl) ?_;simp[h1,hc,show rs.length<=lim by show _<=16777216;omega];refine aV (Iv _ _ _) (λ_=>.bl true) ⟨.aC,rfl,rfl⟩ ?_ ?_;.rintro e he _⟨s,rfl,hs⟩;obtain⟨r,a,hi⟩:=f e he;simp[hs];refine bZ (hr r a) (by omega) hi ?_;simp;exact⟨_,rfl,rfl⟩
   rintro _⟨s,rfl,hs⟩;generalize ds.map (λ_=>D.bl true)=j at*;simp[g,c];exact k
 . simp[f7];refine cC (.inr rfl) ?_;simp[h1,hc,show rs.length<=lim by show _<=16777216;omega];refine aV (Iv _ _ _) (λ_=>.bl true) ⟨.aC,rfl,rfl⟩ ?_ ?_;.rintro e he _⟨s,rfl,hs⟩;obtain⟨r,a,hi⟩:=f e he;simp[hs];refine bZ (hr r a) (by omega) hi ?_;simp;exact⟨_,rfl,rfl⟩
   rintro _⟨s,rfl,hs⟩;generalize ds.map (λ_=>D.bl true)=j at*;simp[g,c];exact k
 . simp[f7];refine cC (.inl rfl) ?_;simp[h1,hc,show rs.length<=lim by show _<=16777216;omega];refine aV (Iv _ _ _) (λ_=>.bl true) ⟨.aC,rfl,rfl⟩ ?_ ?_;.rintro e he _⟨s,rfl,hs⟩;obtain⟨r,a,hi⟩:=f e he;simp[hs];refine bZ (hr r a) (by omega) hi ?_;simp;exact⟨_,rfl,rfl⟩
   rintro _⟨s,rfl,hs⟩;generalize ds.map (λ_=>D.bl true)=j at*;simp[g,c];exact k
 . simp[f7];refine cC (.inr rfl) ?_;simp[h1,hc,show rs.length<=lim by show _<=16777216;omega];refine aV (Iv _ _ _) (λ_=>.bl true) ⟨.aC,rfl,rfl⟩ ?_ ?_;.rintro e he _⟨s,rfl,hs⟩;obtain⟨r,a,hi⟩:=f e he;simp[hs];refine bZ (hr r a) (by omega) hi ?_;simp;exact⟨_,rfl,rfl⟩
   rintro _⟨s,rfl,hs⟩;generalize ds.map (λ_=>D.bl true)=j at*;simp[g,c];exact k
structure SN(m T:Int)(xs:List Rw):Prop where
 len:(xs.length:Int)=m
 fst:xs[0]?=some none
 lst:xs.getLast?=some none
 ok:∀is,some is∈xs->Rn T is
theorem Al.at{xs:List Rw}{ds:List D}(h:Al eE xs ds):∀{i:Nat},xs[i]?=some none->ds[i]?=some .non:=by induction xs generalizing ds with|nil=>intro i e;cases e|cons x xs a=>intro i e;cases ds with|nil=>exact h.elim|cons d ds=>cases i with|zero=>simp at e;subst e;have:d=.non:=h.1;simp[this]|succ i=>simp at e ⊢;exact a h.2 e
theorem uJ{T:Int}{xs:List Rw}{d:D}(E:T<=12)(m0:2<=m)(m1:m<=6)(c:SN m T xs)(hd:d=.lst ds\/d=.tup ds)(h:Al eE xs ds)(k:Q (.val (.bl true)) [.val false (.int m),.val false (.int T),.val false d]):(run Γ w (n+4) 8 [.val false (.int m),.val false (.int T),.val false d]).sat Q:=by
 have h1:=h.len;have g:=c.len;have B:=h.at c.fst;have j:=c.lst;rw[List.getLast?_eq_getElem?]at j;have p:=h.at j;have t:at' ds 0=some .non:=by have:=su (l:=ds) (i:=0) (Int.le_refl _) (by omega);rw[this];exact B
 have u:at' ds (-1)=some .non:=by
  obtain⟨l,y,rfl⟩:∃l y,ds=l++[y]:=by
   rcases List.eq_nil_or_concat ds with rfl|⟨l,y,e⟩;.simp at h1;omega
   .exact⟨l,y,by rw[e,List.concat_eq_append]⟩
  rw[Ao];rw[<-h1]at p;simpa using p
 have v:∀e∈ds,e=.non\/∃r,Rn T r/\(e=.lst (r.map D.int)\/e=.tup (r.map D.int)):=λe he=>by
  obtain⟨x,f,hi⟩:=h.get e he;rcases hi.cases with⟨_,q⟩|⟨r,rfl,q⟩;.exact .inl q
  .exact .inr ⟨r,c.ok r f,q⟩
 obtain⟨bs,A,a⟩:=vm ds;refine aP (d:=f8) rfl rfl (by decide) ?_;symm;rcases hd with rfl|rfl
 . simp[f8];refine cC (.inl rfl) ?_;simp[h1,g,t,u];apply ak;simp[show ds.length<=lim by show _<=16777216;omega];refine aV (Iv _ _ _) (λ_=>.bl true) ⟨.aC,rfl,rfl⟩ ?_ ?_
   . rintro e he _⟨s,rfl,hs⟩;rcases v e he with rfl|⟨r,hr,hi⟩;.simp[hs];exact⟨_,rfl,rfl⟩
     . rcases hi with rfl|rfl;.simp[hs];refine bZ hr (by omega) (.inl rfl) ?_;simp;exact⟨_,rfl,rfl⟩
       .simp[hs];refine bZ hr (by omega) (.inr rfl) ?_;simp;exact⟨_,rfl,rfl⟩
   rintro _⟨s,rfl,hs⟩;generalize ds.map (λ_=>D.bl true)=C at*;simp[A,a];exact k
 . simp[f8];refine cC (.inr rfl) ?_;simp[h1,g,t,u];apply ak;simp[show ds.length<=lim by show _<=16777216;omega];refine aV (Iv _ _ _) (λ_=>.bl true) ⟨.aC,rfl,rfl⟩ ?_ ?_
   . rintro e he _⟨s,rfl,hs⟩;rcases v e he with rfl|⟨r,hr,hi⟩;.simp[hs];exact⟨_,rfl,rfl⟩
     . rcases hi with rfl|rfl;.simp[hs];refine bZ hr (by omega) (.inl rfl) ?_;simp;exact⟨_,rfl,rfl⟩
       .simp[hs];refine bZ hr (by omega) (.inr rfl) ?_;simp;exact⟨_,rfl,rfl⟩
   rintro _⟨s,rfl,hs⟩;generalize ds.map (λ_=>D.bl true)=C at*;simp[A,a];exact k
structure yM(m T:Int)(vs:List gC)(rs:List (List Int))(xs:List Rw):Prop where
 m0:2<=m
 m1:m<=6
 t0:0<=T
 t1:T<=12
 vl:vs.length<=12
 vk:∀v∈vs,v.Ok m
 rl:rs.length=vs.length
 rk:∀r∈rs,Rn (T+1) r
 wt:SN m T xs
def dh(m T:Int)(a:List gC)(rs:List (List Int))(xs:List Rw):D:=.tup [.int m,.int T,.tup ((a.map gU).map jH),.tup ((rs.map some).map jH),.tup (xs.map jH)]
theorem yM.s1{T:Int}{a:List gC}{xs:List Rw}(c:yM m T a rs xs):Cv (a.map gU):=⟨by rw[length_map];exact c.vl,λf h=>by obtain⟨v,_,e⟩:=mem_map.mp h;cases e;simp⟩
theorem yM.s2{T:Int}{a:List gC}{xs:List Rw}(c:yM m T a rs xs):Cv (rs.map some):=⟨by rw[length_map,c.rl];exact c.vl,λf h=>by obtain⟨v,g,e⟩:=mem_map.mp h;cases e;have:=(c.rk f g).1;have:=c.t1;omega⟩
theorem yM.s3{T:Int}{a:List gC}{xs:List Rw}(c:yM m T a rs xs):Cv xs:=⟨by have:=c.wt.len;have:=c.m1;omega,λe h=>by have:=(c.wt.ok e h).1;have:=c.t1;omega⟩
theorem pA{T:Int}{a:List gC}{xs:List Rw}{d1 d2 d3:D}{e f g:List D}(c:yM m T a rs xs)(h1:d1=.lst e\/d1=.tup e)(i:Al eE (a.map gU) e)(p:d2=.lst f\/d2=.tup f)(q:Al eE (rs.map some) f)(r:d3=.lst g\/d3=.tup g)(s:Al eE xs g)(k:Q (.val (dh m T a rs xs)) [.val false (.int m),.val false (.int T),.val false d1,.val false d2,.val false d3]):(run Γ w (n+6) 10 [.val false (.int m),.val false (.int T),.val false d1,.val false d2,.val false d3]).sat Q:=by
 have j:∀{d:D}{l:List D},d=.lst l\/d=.tup l->Sl.val false d=.val false (.lst l)\/Sl.val false d=.val false (.tup l)\/Sl.val false d=.own true l:=λh=>by
  rcases h with rfl|rfl;.exact .inl rfl
  .exact .inr (.inl rfl)
 refine aP (d:=Ol) rfl rfl (by decide) ?_;symm;simp[Ol];refine cu c.m0 c.m1 ?_;simp;apply ak;simp;refine cu c.t0 c.t1 ?_;simp;apply ak;simp;refine vp c.vk c.vl h1 i ?_;simp;apply ak;simp;refine wG c.t1 c.rk (by rw[c.rl];exact c.vl) h1 (by rw[i.len,length_map,c.rl]) p q ?_;simp;apply ak;simp;refine uJ c.t1 c.m0 c.m1 c.wt r s ?_;simp;apply ak;simp;refine lq (j h1) i c.s1 ?_;simp;refine lq (j p) q c.s2 ?_;simp;refine lq (j r) s c.s3 ?_;simp;simp[dh]at k;exact k
theorem nZ{x:Nat}{r:List Nat}{body:List Sl->Res Fl}{Q:Fl->List Sl->Prop}(h1:ρ[x]?=some (.lent ds))(a:(put ρ o .aC).isSome=true)(h:(body ((ρ.set x (.hold [])).set o (.lent ds))).sat λfl ρ1=>fl=.next/\(yL o body r ((ρ1.set o .aC).set x (.lent ds))).sat Q):(yL o body (x::r) ρ).sat Q:=by obtain⟨c,f⟩:=Option.isSome_iff_exists.mp a;rw[yL,h1,f];show((body _).bind _).sat Q;rw[aY];refine h.imp λfl ρ1⟨e,q⟩=>?_;subst e;exact q
theorem vV:∀{xs:List Rw}{ds:List D},Al eE xs ds->(xs.zip ds).map (·.2)=ds/\∀p∈xs.zip ds,p.1∈xs/\eE p.1 p.2
 |[],[],_=>⟨rfl,by simp⟩|x::xs,d::ds,⟨h1,a⟩=>by
   obtain⟨e,q⟩:=vV a;refine⟨by simp[e],λp hp=>?_⟩;rw[List.zip_cons_cons]at hp;rcases mem_cons.mp hp with rfl|hp;.exact⟨by simp,h1⟩
   .exact⟨by simp[(q p hp).1],(q p hp).2⟩|[],_::_,h=>h.elim|_::_,[],h=>h.elim
theorem xP:∀{xs:List Rw}{ds os:List D},Al eE xs ds->Al (λ(p:Rw×D)d=>eE p.1 d) (xs.zip ds) os->Al eE xs os|[],[],[],_,_=>trivial|x::xs,d::ds,o::os,⟨_,a⟩,h=>⟨h.1,xP a h.2⟩|[],[],_::_,_,h=>h.elim|_::_,_::_,[],_,h=>h.elim|[],_::_,_,h,_=>h.elim|_::_,[],_,h,_=>h.elim
inductive Vg(y:Int)(r0:List Sl)(ρ:List Sl):Prop where|mk(x z:Int)(s:Sl)(q0:ρ=Sl.own true [.int x,.int y,.int z]::(r0++[s]))(q1:fr s=true)
theorem kZ{q t v A B C E c e f g:Sl}{hs:List D}{xs:List Rw}{Q:Fl->List Sl->Prop}(h:Al eE xs ds)(F:Cv xs)(X:hs.length<=100)(k:∀(x z:Int)(d:D),Jr xs d->Q .next [.own true [.int x,.int y,.int z],q,t,v,A,B,C,.own false (hs++[d]),.lent ds,E,c,e,f,g]):(fj (run Γ w (n+2)) w [.app 7 (.call 17 [.var 0,.comp (.var 8) 1 [14] true none (.Dy (.cmp .yS (.var 14) (.con .non)) (.con .non) (.call 17 [.var 0,.var 14]))])] [.own true [.int x,.int y,.int z],q,t,v,A,B,C,.own false hs,.lent ds,E,c,e,f,g]).sat Q:=by
 have I:=h.len;have Y:=F.1;symm;simp[show ds.length<=lim by show _<=16777216;omega];obtain⟨G,J⟩:=vV h;conv in iy _ _ _ _ _ ds _=>rw[<-G]
 refine dN (Vg y [q,t,v,A,B,C,.own false hs,.lent ((xs.zip ds).map λp=>p.2),E,c,e,f,g]) (λp:Rw×D=>p.2) (λp d=>eE p.1 d) ⟨x,z,.aC,rfl,rfl⟩ ?_ ?_
 . rintro p L _⟨x,z,s,rfl,a⟩;obtain⟨M,N⟩:=J p L;obtain⟨u,d⟩:=p;rcases N.cases with⟨i,j⟩|⟨O,i,j⟩;.simp at i j;subst i j;simp[a];exact⟨rfl,x,z,_,rfl,rfl⟩
   . simp at i j;subst i;have:=F.2 O M;rcases j with rfl|rfl
     . simp[a];refine qR (.inl rfl) (by simp;omega) λr x z H hr l=>?_;simp;refine⟨?_,x,z,_,rfl,rfl⟩;rcases hr with rfl|rfl;.exact .inl rfl
       .exact .inr rfl
     . simp[a];refine qR (.inr (.inl rfl)) (by simp;omega) λr x z H hr l=>?_;simp;refine⟨?_,x,z,_,rfl,rfl⟩;rcases hr with rfl|rfl;.exact .inl rfl
       .exact .inr rfl
 rintro os _⟨x,z,s,rfl,a⟩U;have ho:=xP h U;have W:=ho.len;rw[G];simp;refine qR (.inr (.inr rfl)) (by omega) λr x z H hr l=>?_;simp[show hs.length<lim by show _<16777216;omega];refine k x z r.d ⟨os,?_,ho⟩;rcases hr with rfl|rfl;.exact .inl rfl
 .exact .inr rfl
def ropt(b:Bool)(r:List Int):Rw:=if b then some r else none
def uW:Rw->D|none=>.non|some r=>qz r
theorem Gu(x:Rw):eE x (uW x):=by cases x with|none=>rfl|some r=>exact .inl rfl
theorem v9:∀xs:List Rw,Al eE xs (xs.map uW)|[]=>trivial|x::xs=>⟨Gu x,v9 xs⟩
theorem xT:∀rs:List (List Int),Al eE (rs.map some) (rs.map qz)|[]=>trivial|r::rs=>⟨.inl rfl,xT rs⟩
theorem Ci:∀a:List gC,Al eE (a.map gU) (a.map gC.d)|[]=>trivial|v::a=>⟨.inr rfl,Ci a⟩
theorem vK{e:Type}{P:List Int->Prop}:∀{l:List e}{ds:List D},Al (λg d=>∃x:Rw,d=uW x/\∀a,x=some a->P a) l ds->∃xs:List Rw,ds=xs.map uW/\xs.length=l.length/\∀a,some a∈xs->P a
 |[],[],_=>⟨[],rfl,rfl,by simp⟩|_::l,_::ds,⟨⟨x,rfl,p⟩,h⟩=>by
   obtain⟨xs,rfl,f,q⟩:=vK h;refine⟨x::xs,rfl,by simp[f],λa c=>?_⟩;rcases mem_cons.mp c with z|z;.exact p a z.symm
   .exact q a z|[],_::_,h=>h.elim|_::_,[],h=>h.elim
inductive JWa(y:Int)(r0:List Sl)(ρ:List Sl):Prop where|mk(x z:Int)(s:Sl)(q0:ρ=Sl.own true [.int x,.int y,.int z]::(r0++[s]))(q1:fr s=true)
theorem lD{xs:List Rw}(h:Cv xs):gd 2 (.tup (xs.map jH))=true:=by show(decide ((xs.map jH).length<=1000)&&(xs.map jH).all (gd 1))=true;have:=h.1;rw[and_eq_true];refine⟨decide_eq_true (by rw[length_map];omega),all_eq_true.mpr λd hd=>?_⟩;obtain⟨x,c,rfl⟩:=mem_map.mp hd;cases x with|none=>rfl|some a=>have:=h.2 a c;show(decide ((a.map D.int).length<=1000)&&(a.map D.int).all (gd 0))=true;rw[and_eq_true];refine⟨decide_eq_true (by rw[length_map];omega),all_eq_true.mpr λd hd=>?_⟩;obtain⟨i,_,rfl⟩:=mem_map.mp hd;rfl
theorem xr{T:Int}{a:List gC}{xs:List Rw}(c:yM m T a rs xs):gd 3 (dh m T a rs xs)=true:=by show(true&&(gd 2 (.int m)&&(gd 2 (.int T)&&(gd 2 (.tup ((a.map gU).map jH))&&(gd 2 (.tup ((rs.map some).map jH))&&(gd 2 (.tup (xs.map jH))&&true))))))=true;rw[lD c.s1,lD c.s2,lD c.s3];rfl
theorem Hu:∀{k:Nat}{d:D},gd k d=true->gf k d=true:=λ{k}=>by induction k with
 |zero=>intro d h;cases d<;>first|rfl|(cases h;done)
 |succ k a=>intro d h;cases d with|tup ds=>have h:(decide (ds.length<=1000)&&ds.all (gd k))=true:=h;rw[and_eq_true]at h;show ds.all (gf k)=true;exact all_eq_true.mpr λe he=>a (all_eq_true.mp h.2 e he)|_=>first|rfl|(cases h;done)
theorem wX:∀{j k:Nat}{d:D},j<=k->gf j d=true->gf k d=true:=λ{j}=>by induction j with
 |zero=>intro k d _ h;cases d<;>first|(cases k<;>rfl)|(cases h;done)
 |succ j a=>intro k d f h;obtain⟨k,rfl⟩:∃c,k=c+1:=⟨k-1,by omega⟩;cases d with|tup ds=>have h:ds.all (gf j)=true:=h;show ds.all (gf k)=true;exact all_eq_true.mpr λe he=>a (by omega) (all_eq_true.mp h e he)|_=>first|rfl|(cases h;done)
theorem Jr.emp{xs:List Rw}{d:D}(h:Jr xs d):rW d=true:=by
 obtain⟨ds,hd,f⟩:=h;have:ds.all wy=true:=all_eq_true.mpr λe he=>by
  obtain⟨x,_,hi⟩:=f.get e he;have c:∀a:List Int,(a.map D.int).all cJ=true:=λa=>all_eq_true.mpr λz g=>by obtain⟨i,_,rfl⟩:=mem_map.mp g;rfl
  rcases hi.cases with⟨_,rfl⟩|⟨a,_,rfl|rfl⟩;.rfl
  .exact c a
  .exact c a
 rcases hd with rfl|rfl<;>exact this
theorem rK:∀{j k:Nat}{d:D},j<k->gd j d=true->eV k d=true:=λ{j}=>by induction j with
 |zero=>intro k d c h;obtain⟨k,rfl⟩:∃a,k=a+1:=⟨k-1,by omega⟩;cases d<;>first|rfl|(cases h;done)
 |succ j f=>intro k d c h;obtain⟨k,rfl⟩:∃a,k=a+1:=⟨k-1,by omega⟩;cases d with|tup ds=>have h:(decide (ds.length<=1000)&&ds.all (gd j))=true:=h;rw[and_eq_true]at h;show ds.all (eV k)=true;exact all_eq_true.mpr λe he=>f (by omega) (all_eq_true.mp h.2 e he)|_=>first|rfl|(cases h;done)
theorem rT:∀{j:Nat}{d:D},gd j d=true->fY d d=true:=λ{j}=>by
 have all:∀{k:Nat}(a:∀{d:D},gd k d=true->fY d d=true){ds:List D},ds.all (gd k)=true->gk ds ds=true:=λ{k}a{ds}h=>by induction ds with|nil=>rfl|cons d ds c=>rw[all_cons,and_eq_true]at h;show(fY d d&&gk ds ds)=true;rw[a h.1,c h.2];rfl
 induction j with
 |zero=>intro d h;cases d with|non=>rfl|int i=>show(i==i)=true;simp|_=>cases h
 |succ j a=>intro d h;cases d with|tup ds=>have h:(decide (ds.length<=1000)&&ds.all (gd j))=true:=h;rw[and_eq_true]at h;show gk ds ds=true;exact all a h.2|non=>rfl|int i=>show(i==i)=true;simp|_=>cases h
theorem K4{k:Nat}(g:k<6){a b c:D}(h1:gd k a=true)(e:gd k b=true)(f:gd k c=true):cm .ne (.lst [a,b,c]) (.lst [a,b,c])=some false:=by
 have hd:eV 8 (.lst [a,b,c])=true:=by show(eV 7 a&&(eV 7 b&&(eV 7 c&&true)))=true;rw[rK (by omega) h1,rK (by omega) e,rK (by omega) f];rfl
 show(if eV 8 (.lst [a,b,c])&&eV 8 (.lst [a,b,c])then some (!fY (.lst [a,b,c]) (.lst [a,b,c]))else none)=_;rw[hd,show fY (.lst [a,b,c]) (.lst [a,b,c])=true by show(fY a a&&(fY b b&&(fY c c&&true)))=true;rw[rT h1,rT e,rT f];rfl];rfl
theorem Az{c:Call}{xs:List Nat}{body:List S}{ρ1:List Sl}(h:uK ρ xs=some ρ1):ex c n (.yF o xs body) ρ=(yL o (fj c n body) xs ρ1).bind λ_ a=>.ok .next (jn a xs):=by rw[ex,h];rfl
def blk:List S:=match LQ with|.emp B _ _ _::_=>B|_=>[]
inductive JFl(r0:List Sl)(ρ:List Sl):Prop where|mk(s:Sl)(q0:ρ=r0++[s])(q1:fr s=true)
theorem ug:∀xs:List Rw,Al eE xs (xs.map jH)|[]=>trivial|x::xs=>⟨by cases x with|none=>rfl|some r=>exact .inr rfl,ug xs⟩
theorem uM{Q:Fl->List Sl->Prop}(k:∀(m T x z:Int)(g:List gC)(rs:List (List Int))(xs:List Rw)(d1 d2 d3:D)(s8:Sl),yM m T g rs xs->Jr (g.map gU) d1->Jr (rs.map some) d2->Jr xs d3->Q .next [.own true [.int x,.int y,.int z],.val false (.int m),.val false (.int T),.own false (g.map gC.d),.own false (rs.map qz),.own false (xs.map uW),.val false (dh m T g rs xs),.own false [d1,d2,d3],s8,.val false (dh m T g rs xs),.val false (dh m T g rs xs),.aC,.aC,.aC]):(fj (run Γ w (n+10)) w blk [.own true [.int x,.int y,.int z],.aC,.aC,.aC,.aC,.aC,.aC,.aC,.aC,.aC,.aC,.aC,.aC,.aC]).sat Q:=by
 unfold blk LQ;symm;simp;refine bM (by decide) (by decide) λa x z a0 A=>?_;obtain⟨m,hm⟩:∃m:Int,m=2+a:=⟨_,rfl⟩;have m0:2<=m:=by omega
 have m1:m<=6:=by omega
 simp;rw[<-hm];symm;simp;refine bM (by decide) (by decide) λT x z t0 t1=>?_;simp;apply ak;simp;refine uV m0 m1 λg x z hv L=>?_;simp;apply ak;simp[show g.length<=lim by show _<=16777216;omega];refine pO (by omega) (by omega) (by omega) (by omega) λrs x z ac hr=>?_;simp;apply ak;simp;refine pO (by omega) (by omega) (by omega) (by omega) λqs x z M G=>?_;simp[show qs.length<=lim by show _<=16777216;omega];refine dN (Vg y [.val false (.int m),.val false (.int T),.own false (g.map gC.d),.own false (rs.map qz),.aC,.aC,.aC,.aC,.aC,.aC,.aC,.aC,.aC]) qz (λ(_:List Int)d=>∃u:Rw,d=uW u/\∀B,u=some B->Rn T B) ⟨x,z,.aC,rfl,rfl⟩ ?_ ?_
 . rintro r N _⟨x,z,s,rfl,hs⟩;simp[hs];refine bM (by decide) (by decide) λe x z e0 H=>?_;have b1:blt .int [.bl true]=some (.val (.int 1)):=rfl;have b0:blt .int [.bl false]=some (.val (.int 0)):=rfl;have A:at' [D.non,qz r] 1=some (qz r):=rfl;have a0:at' [D.non,qz r] 0=some .non:=rfl;by_cases c:0<e;.simp[c,b1,A];exact⟨⟨some r,rfl,λB h=>by cases h;exact G r N⟩,x,z,_,rfl,rfl⟩
   .simp[c,b0,a0];exact⟨⟨none,rfl,λB h=>by cases h⟩,x,z,_,rfl,rfl⟩
 rintro ds _⟨x,z,s,rfl,hs⟩I;obtain⟨C,rfl,O,hu⟩:=vK I;obtain⟨xs,v⟩:∃xs:List Rw,xs=none::(C++[none]):=⟨_,rfl⟩;have Wn:SN m T xs:=by rw[v];refine⟨by simp;omega,rfl,by simp[List.getLast?_cons],λB h=>?_⟩;simp at h;exact hu B h
 have E:D.non::(C.map uW++[D.non])=xs.map uW:=by rw[v];simp[uW]
 simp;apply ak;simp[show C.length+1<=lim by show _<=16777216;omega,show C.length+1+1<=lim by show _<=16777216;omega];refine⟨by show _<=16777216;omega,?_⟩;rw[E];have i:yM m T g rs xs:=⟨m0,m1,t0,by omega,L,hv,by omega,hr,Wn⟩;clear E v Wn hu O I C M G qs;have hw:g.map gC.d=(g.map gU).map jH:=by rw[List.map_map];rfl
 symm;simp[show g.length<=lim by show _<=16777216;omega];refine lz (.inr (.inr rfl)) (xT rs) i.s2 ?_;simp;refine lz (.inr (.inr rfl)) (v9 xs) i.s3 ?_;simp;have hc:D.tup [.int m,.int T,.tup (g.map gC.d),.tup (rs.map (jH ∘ some)),.tup (xs.map jH)]=dh m T g rs xs:=by rw[hw];unfold dh;rw[List.map_map (f:=some)]
 rw[hc];clear hc hw;symm;simp;apply ak;rw[Az (ρ1:=[.own true [.int x,.int y,.int z],.val false (.int m),.val false (.int T),.lent (g.map gC.d),.lent (rs.map qz),.lent (xs.map uW),.val false (dh m T g rs xs),.own false [],.aC,.aC,.aC,.aC,.aC,.aC]) rfl];rw[aY];refine nZ rfl rfl ?_;refine kZ (Ci g) i.s1 (by simp) λx z d1 h1=>⟨rfl,?_⟩;refine nZ rfl rfl ?_;refine kZ (xT rs) i.s2 (by simp) λx z d2 h2=>⟨rfl,?_⟩;refine nZ rfl rfl ?_;refine kZ (v9 xs) i.s3 (by simp) λx z d3 h3=>⟨rfl,?_⟩;have cg:=xr i;obtain⟨l1,H,A⟩:=h1;obtain⟨l2,U,W⟩:=h2;obtain⟨l3,X,Y⟩:=h3;show(sQ (run Γ w (n+10)) w _ Q .next [.own true [.int x,.int y,.int z],.val false (.int m),.val false (.int T),.own false (g.map gC.d),.own false (rs.map qz),.own false (xs.map uW),.val false (dh m T g rs xs),.own false [d1,d2,d3],.aC,.aC,.aC,.aC,.aC,.aC]);symm;simp;refine pA i H A U W X Y ?_;simp;apply ak;simp;refine iT 3 cg ?_;simp;refine⟨λ_=>?_,by show _<=16777216;omega⟩;refine dN (l:=[(g.map gU,d1),(rs.map some,d2),(xs,d3)]) (JFl [.own true [.int x,.int y,.int z],.val false (.int m),.val false (.int T),.own false (g.map gC.d),.own false (rs.map qz),.own false (xs.map uW),.val false (dh m T g rs xs),.lent [d1,d2,d3],.aC,.val false (dh m T g rs xs),.aC,.aC,.aC,.aC]) (λp=>p.2) (λp d=>d=.tup (p.1.map jH)) ⟨.aC,rfl,rfl⟩ ?_ ?_
 . rintro⟨F,d⟩hp _⟨s,rfl,hs⟩;have G:∃l,(d=.lst l\/d=.tup l)/\Al eE F l/\Cv F:=by
    simp at hp;rcases hp with⟨rfl,rfl⟩|⟨rfl,rfl⟩|⟨rfl,rfl⟩;.exact⟨l1,H,A,i.s1⟩
    .exact⟨l2,U,W,i.s2⟩
    .exact⟨l3,X,Y,i.s3⟩
   obtain⟨l,e,a,m'⟩:=G;simp[hs];refine lz (by rcases e with rfl|rfl;exact .inl rfl;exact .inr (.inl rfl)) a m' ?_;simp;exact⟨_,rfl,rfl⟩
 rintro ds _⟨s,rfl,hs⟩I;obtain⟨j,q,t,rfl,f1,f2,f3⟩:∃j q t:D,ds=[j,q,t]/\j=.tup ((g.map gU).map jH)/\q=.tup ((rs.map some).map jH)/\t=.tup (xs.map jH):=by match ds,I with|[j,q,t],⟨f1,f2,f3,_⟩=>exact⟨j,q,t,rfl,f1,f2,f3⟩
 have J:dh m T g rs xs=.tup [.int m,.int T,j,q,t]:=by rw[f1,f2,f3];rfl
 have Z:Dl (dh m T g rs xs) (part (P.con (D.int 2)) (D.int 2)) (part (P.con D.non) D.non)=some (.val (.tup [j,q,t])):=by rw[J];rfl
 have ab:cm .ne (.lst [j,q,t]) (.lst [j,q,t])=some false:=K4 (k:=2) (by decide) (by rw[f1];exact lD i.s1) (by rw[f2];exact lD i.s2) (by rw[f3];exact lD i.s3);have i2:sH (dh m T g rs xs) (.int 2)=some (.val j):=by rw[J];rfl
 have i3:sH (dh m T g rs xs) (.int 3)=some (.val q):=by rw[J];rfl
 have i4:sH (dh m T g rs xs) (.int 4)=some (.val t):=by rw[J];rfl
 simp[Z,ab];apply ak;simp[i2,i3,i4];refine pA i (.inr f1) (ug _) (.inr f2) (ug _) (.inr f3) (ug _) ?_;simp;exact k m T x z g rs xs d1 d2 d3 _ i ⟨l1,H,A⟩ ⟨l2,U,W⟩ ⟨l3,X,Y⟩
structure Wy where(s t r h:Int)
variable{v:Wy}
def Wy.d(v:Wy):D:=.tup [.int v.s,.int v.t,.int v.r,.int v.h]
theorem S9:sH v.d (.int 0)=some (.val (.int v.s)):=by simp[Wy.d]
theorem Rj:sH v.d (.int 1)=some (.val (.int v.t)):=by simp[Wy.d]
theorem Ml:sH v.d (.int 2)=some (.val (.int v.r)):=by simp[Wy.d]
theorem TV:sH v.d (.int 3)=some (.val (.int v.h)):=by simp[Wy.d]
def wR(v:Wy):gC:=⟨v.s,v.t,v.h⟩
def G6(m:Int)(a:List Wy):D:=.tup [.int m,.tup (a.map Wy.d)]
theorem CP:∀{c:List gC}{ds:List D},Al (λv d=>∃r:Int,d=Wy.d ⟨v.s,v.t,r,v.h⟩) c ds->∃a:List Wy,ds=a.map Wy.d/\c=a.map wR|[],[],_=>⟨[],rfl,rfl⟩|v::_,_::_,⟨⟨r,rfl⟩,h⟩=>by obtain⟨a,rfl,rfl⟩:=CP h;exact⟨⟨v.s,v.t,r,v.h⟩::a,rfl,rfl⟩|[],_::_,h=>h.elim|_::_,[],h=>h.elim
def Vp:D->D|.tup [s,t,_,h]=>.tup [s,t,h]|d=>d
def Fy(T:Int):D->D|.tup [_,_,r,_]=>.tup (replicate (T+1).toNat r)|d=>d
def M4(T m:Int)(a:List Wy):D:=.tup [.int m,.int T,.tup (((a.map wR).map gU).map jH),.tup ((a.map Wy.d).map (Fy T)),.tup (replicate m.toNat .non)]
inductive Vl(a b c d:Sl)(ρ:List Sl):Prop where|mk(s:Sl)(q0:ρ=[a,b,c,d,s])(q1:fr s=true)
theorem rm{T:Int}{c:List Wy}(t0:0<=T)(t1:T<=12)(f:c.length<=12)(m0:2<=m)(m1:m<=6)(k:Q (.val (M4 T m c)) [.val false (G6 m c),.val false (.int T)]):(run Γ w (n+1) 11 [.val false (G6 m c),.val false (.int T)]).sat Q:=by
 have a:c.length<=lim:=by show _<=16777216;omega
 unfold G6 at k ⊢;refine aP (d:=f11) rfl rfl (by decide) ?_;symm;simp[f11,a];refine aV (Vl _ _ _ _) Vp ⟨.aC,rfl,rfl⟩ ?_ ?_;.rintro d hd _⟨s,rfl,hs⟩;obtain⟨v,_,rfl⟩:=mem_map.mp hd;simp[hs,S9,Rj,TV];exact⟨rfl,_,rfl,rfl⟩
 rintro _⟨s,rfl,hs⟩;simp;apply ak;simp[a];refine aV (Vl _ _ _ _) (Fy T) ⟨.aC,rfl,rfl⟩ ?_ ?_;.rintro d hd _⟨s,rfl,hs⟩;obtain⟨v,_,rfl⟩:=mem_map.mp hd;simp[hs,Ml];exact⟨⟨by omega,by omega⟩,rfl,_,rfl,rfl⟩
 rintro _⟨s,rfl,hs⟩;simp;apply ak;simp;refine⟨⟨by omega,by omega⟩,?_⟩;have e:c.map (Vp ∘ Wy.d)=c.map (jH ∘(gU ∘ wR)):=List.map_congr_left λv _=>rfl;rw[e];unfold M4 at k;simp at k;exact k
theorem K7{T:Int}{a:List Wy}(t1:T<=12)(m1:m<=6)(c:a.length<=12):gd 3 (M4 T m a)=true:=by
 have h1:gd 2 (.tup (((a.map wR).map gU).map jH))=true:=lD ⟨by simpa using c,λi h=>by obtain⟨v,_,e⟩:=mem_map.mp h;cases e;simp⟩;have f:gd 2 (.tup ((a.map Wy.d).map (Fy T)))=true:=by show(decide (((a.map Wy.d).map (Fy T)).length<=1000)&&((a.map Wy.d).map (Fy T)).all (gd 1))=true;rw[and_eq_true];refine⟨decide_eq_true (by simp;omega),all_eq_true.mpr λd hd=>?_⟩;obtain⟨_,h,rfl⟩:=mem_map.mp hd;obtain⟨v,_,rfl⟩:=mem_map.mp h;show(decide ((replicate (T+1).toNat (D.int v.r)).length<=1000)&&(replicate (T+1).toNat (D.int v.r)).all (gd 0))=true;rw[and_eq_true];refine⟨decide_eq_true (by simp;omega),all_eq_true.mpr λd hd=>?_⟩;obtain⟨_,rfl⟩:=List.mem_replicate.mp hd;rfl
 have g:gd 2 (.tup (replicate m.toNat .non))=true:=by show(decide ((replicate m.toNat D.non).length<=1000)&&(replicate m.toNat D.non).all (gd 1))=true;rw[and_eq_true];refine⟨decide_eq_true (by simp;omega),all_eq_true.mpr λd hd=>?_⟩;obtain⟨_,rfl⟩:=List.mem_replicate.mp hd;rfl
 show(true&&(gd 2 (.int m)&&(gd 2 (.int T)&&(gd 2 (.tup _)&&(gd 2 (.tup _)&&(gd 2 (.tup _)&&true))))))=true;rw[h1,f,g];rfl
theorem Hl{c:Call}{x g:Nat}{B:List S}(h1:(ρ.map jc).all yO=true)(a:(put (ρ.map jc) o .aC).isSome=true)(e:(put (ρ.map jc) x .aC).isSome=true)(f:Gf c g=true):ex c n (.emp B x o g) ρ=(fj c n B (ρ.map jc)).bind (lg (ρ.map jc) x o):=by rw[ex,if_pos ⟨h1,⟨a,e⟩,f⟩]
theorem vM{a ρ1:List Sl}{x:Nat}{rows:List D}{Q:Fl->List Sl->Prop}(h1:ρ1[x]?=some (.own b rows))(c:rows.all rW=true)(e:x≠o)(f:(a.zip ρ1).all zO=true)(q:Q .next (((ρ1.map o4).set o .aC).set x .aC)):(lg a x o .next ρ1).sat Q:=by unfold lg;rw[h1];show(if _ then _ else _:Res Fl).sat Q;rw[if_pos ⟨c,e,f⟩];exact q
theorem GC{d:D}(h:gf 9 d=true):o4 (.val b d)=.val b d:=by show(if gf 9 d=true then Sl.val b d else Sl.aC)=_;rw[if_pos h]
theorem HX(h:ds.all (gf 9)=true):o4 (.own b ds)=.own b ds:=by show(if ds.all (gf 9)=true then Sl.own b ds else Sl.aC)=_;rw[if_pos h]
inductive JPl(y:Int)(r0:List Sl)(ρ:List Sl):Prop where|mk(x z:Int)(s:Sl)(q0:ρ=Sl.own true [.int x,.int y,.int z]::(r0++[s]))(q1:fr s=true)
inductive JNl(r0:List Sl)(ρ:List Sl):Prop where|mk(s:Sl)(q0:ρ=r0++[s])(q1:fr s=true)
def nc3(T:Int):D->D|.tup [_,_,r,_]=>.tup (replicate (T+1).toNat r)|d=>d
theorem Bt(k:∀s,Q (.val (.bl true)) [s]):(run Γ w (n+11) 21 [.own false [.int x,.int y,.int z]]).sat Q:=by
 refine aP (d:=QV) rfl rfl (by decide) ?_;show(fj (run Γ w (n+10)) w LQ _).sat _;unfold LQ;symm;rw[Hl rfl rfl rfl rfl,aY];refine uM λm T x z a rs xs d1 d2 d3 s8 c h1 u A=>?_;have q:=xr c;have B:gf 9 (dh m T a rs xs)=true:=wX (by decide) (Hu q);refine vM (rows:=[d1,d2,d3]) rfl (by show(rW d1&&(rW d2&&(rW d3&&true)))=true;rw[h1.emp,u.emp,A.emp];rfl) (by decide) rfl ?_;have C:(a.map gC.d).all (gf 9)=true:=all_eq_true.mpr λd hd=>by obtain⟨v,_,rfl⟩:=mem_map.mp hd;rfl
 simp only[map_cons,map_nil,GC B,HX C];generalize o4 (Sl.own false (map qz rs))=s4;generalize o4 (Sl.own false (map uW xs))=s5;generalize o4 s8=s6;clear h1 u A B C;have t0:=c.t0;have t1:=c.t1;have m0:=c.m0;have m1:=c.m1;have f:=c.vl;have g:a.length<=lim:=by show _<=16777216;omega
 show sQ (run Γ w (n+10)) w _ _ Fl.next [.own true [.int x,.int y,.int z],.val false (.int m),.val false (.int T),.own false (a.map gC.d),s4,s5,.val false (dh m T a rs xs),.aC,s6,.val false (dh m T a rs xs),.val false (dh m T a rs xs),.aC,.aC,.aC];symm;simp;refine iT 3 q ?_;simp;refine iT 3 q ?_;simp;apply ak;simp[g];refine dN (JPl y [.val false (.int m),.val false (.int T),.lent (a.map gC.d),s4,s5,.val false (dh m T a rs xs),.aC,s6,.val false (dh m T a rs xs),.val false (dh m T a rs xs),.aC,.aC,.aC]) gC.d (λv d=>∃r:Int,d=Wy.d ⟨v.s,v.t,r,v.h⟩) ⟨x,z,.aC,rfl,rfl⟩ ?_ ?_;.rintro v _ _⟨x,z,s,rfl,hs⟩;simp[hs,gC.d];refine kE (by decide) λe x z G H=>?_;simp;exact⟨⟨e,rfl⟩,x,z,_,rfl,rfl⟩
 rintro ds _⟨x,z,s,rfl,hs⟩E;obtain⟨i,rfl,j⟩:=CP E;have l:i.length<=12:=by rw[j]at f;simpa using f
 have p:i.length<=lim:=by show _<=16777216;omega
 simp[p];apply ak;simp[p];refine aV (JNl [.own true [.int x,.int y,.int z],.val false (.int m),.val false (.int T),.own false (a.map gC.d),s4,s5,.val false (dh m T a rs xs),.aC,s6,.val false (dh m T a rs xs),.val false (dh m T a rs xs),.aC,.val false (.tup [.int m,.tup (i.map Wy.d)]),.aC]) (Fy T) ⟨.aC,rfl,rfl⟩ ?_ ?_;.rintro d hd _⟨s,rfl,hs⟩;obtain⟨v,_,rfl⟩:=mem_map.mp hd;simp[hs,Ml];exact⟨⟨by omega,by omega⟩,rfl,_,rfl,rfl⟩
 rintro _⟨s,rfl,hs⟩;simp;have F:sH (dh m T a rs xs) (.int 2)=some (.val (.tup ((a.map gU).map jH))):=rfl;symm;simp;refine rm t0 t1 l m0 m1 ?_;simp[F];refine⟨⟨by omega,by omega⟩,?_⟩;have he:D.tup [.int m,.int T,.tup (a.map (jH ∘ gU)),.tup (i.map (Fy T ∘ Wy.d)),.tup (replicate m.toNat .non)]=M4 T m i:=by rw[j];unfold M4;simp
 rw[he];refine iT 3 (K7 t1 m1 l) ?_;exact k _
inductive J57(v:Sl)(r:List D)(ρ:List Sl):Prop where|mk(s1:Sl)(q0:ρ=[v,s1])(q1:fr s1=true)(q2:∀d∈r,∃i,d=D.int i)
theorem Ar(ns:List Int)(j:ns.length<=63):∃as,run Γ 100000000 40 22 [.val false (.lst (ns.map D.int))]=.ok (.val (.bl true)) as:=by
 suffices h:∀w,(run Γ w 40 22 [.val false (.lst (ns.map D.int))]).sat λr _=>r=.val (.bl true)by obtain⟨a,ρ,e,rfl⟩:=sat_iff.mp (h 100000000);exact⟨ρ,e⟩
 intro w;refine aP (d:=PX) rfl rfl (by decide) ?_;symm;have f:cut (ns.map D.int) none (some 63)=ns.map D.int:=by unfold cut cH;simp;exact List.take_of_length_le (by simp;omega)
 have g:1+ns.length<=lim:=by show _<=16777216;omega
 simp[PX,Dl,part,HY,f,g];refine gM (J57 (.val false (.lst (ns.map D.int)))) ?_ ?_ ?_;.rintro d r _⟨s1,rfl,h1,hd⟩;obtain⟨x,rfl⟩:=hd d (by simp);simp[h1];apply ak;simp;refine wY λa b c=>?_;simp;refine Bt λs=>?_;simp;exact⟨_,rfl,rfl,λd h=>hd d (mem_cons_of_mem _ h)⟩
 .rintro _⟨s1,rfl,h1,hd⟩;symm;simp
 . refine⟨.aC,rfl,rfl,λd hd=>?_⟩;simp at hd;rcases hd with rfl|⟨i,_,rfl⟩;.exact⟨_,rfl⟩
   .exact⟨_,rfl⟩
end T
end
structure PySem.W.Fast:Prop where(tw5592299559429217308 tw2528823056718344169 tw15218982387944994051 tw11179269291542157933 tw8995231516309045177 tw7332338919736157635 tw15021543312062408438 tw6578116581127187496 tw4855235440889427195 tw29613046031639085 tw15608495010980666284 tw4524965125161059459 tw13443556637693274410 tw6635760152551333117 tw12033072465746281733 tw18154750178450441997 tw8982921165382697094 tw18057817424372233990 tw18216284647157547569 tw13478157695426078400 tw10090944247507009848 tw10719307934943579462 tw6776268742179613077 tw10925163597912482593 tw10355571576817383141 tw10545412525164296203 tw15127911264957934077 tw14708886578671198898 tw194617753518744235 tw5423983742576356650 tw9642228612879946188 tw12937041184753962142 tw1118710968730796944 tw16220421395521670467 tw2667647492083571977 tw3825994039642019472 tw3046093458194571879 tw1300450201491400122 tw12091667923182082350 tw13133482093503666325 tw1856895154305591503 tw3319181720217806683 tw5450724084524222794 tw741749955542674166 tw4028008206010427850 tw15080226813582855244 tw2871274258180487157 tw3198981525944572044 tw14974653163933622880 tw11716338065498644246 tw10218318102515814316 tw7030860691122369597 tw5674642765415586106 tw2991723387319019588 tw9824202950056508044 tw5100090770818695149 tw13624884942832083403 tw16513472032993441710 tw11670502280229792198 tw9910569617674268465 tw11118625572906534973 tw10801774348990727705 tw17969019114956159425 tw11011361664470118255 tw2658945198206238480 tw17457277780268066838 tw7329571457811438750 tw5476327528088760295 tw12041545183257674692 tw13665861346805028979 tw14626032124409603709 tw1948230616501130910 tw15614182720805013884 tw15824847128907829611 tw8152243674522945674 tw9294899133248098921 tw6559223331628634505 tw7972233980789681874 tw8325051030903396633 tw12570944721665559008 tw6506518565050887103 tw14801408522587524035 tw14236732276090907880 tw13538023795226090591 tw8324587038396515702 tw11323811266009804496 tw3659081036468181639 tw9070909204243694393 tw6055818372811018333 tw17637073554437780588 tw6859169399925621851 tw3367099036136283905 tw2679729755682604093 tw7345768403070168421 tw6181544235262345270 tw14677473873772112642 tw13360229456630626751 tw16677648812270061975 tw10071906313791414392 tw4062591726962309102 tw3381933624998351816 tw7576885472675786296 tw13426387489800293341 tw12655795356680673909 tw9480845932187785761 tw7426642222316796826 tw17705918143471257079 tw10126218314143201838 tw9895856878898516901 tw13968241747320569067 tw7194731760020882277 tw8122854410164100102 tw3650798230374885816 tw11827809957859143412 tw9664091396320081051 tw14330140882015567833 tw17390275860719085207 tw14779998659400708792 tw5882126462942211718 tw1808345984368643508 tw17011931954767710715 tw11478117884678596370 tw79284908645359567 tw5112586582335269859 tw14634681323713173788 tw3750118485343656109 tw47261109567709788 tw7499010710832907660 tw17921614848528006655 tw15091136427074180806 tw3411967222990660870 tw8191054567707005488 tw5926619248941095638 tw2923365294503448345 tw6484915257818682695 tw3002358571604506952 tw16128308318064157039 tw16826178753492431614 tw4185894701295695026 tw11540469118533966645 tw2816019782266669122 tw17748377737884328000 tw3559086963208438582 tw11537640345137137022 tw16818761062230730226 tw9261341867427986776 tw3138579923859234879 tw4636764203430100385 tw11624360419039326475 tw4278021727170078381 tw5975234088976297633 tw10443562696603236016 tw5592771385591565885 tw2424764912324207492 tw12408981990460107395 tw4500583314286924229 tw11257408256075141963 tw2091652532229570493 tw14623944013576954416 tw4450767327607756077 tw1999340080634151697 tw2435994075030468621 tw10371411662245321066 tw916182321279384133 tw2328010538332095264 tw4255742266324881448 tw10941249828148912192 tw13080334838534333597 tw3778234285680792383 tw13573884455426245608 tw13800277943497308545:True)
namespace T
open PySem L2 PySem.Spec PyProof.Rows HH
theorem Lb{P:List Value → Prop}{n:Nat}(h:∀(a:Value)(b:List Value),b.length=n → P (a::b))(b:List Value)(c:b.length=n+1):P b:=by cases b with|nil=>cases c|cons a b=>exact h a b (Nat.succ.inj c)
theorem lk0{P:List Value → Prop}(h:P [])(b:List Value)(c:b.length=0):P b:=by cases b with|nil=>exact h|cons a b=>cases c
theorem qC{P:List Value → Prop}(h:∀a,P [a]):∀b:List Value,b.length=1 → P b:=Lb λa=>lk0 (h a)
theorem mz{P:List Value → Prop}(h:∀a b,P [a,b]):∀c:List Value,c.length=2 → P c:=Lb λa=>qC (h a)
theorem Bo{P:List Value → Prop}(h:∀a b c,P [a,b,c]):∀e:List Value,e.length=3 → P e:=Lb λa=>mz (h a)
theorem lk4{P:List Value → Prop}(h:∀a b c d,P [a,b,c,d]):∀e:List Value,e.length=4 → P e:=Lb λa=>Bo (h a)
theorem VL{P:List Value → Prop}(h:∀a b c d e,P [a,b,c,d,e]):∀f:List Value,f.length=5 → P f:=Lb λa=>lk4 (h a)
local macro_rules|`(term|‹$p›)=>`(λ_ _ _ _ _ _=>$p)
structure Txt(K:PySem.W.Frag):Prop where
 D0:bN K "is_whole" s0
 D1:bN K "whole_within" s1
 D2:bN K "is_row" s2
 D3:bN K "is_way" s3
 D4:bN K "is_hour_way" s4
 D5:bN K "are_hour_ways" s5
 D6:bN K "are_rooms" s6
 D7:bN K "are_all_rooms" s7
 D8:bN K "are_all_waits" s8
 D9:bN K "rows_kept" s9
 D10:bN K "made_calendar" Kf
 D11:bN K "net_calendar" Px
 D12:bN K "_law_pool" s12
 D13:bN K "_law_next" Tq
 D14:bN K "_law_wide" Td
 D15:bN K "_law_roads" Ss
 D16:bN K "_law_rows" QJ
 D17:bN K "_law_as" Tf
 D18:bN K "_law_same" RK
 D19:bN K "_law_flat" Sh
 D20:bN K "_law_emptied" T4
 D21:bN K "_law_one" Tp
 D22:bN K "law" Q0
 yI:PySem.W.nsIn K mainGlobals "abs"=some none
 eO:PySem.W.nsIn K mainGlobals "all"=some none
 jF:PySem.W.nsIn K mainGlobals "bool"=some none
 jo:PySem.W.nsIn K mainGlobals "int"=some none
 aF:PySem.W.nsIn K mainGlobals "isinstance"=some none
 bK:PySem.W.nsIn K mainGlobals "len"=some none
 dG:PySem.W.nsIn K mainGlobals "list"=some none
 yJ:PySem.W.nsIn K mainGlobals "max"=some none
 fJ:PySem.W.nsIn K mainGlobals "range"=some none
 aN:PySem.W.nsIn K mainGlobals "tuple"=some none
 yK:PySem.W.nsIn K mainGlobals "zip"=some none
 eU:∃t,PySem.W.nsIn K mainGlobals "LEAST_PLACES"=some (some (Value.int 2 t))gB:∃t,PySem.W.nsIn K mainGlobals "MOST_HOURS"=some (some (Value.int 1000000 t))ie:∃t,PySem.W.nsIn K mainGlobals "MOST_LAST"=some (some (Value.int 12 t))fP:∃t,PySem.W.nsIn K mainGlobals "MOST_PLACES"=some (some (Value.int 6 t))cP:∃t,PySem.W.nsIn K mainGlobals "MOST_ROOM"=some (some (Value.int 1000000000 t))gY:∃t,PySem.W.nsIn K mainGlobals "MOST_WAYS"=some (some (Value.int 12 t))NL:G8 K
noncomputable def jM{K:PySem.W.Frag}(T:Txt K):Nat->Addr:=λk=>0
structure Oks(Pg:Program)(w:World)(K:PySem.W.Frag)(mg:Str->Option Value)(base:Heap)(cl:Nat->Addr)(n:Nat):Prop where
 c0:bC Pg w K mg base n (run Γ 100000000 n) 0 "is_whole" 1
 c1:bC Pg w K mg base n (run Γ 100000000 n) 1 "whole_within" 3
 c2:bC Pg w K mg base n (run Γ 100000000 n) 2 "is_row" 1
 c3:bC Pg w K mg base n (run Γ 100000000 n) 3 "is_way" 2
 c4:bC Pg w K mg base n (run Γ 100000000 n) 4 "is_hour_way" 2
 c5:bC Pg w K mg base n (run Γ 100000000 n) 5 "are_hour_ways" 2
 c6:bC Pg w K mg base n (run Γ 100000000 n) 6 "are_rooms" 2
 c7:bC Pg w K mg base n (run Γ 100000000 n) 7 "are_all_rooms" 3
 c8:bC Pg w K mg base n (run Γ 100000000 n) 8 "are_all_waits" 3
 c9:bC Pg w K mg base n (run Γ 100000000 n) 9 "rows_kept" 1
 U4:bC Pg w K mg base n (run Γ 100000000 n) 10 "made_calendar" 5
 U5:bC Pg w K mg base n (run Γ 100000000 n) 11 "net_calendar" 2
 c12:bC Pg w K mg base n (run Γ 100000000 n) 12 "_law_pool" 1
 Im:bC Pg w K mg base n (run Γ 100000000 n) 13 "_law_next" 2
 N7:bC Pg w K mg base n (run Γ 100000000 n) 14 "_law_wide" 2
 U6:bC Pg w K mg base n (run Γ 100000000 n) 15 "_law_roads" 2
 c16:bC Pg w K mg base n (run Γ 100000000 n) 16 "_law_rows" 3
 U7:bC Pg w K mg base n (run Γ 100000000 n) 17 "_law_as" 2
 Qx:bC Pg w K mg base n (run Γ 100000000 n) 18 "_law_same" 2
 U8:bC Pg w K mg base n (run Γ 100000000 n) 19 "_law_flat" 1
 U9:pg Pg w K mg base n (run Γ 100000000 n) 20 "_law_emptied"c21:bC Pg w K mg base n (run Γ 100000000 n) 21 "_law_one" 1
 Wo:bC Pg w K mg base n (run Γ 100000000 n) 22 "law" 1
set_option maxHeartbeats 0 in
theorem wu{Pg:Program}{w:World}{K:PySem.W.Frag}{mg:Str->Option Value}{base:Heap}(T:Txt K)(X:K.In base)(G:base.Ns mainGlobals mg):∀n,Oks Pg w K mg base (jM T) n
 |0=>{
   c0:=cF (ps:=["thing"]) X G T.D0 rfl ‹qC λ_=>rfl›
   c1:=cF (ps:=["thing","least","most"]) X G T.D1 rfl ‹Bo λ_ _ _=>rfl›
   c2:=cF (ps:=["thing"]) X G T.D2 rfl ‹qC λ_=>rfl›
   c3:=cF (ps:=["many","thing"]) X G T.D3 rfl ‹mz λ_ _=>rfl›
   c4:=cF (ps:=["many","thing"]) X G T.D4 rfl ‹mz λ_ _=>rfl›
   c5:=cF (ps:=["many","thing"]) X G T.D5 rfl ‹mz λ_ _=>rfl›
   c6:=cF (ps:=["count","thing"]) X G T.D6 rfl ‹mz λ_ _=>rfl›
   c7:=cF (ps:=["ways","last","thing"]) X G T.D7 rfl ‹Bo λ_ _ _=>rfl›
   c8:=cF (ps:=["many","last","thing"]) X G T.D8 rfl ‹Bo λ_ _ _=>rfl›
   c9:=cF (ps:=["rows"]) X G T.D9 rfl ‹qC λ_=>rfl›
   U4:=cF (ps:=["many","last","ways","rooms","waits"]) X G T.D10 rfl ‹VL λ_ _ _ _ _=>rfl›
   U5:=cF (ps:=["net","last"]) X G T.D11 rfl ‹mz λ_ _=>rfl›
   c12:=cF (ps:=["cell"]) X G T.D12 rfl ‹qC λ_=>rfl›
   Im:=cF (ps:=["pool","base"]) X G T.D13 rfl ‹mz λ_ _=>rfl›
   N7:=cF (ps:=["pool","base"]) X G T.D14 rfl ‹mz λ_ _=>rfl›
   U6:=cF (ps:=["pool","many"]) X G T.D15 rfl ‹mz λ_ _=>rfl›
   c16:=cF (ps:=["pool","many","length"]) X G T.D16 rfl ‹Bo λ_ _ _=>rfl›
   U7:=cF (ps:=["pool","row"]) X G T.D17 rfl ‹mz λ_ _=>rfl›
   Qx:=cF (ps:=["found","due"]) X G T.D18 rfl ‹mz λ_ _=>rfl›
   U8:=cF (ps:=["row"]) X G T.D19 rfl ‹qC λ_=>rfl›
   U9:=Gq
   c21:=cF (ps:=["pool"]) X G T.D21 rfl ‹qC λ_=>rfl›
   Wo:=cF (ps:=["script"]) X G T.D22 rfl ‹qC λ_=>rfl›}|n+1=>have a:=wu (Pg:=Pg) (w:=w) (base:=base) T X G n
   {c0:=cI (ps:=["thing"]) X G T.D0 rfl rfl ‹qC λ_=>rfl› λ_ _ F=>d0 (cl:=jM T) F (mg_none_of X G T.jF) (mg_none_of X G T.jo) (mg_none_of X G T.aF)
    c1:=cI (ps:=["thing","least","most"]) X G T.D1 rfl rfl ‹Bo λ_ _ _=>rfl› λ_ _ F=>d1 (cl:=jM T) F a.c0
    c2:=cI (ps:=["thing"]) X G T.D2 rfl rfl ‹qC λ_=>rfl› λ_ _ F=>d2 (cl:=jM T) F (mg_none_of X G T.aF) (mg_none_of X G T.dG) (mg_none_of X G T.aN)
    c3:=cI (ps:=["many","thing"]) X G T.D3 rfl rfl ‹mz λ_ _=>rfl› λ_ _ F=>d3 (cl:=jM T) F (mg_none_of X G T.bK) (T.gB.elim λt e=>⟨t,mg_of X G e⟩) (T.cP.elim λt e=>⟨t,mg_of X G e⟩) a.c2 a.c1
    c4:=cI (ps:=["many","thing"]) X G T.D4 rfl rfl ‹mz λ_ _=>rfl› λ_ _ F=>d4 (cl:=jM T) F (mg_none_of X G T.bK) a.c2 a.c3
    c5:=cI (ps:=["many","thing"]) X G T.D5 rfl rfl ‹mz λ_ _=>rfl› λ_ _ F=>d5 (cl:=jM T) F (mg_none_of X G T.eO) (mg_none_of X G T.bK) (T.gY.elim λt e=>⟨t,mg_of X G e⟩) a.c4 a.c2
    c6:=cI (ps:=["count","thing"]) X G T.D6 rfl rfl ‹mz λ_ _=>rfl› λ_ _ F=>d6 (cl:=jM T) F (mg_none_of X G T.eO) (mg_none_of X G T.bK) (T.cP.elim λt e=>⟨t,mg_of X G e⟩) a.c2 a.c1
    c7:=cI (ps:=["ways","last","thing"]) X G T.D7 rfl rfl ‹Bo λ_ _ _=>rfl› λ_ _ F=>d7 (cl:=jM T) F (mg_none_of X G T.eO) (mg_none_of X G T.bK) a.c6 a.c2
    c8:=cI (ps:=["many","last","thing"]) X G T.D8 rfl rfl ‹Bo λ_ _ _=>rfl› λ_ _ F=>d8 (cl:=jM T) F (mg_none_of X G T.eO) (mg_none_of X G T.bK) a.c6 a.c2
    c9:=cI (ps:=["rows"]) X G T.D9 rfl rfl ‹qC λ_=>rfl› λ_ _ F=>d9 (cl:=jM T) F (mg_none_of X G T.aN)
    U4:=cI (ps:=["many","last","ways","rooms","waits"]) X G T.D10 rfl rfl ‹VL λ_ _ _ _ _=>rfl› λ_ _ F=>d10 (cl:=jM T) F (T.eU.elim λt e=>⟨t,mg_of X G e⟩) (T.ie.elim λt e=>⟨t,mg_of X G e⟩) (T.fP.elim λt e=>⟨t,mg_of X G e⟩) a.c7 a.c8 a.c5 a.c9 a.c1
    U5:=cI (ps:=["net","last"]) X G T.D11 rfl rfl ‹mz λ_ _=>rfl› λ_ _ F=>d11 (cl:=jM T) F (mg_none_of X G T.aN)
    c12:=cI (ps:=["cell"]) X G T.D12 rfl rfl ‹qC λ_=>rfl› λ_ _ F=>d12 (cl:=jM T) F (mg_none_of X G T.yI) (mg_none_of X G T.yJ)
    Im:=cI (ps:=["pool","base"]) X G T.D13 rfl rfl ‹mz λ_ _=>rfl› λ_ _ F=>d13 (cl:=jM T) F
    N7:=cI (ps:=["pool","base"]) X G T.D14 rfl rfl ‹mz λ_ _=>rfl› λ_ _ F=>d14 (cl:=jM T) F a.Im
    U6:=cI (ps:=["pool","many"]) X G T.D15 rfl rfl ‹mz λ_ _=>rfl› λ_ _ F=>d15 (cl:=jM T) F (mg_none_of X G T.bK) (mg_none_of X G T.fJ) a.Im a.N7
    c16:=cI (ps:=["pool","many","length"]) X G T.D16 rfl rfl ‹Bo λ_ _ _=>rfl› λ_ _ F=>d16 (cl:=jM T) F (mg_none_of X G T.fJ) a.Im a.N7
    U7:=cI (ps:=["pool","row"]) X G T.D17 rfl rfl ‹mz λ_ _=>rfl› λ_ _ F=>d17 (cl:=jM T) F (mg_none_of X G T.dG) (mg_none_of X G T.aN) a.Im
    Qx:=cI (ps:=["found","due"]) X G T.D18 rfl rfl ‹mz λ_ _=>rfl› λ_ _ F=>d18 (cl:=jM T) F (mg_none_of X G T.eO) (mg_none_of X G T.jF) (mg_none_of X G T.jo) (mg_none_of X G T.aF) (mg_none_of X G T.bK) (mg_none_of X G T.aN) (mg_none_of X G T.yK) a.Qx
    U8:=cI (ps:=["row"]) X G T.D19 rfl rfl ‹qC λ_=>rfl› λ_ _ F=>d19 (cl:=jM T) F (mg_none_of X G T.aN)
    U9:=Ei (ps:=["row"]) X G T.D20 rfl ‹qC λ_=>rfl› λ_ _ F=>d20 (cl:=jM T) F (mg_none_of X G T.aF) (mg_none_of X G T.dG)
    c21:=cI (ps:=["pool"]) X G T.D21 rfl rfl ‹qC λ_=>rfl› λ_ _ F=>d21 (cl:=jM T) F (mg_none_of X G T.jo) (mg_none_of X G T.bK) (mg_none_of X G T.dG) (mg_none_of X G T.aN) a.U7 a.U8 a.Im a.U6 a.c16 a.Qx a.N7 a.U4 a.U5 a.U9 T.NL
    Wo:=cI (ps:=["script"]) X G T.D22 rfl rfl ‹qC λ_=>rfl› λ_ _ F=>Ve (cl:=jM T) F a.c21 a.c12}
theorem Jh{K:PySem.W.Frag}{x:Str}{i:Int}{t:Tok}(a:PySem.W.nsIn K mainGlobals x=some (some (Value.int i t))):∃t,PySem.W.nsIn K mainGlobals x=some (some (Value.int i t)):=⟨t,a⟩
set_option maxHeartbeats 0 in
theorem Ht{Pg:Program}{w:World}{K:PySem.W.Frag}{mg:Str->Option Value}{h:Heap}{g:Addr}(T:Txt K)(X:K.In h)(G:h.Ns mainGlobals mg)(b:mg "law"=some (.ref g)):∃fd:FuncData,(∀(s:Shared)(u:Value),BindsTo s fd ⟨[u],[]⟩ [("script",u)])/\∀base:Heap,K.In base->base.Ns mainGlobals mg->gP Pg w K mg base qD 40 g fd ["script"] (yV K 1 (run Γ 100000000 40 22)):=by
 obtain⟨f,fd,a,F⟩:=T.D22.ex;have e:=b.symm.trans (mg_of X G a);cases e;refine⟨fd,λs u=>?_,λbase j l=>?_⟩;.obtain⟨q,r,kV,m,t,v,cdv,ct,o,rfl,lk,p⟩:=F.ex;exact .of_eq rfl
 .have i:=wu (Pg:=Pg) (w:=w) (base:=base) T j l 39;exact Ve (cl:=jM T) (k:=39) (n:=100000000) (c:=run Γ 100000000 39) F i.c21 i.c12
end T
open PySem PySem.W PyProof.Rows
set_option maxRecDepth 100000 in
set_option maxHeartbeats 0 in
theorem PySem.Challenge.cw_hourhaul_k57_calendars_made_holds : PySem.Challenge.rw_hourhaul_k57_calendars_made.Holds := by
 w_on;o_law;k_head;(case hw=>w_witness2);k_fill;refine L2.wZ (l:=PySem.Challenge.rw_hourhaul_k57_calendars_made) (n:=63) (k:=40) (x:="script") (CX:=L2.qD) (sp:=λK=>HH.yV K 1 (HH.run T.Γ 100000000 40 22)) rfl (by decide) rfl ⟨rfl,by decide,by decide⟩ (λw h Y=>PySem.W.kIn_of Y) ?F ?S ?C;case F=>
  intro w mg j h f G b;refine T.Ht ?T f G b;constructor;iterate 23(· refine' HH.GQ ?a ?l ?c ?k;case a|l|c|k=>k_is)
  iterate 11(· k_is)
  . (refine' T.Jh ?a);(case a=>k_is)
  . (refine' T.Jh ?a);(case a=>k_is)
  . (refine' T.Jh ?a);(case a=>k_is)
  . (refine' T.Jh ?a);(case a=>k_is)
  . (refine' T.Jh ?a);(case a=>k_is)
  . (refine' T.Jh ?a);(case a=>k_is)
  .show map _ _=[];kernel_rfl
 case S=>intro K H a ns g m i;obtain⟨as,e⟩:=T.Ar ns g;exact HH.uQ i e
 case C=>exact λH s e o z=>z
