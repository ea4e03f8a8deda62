import PyProof.Rows.All
import Wide.All
import OpenK.AllK
import Wide.FinOn
import Lean
import PyProof.EqAt
import PyProof.EqKinds
import PyProof.TupleCall
import PySem.Str
import PySem.Builtin.Int.W1All
import PyProof.NeKinds
import PyProof.ZipIter
import PyProof.SumWalkG
import PyProof.MinMaxWalk
import PyProof.WalksMore
import PyProof.SeqI3
import PyProof.WalkInts
import PyProof.Rows.CallKwBuiltin
import PyProof.Rows.Tup
import PyProof.CollectIter
import PyProof.EnumMake
import PyProof.TupleOfSeq
import PyProof.ListNew
import PyProof.ReprLoop
import PyProof.StationsW
import PyProof.ExcClass3
import PyProof.Rows.CatchBare
import OpenK.KOwn
import KE.KIsAll
import PyProof.NsDelKeeps
import PyProof.RulesAs
import PyProof.ExcArgsOwn
import PyProof.ListRange
import KE.RegKIsAll
import KE.KRevIter
import PyProof.Rows.SortRuns
import KE.KSortTup
import PyProof.DictWalks
import KE.KDictList
import KE.KItemsList
import PyProof.DictTruth
import PyProof.AttrMissHeap
import KE.KDictOf
import PyProof.WalksS
import PyProof.DictRoadsH
import PyProof.ExcBaseAll.ValueError
import PySem.Challenge.RW_hourhaul_k63_lit_pairs_added
set_option Elab.async false
set_option linter.all false
set_option maxRecDepth 100000
set_option genSizeOf false
set_option compiler.extract_closed false
set_option bootstrap.genMatcherCode false
open List(replicate getElem?_set_ne size_toArray getElem?_set_self mem_cons map_cons mem_append length_map append_assoc length_cons map_map getElem?_append_left all_eq_true lookup_cons mem_of_getElem? getElem?_map length_append mem_cons_of_mem mem_append_right drop_eq_getElem_cons not_mem_nil append_nil foldl length_take take_of_length_le getD_eq_getElem?_getD pairwise_cons mem_range mem_cons_self nodup_cons foldl_cons getElem_mem filterMap_cons of_mem_zip replicate_succ getElem?_take all_cons mem_append_left map_nil any_cons contains_cons take_append_drop toArray find?_cons length_drop flatten_cons nil_append length_range all_map reverse_cons pairwise_append reverse_append forIn_cons forIn_nil mapM_cons length_nil)
open Nat(le_refl ne_of_lt lt_of_lt_of_le le_trans zero_le lt_irrefl le_of_lt le_succ)
open PySem.W(mg_none_of keepIn methodObj mg_of kitx_dict)
open PySem.Heap(lt_size get?_push_of_some get?_push_size size_push SameBut)
open PySem.Builtin.SmallTypes(nextOf ownedTupleIsFree ownedTupleHandOut)
open Bool(and_eq_true false_eq_true or_eq_true not_eq_true')
open Array(toList_append length_toList getD toList_push toList)
open PySem.Builtin.Tuple(tupleExact tupleItemsOf)
open Option(map_eq_some_iff bind_some getD_none)
open PySem.Builtin.Slice(slicePlaces sliceAdjust sliceApplied)
open PySem.Builtin.List(listTooLong)
open PySem.F(slot_tuple_add entry_tuple_add args_tuple_add_2 slot_tuple_mul)
open PySem.SeqAt.EqAt(int_str str_int)
open PySem.SeqAt.RcAt(lists_lengths)
open Int(add_assoc)
open PySem.SeqAt.RcNeAt(none_int none_str bool_int bool_str int_none int_bool int_int int_list str_none str_bool str_str str_list list_int list_str)
theorem iG{h:PySem.Heap}{o b:PySem.Obj}{a:PySem.Addr}(e:h.get? a=some o):(h.push b).get? a=some o:=PySem.Heap.get?_push_of_some _ e
theorem gW{b:Type}{l:List b}{i:Nat}{a:b}(h:l[i]?=some a):∃h:i<l.length,l[i]=a:=List.getElem?_eq_some_iff.mp h
theorem fL{b:Type}{l:List b}{i j:Nat}{a:b}(h:j≠i):(l.set i a)[j]?=l[j]?:=List.getElem?_set_ne (Ne.symm h)
theorem vZ{n:Nat}:0<=n:=Nat.zero_le n
theorem cH{n:Nat}:n<=n:=Nat.le_refl n
section
namespace L2
open PySem PySem.Spec PyProof.Rows
variable{w:World}{h:Heap}{t' i:Nat}{M:Model}{A:Around}{s:Shared}{pos:Pos}{pins:List (Addr×Obj)}{K:PySem.W.Frag}{tg:Expr}{op:CmpOp}{us:List Value}
noncomputable abbrev Key:=Sum Int Str
noncomputable def qg:Key->Value->Bool|.inl k,v=>Value.isInt k v|.inr x,v=>Value.isStrOf x v
noncomputable def WR(w:World):Key->Int|.inl k=>hashInt k|.inr x=>hashStr w x
theorem bY:∀{k:Key}{v:Value},qg k v=true->(∃i t,k=Sum.inl i/\v=Value.int i t)\/(∃x t,k=Sum.inr x/\v=Value.str x t)|.inl i,v,h=>by obtain⟨t,e⟩:=Value.isInt_shape (k:=i) (v:=v) h;exact .inl ⟨i,t,rfl,e⟩|.inr x,v,h=>by obtain⟨t,e⟩:=Value.isStrOf_shape (x:=x) (v:=v) h;exact .inr ⟨x,t,rfl,e⟩
theorem yt(i:Int)(t:Tok):qg (.inl i) (.int i t)=true:=by simp[qg,Value.isInt]
theorem yN(x:Str)(t:Tok):qg (.inr x) (.str x t)=true:=by simp[qg,Value.isStrOf]
theorem Ls(a b:Int):decide ((Sum.inl a:Key)=Sum.inl b)=(a==b):=by
 by_cases e:a=b;.subst e;simp
 .have h:¬(Sum.inl a:Key)=Sum.inl b:=λq=>e (Sum.inl.inj q);rw[decide_eq_false h];exact(beq_eq_false_iff_ne.mpr e).symm
theorem KQ(a b:Str):decide ((Sum.inr a:Key)=Sum.inr b)=decide (a=b):=by
 by_cases e:a=b;.subst e;simp
 .have h:¬(Sum.inr a:Key)=Sum.inr b:=λq=>e (Sum.inr.inj q);rw[decide_eq_false h,decide_eq_false e]
theorem Mq(a:Int)(b:Str):decide ((Sum.inl a:Key)=Sum.inr b)=false:=decide_eq_false (λq=>nomatch q)
theorem JD(a:Str)(b:Int):decide ((Sum.inr a:Key)=Sum.inl b)=false:=decide_eq_false (λq=>nomatch q)
noncomputable def bZ(prog:Program)(w:World):PySem.KeyKind prog w Key where
 is:=qg;hash:=WR w;inj:=λv a b g f=>by
  rcases bY g with⟨i,t,rfl,rfl⟩|⟨x,t,rfl,rfl⟩
  . rcases bY f with⟨j,u,rfl,e⟩|⟨y,u,rfl,e⟩;.injection e with e1 _;rw[e1]
    .exact nomatch e
  . rcases bY f with⟨j,u,rfl,e⟩|⟨y,u,rfl,e⟩;.exact nomatch e
    .injection e with e1 _;rw[e1]
 byValue:=λk v h=>by rcases bY h with⟨i,t,rfl,rfl⟩|⟨x,t,rfl,rfl⟩<;>rfl
 pyHash:=λc h=>by
  rcases bY c with⟨i,t,rfl,rfl⟩|⟨x,t,rfl,rfl⟩;.exact wpAny_pyHash_int h
  .exact wpAny_pyHash_str h
 eqBool:=λl c h=>by
  rcases bY l with⟨i,t,rfl,rfl⟩|⟨x,t,rfl,rfl⟩
  . rcases bY c with⟨j,u,rfl,rfl⟩|⟨y,u,rfl,rfl⟩;.rw[Ls]at h;exact wpAny_eqBool_int h
    .rw[Mq]at h;exact int_str i t y u _ _ _ _ h
  . rcases bY c with⟨j,u,rfl,rfl⟩|⟨y,u,rfl,rfl⟩;.rw[JD]at h;exact str_int x t j u _ _ _ _ h
    .rw[KQ]at h;exact wpAny_eqBool_str h
 «strs»:=λk x t v h=>by
  rcases bY h with⟨i,u,rfl,e⟩|⟨y,u,rfl,e⟩;.exact nomatch e
  .injection e with e1 _;subst e1;cases v<;>rfl
theorem ug(prog:Program)(w:World)(i:Int)(t:Tok):(bZ prog w).is (.inl i) (.int i t)=true:=yt i t
theorem tQ(prog:Program)(w:World)(x:Str)(t:Tok):(bZ prog w).is (.inr x) (.str x t)=true:=yN x t
inductive V where|non|bl(b:Bool)|int(i:Int)|str(x:Str)|Yx(b:Array UInt8)|flt(b:UInt64)|ref(a:Addr)|ty(n:String)deriving DecidableEq
def RelV:V->Value->Prop|.non,u=>u=Value.none|.bl b,u=>u=Value.bool b|.int i,u=>∃t,u=Value.int i t|.str x,u=>∃t,u=Value.str x t|.Yx b,u=>∃t,u=Value.bytes b t|.flt b,u=>∃t,u=Value.float b t|.ref a,u=>u=Value.ref a|.ty n,u=>u=Value.type n
abbrev Vals:List V->List Value->Prop:=Paired RelV
theorem Vals.length{xs:List V}{us:List Value}(r:Vals xs us):xs.length=us.length:=Paired.length r
theorem Vals.get:∀{xs:List V}{us:List Value}{i:Nat}{x:V},Vals xs us->xs[i]?=some x->∃u,us[i]?=some u/\RelV x u|_,_,_,_,.nil,e=>by simp at e|_,_,0,_,.cons r _,e=>by simp at e;subst e;exact⟨_,rfl,r⟩|_,_,i+1,x,.cons _ t,e=>by obtain⟨u,h1,a⟩:=Vals.get (i:=i) (x:=x) t (by simpa using e);exact⟨u,by simpa using h1,a⟩
theorem Vals.set{x:V}{u:Value}(r:RelV x u):∀{xs:List V}{us:List Value}(i:Nat),Vals xs us->Vals (xs.set i x) (us.set i u)|_,_,_,.nil=>.nil|_,_,0,.cons _ t=>.cons r t|_,_,i+1,.cons q t=>.cons q (Vals.set r i t)
theorem Vals.append:∀{xs ys:List V}{us a:List Value},Vals xs us->Vals ys a->Vals (xs++ys) (us++a)|_,_,_,_,.nil,s=>s|_,_,_,_,.cons r t,s=>.cons r (Vals.append t s)
theorem Vals.take:∀{xs:List V}{us:List Value}(n:Nat),Vals xs us->Vals (xs.take n) (us.take n)|_,_,0,_=>.nil|_,_,_+1,.nil=>.nil|_,_,n+1,.cons r t=>.cons r (Vals.take n t)
theorem Vals.drop:∀{xs:List V}{us:List Value}(n:Nat),Vals xs us->Vals (xs.drop n) (us.drop n)|_,_,0,r=>r|_,_,_+1,.nil=>.nil|_,_,n+1,.cons _ t=>Vals.drop n t
def CV:Option V->Option Value->Prop|some v,some u=>RelV v u|none,none=>True|_,_=>False
def KV{κ:Type}:List (κ×V)->List (κ×Value)->Prop:=Paired λ(p:κ×V)(q:κ×Value)=>p.1=q.1/\RelV p.2 q.2
noncomputable def kV:Key->V|.inl i=>.int i|.inr x=>.str x
inductive HO where|lst(xs:List V)|tup(xs:List V)|dK(kvs:List (Key×V))|dT(kvs:List (List Key×V))|set(S:Int->Bool)(n:Nat)|ins(C dx:Addr)(fs:List (Str×V))|own(x:Addr)|xd(fs:List (Str×V))|met(f x:Addr)|mV(lo hi:Int)|eG(o:Obj)(u:HO)|M6(ps:Array Value)|ext(φ:Heap->Prop)
noncomputable abbrev Hp:=Addr->Option HO
variable{H:Hp}
noncomputable def upd(H:Hp)(a:Addr)(o:HO):Hp:=λb=>if b=a then some o else H b
theorem aR{a:Addr}{o:HO}:upd H a o a=some o:=by unfold upd;rw[if_pos rfl]
theorem aC{a b:Addr}{o:HO}(h:b≠a):upd H a o b=H b:=by unfold upd;rw[if_neg h]
theorem QV{a b:Addr}{o u:HO}(h:H a=some o)(h':H b=some u)(d:o≠u):a≠b:=by intro e;subst e;rw[h]at h';exact d (Option.some.inj h')
theorem fG{a b:Addr}{o:HO}(h:H a=some o)(h':H b=none):a≠b:=by intro e;subst e;rw[h]at h';cases h'
def Rd(H:Hp)(a:Addr)(u:HO):Prop:=H a=some u\/∃o,H a=some (.eG o u)
theorem Rd.map{c:Hp}{a:Addr}{u:HO}(r:Rd H a u)(k:∀o,(o=u\/∃b,o=.eG b u)->H a=some o->c a=some o):Rd c a u:=by
 rcases r with r|⟨o,r⟩;.exact .inl (k _ (.inl rfl) r)
 .exact .inr ⟨o,k _ (.inr ⟨o,rfl⟩) r⟩
section
variable(P:Program)(w:World)
def bT(H:Hp)(h:Heap)(a:Addr):HO->Prop|.lst xs=>xs.length<=sizeLine/\∃(b:List Value)(n:Nat),Vals xs b/\h.get? a=some {cls:=.type "list",data:=.seq b.toArray n}|.tup xs=>xs.length<=sizeLine/\∃b:List Value,Vals xs b/\IsTup h a b.toArray|.dK c=>c.length<=sizeLine/\(a==sysModules)=false/\∃vs,KV c vs/\h.DictOf (bZ P w) a vs|.dT c=>c.length<=sizeLine/\(a==sysModules)=false/\∃xs:List (List Key×Addr×Value),Paired (λ(p:List Key×V)(q:List Key×Addr×Value)=>p.1=q.1/\Rd H q.2.1 (.tup (p.1.map kV))/\RelV p.2 q.2.2) c xs/\∃o k m,h.get? a=some o/\o.ExactDict/\o.data=.dict k m/\k.toList=xs.map (entryOfKey (tupleKind (bZ P w)))/\(xs.map (·.1)).Nodup|.set S n=>h.SetOf (intKind P w) a S n|.ins C g fs=>H g=some (.own a)/\fs.length<=1000/\g≠a/\h.get? a=some (PySem.W.instObj C g)/\∃e,h.Ns1 g e/\(∀f,CV (fs.lookup f) (e f))/\PySem.Within e (fs.map (·.1))|.own _=>∃o,h.get? a=some o|.xd fs=>∃e,h.Ns1 a e/\∀f,CV (fs.lookup f) (e f)|.mV lo hi=>∃t u v,h.get? a=some {cls:=.type "range",data:=.fields #[.int lo t,.int hi u,.int 1 v]}|.eG o u=>h.get? a=some o/\bT H h a u|.M6 ps=>h.get? a=some {cls:=.none,data:=.fields ps}|.met f x=>h.get? a=some (methodObj (.ref f) (.ref x))|.ext j=>j h/\(∃o,h.get? a=some o)/\∀h1 l:Heap,j h1->(∀o,h1.get? a=some o->l.get? a=some o)->j l
def j6(H:Hp)(h:Heap):Prop:=∀a o,H a=some o->bT P w H h a o
end
section
variable{P:Program}{w:World}{H H':Hp}{h h':Heap}{a:Addr}{o:HO}
theorem bT.lt(x:bT P w H h a o):a<h.objs.size:=by cases o with|lst xs=>obtain⟨_,_,_,_,e⟩:=x;exact lt_size e|tup xs=>obtain⟨_,_,_,p⟩:=x;exact p.lt|dK b=>obtain⟨_,_,_,_,o,_,_,e,_⟩:=x;exact lt_size e|dT b=>obtain⟨_,_,_,_,o,_,_,e,_⟩:=x;exact lt_size e|set S n=>obtain⟨o,_,_,_,e,_⟩:=x;exact lt_size e|ins C c fs=>obtain⟨_,_,_,e,_⟩:=x;exact lt_size e|own y=>obtain⟨_,e⟩:=x;exact lt_size e|xd fs=>obtain⟨_,⟨_,_,_,e,_⟩,_⟩:=x;exact lt_size e|mV lo hi=>obtain⟨_,_,_,e⟩:=x;exact lt_size e|eG g u=>obtain⟨e,_⟩:=x;exact lt_size e|M6 ps=>exact lt_size (show h.get? a=some _ from x)|met f y=>exact lt_size (show h.get? a=some _ from x)|ext j=>obtain⟨_,⟨_,e⟩,_⟩:=x;exact lt_size e
theorem Paired.Mm{g j:Type}{F G:g->j->Prop}:∀{c:List g}{e:List j},Paired F c e->(∀a b,F a b->G a b)->Paired G c e|_,_,.nil,_=>.nil|_,_,.cons r t,f=>.cons (f _ _ r) (Paired.Mm t f)
theorem bT.stay(x:bT P w H h a o)(k:∀b u,(b=a\/H b=some (.own a))->h.get? b=some u->h'.get? b=some u)(ho:∀b,H b=some (.own a)->H' b=some (.own a))(G:∀b xs,Rd H b (.tup xs)->Rd H' b (.tup xs)):bT P w H' h' a o:=by induction o with|lst xs=>obtain⟨z,m,n,r,e⟩:=x;exact⟨z,m,n,r,k _ _ (.inl rfl) e⟩|tup xs=>obtain⟨z,m,r,g,e,c⟩:=x;exact⟨z,m,r,g,k _ _ (.inl rfl) e,c⟩|dK B=>obtain⟨z,y,vs,r,g,j,l,e,c⟩:=x;exact⟨z,y,vs,r,g,j,l,k _ _ (.inl rfl) e,c⟩|dT B=>obtain⟨z,y,xs,r,g,j,l,e,c⟩:=x;exact⟨z,y,xs,Paired.Mm r λp q z=>⟨z.1,G _ _ z.2.1,z.2.2⟩,g,j,l,k _ _ (.inl rfl) e,c⟩|set S n=>obtain⟨g,j,l,t,e,c⟩:=x;exact⟨g,j,l,t,k _ _ (.inl rfl) e,c⟩|ins C L fs=>obtain⟨d,z,ne,e,E,⟨F,j,l,I,c⟩,r⟩:=x;exact⟨ho _ d,z,ne,k _ _ (.inl rfl) e,E,⟨F,j,l,k _ _ (.inr d) I,c⟩,r⟩|own y=>obtain⟨g,e⟩:=x;exact⟨g,k _ _ (.inl rfl) e⟩|xd fs=>obtain⟨E,⟨F,j,l,e,c⟩,r⟩:=x;exact⟨E,⟨F,j,l,k _ _ (.inl rfl) e,c⟩,r⟩|mV lo hi=>obtain⟨t,u,v,e⟩:=x;exact⟨t,u,v,k _ _ (.inl rfl) e⟩|eG g u J=>obtain⟨e,q⟩:=x;exact⟨k _ _ (.inl rfl) e,J q⟩|M6 ps=>have e:h.get? a=some {cls:=.none,data:=.fields ps}:=x;show h'.get? a=some {cls:=.none,data:=.fields ps};exact k a _ (.inl rfl) e|met f y=>have e:h.get? a=some (methodObj (.ref f) (.ref y)):=x;show h'.get? a=some (methodObj (.ref f) (.ref y));exact k a _ (.inl rfl) e|ext N=>obtain⟨p,⟨o,e⟩,st⟩:=x;exact⟨st _ _ p λo q=>k _ _ (.inl rfl) q,⟨o,k _ _ (.inl rfl) e⟩,st⟩
theorem j6.lt(x:j6 P w H h)(e:H a=some o):a<h.objs.size:=(x a o e).lt
theorem j6.fresh(x:j6 P w H h)(e:h.objs.size<=a):H a=none:=by cases q:H a with|none=>rfl|some u=>exact absurd (lt_of_lt_of_le (x.lt q) e) (lt_irrefl _)
theorem j6.kept(x:j6 P w H h)(k:∀b u,h.get? b=some u->h'.get? b=some u):j6 P w H h':=λa o e=>(x a o e).stay (λb u _ q=>k b u q) (λ_ q=>q) λ_ _ q=>q
theorem j6.laid(x:j6 P w H h)(k:∀b u,h.get? b=some u->h'.get? b=some u)(j:h.objs.size<=a)(new:bT P w (upd H a o) h' a o):j6 P w (upd H a o) h':=λb u e=>by
 have f:=x.fresh j;by_cases g:b=a;.subst g;rw[aR]at e;cases e;exact new
 .rw[aC g]at e;exact(x b u e).stay (λc v _ q=>k c v q) (λc q=>by rw[aC (fG q f)];exact q) λc xs q=>q.map λ_ _ q=>by rw[aC (fG q f)];exact q
end
theorem Rd.ok{P:Program}{a:Addr}{u:HO}(r:Rd H a u)(x:j6 P w H h):bT P w H h a u:=by
 rcases r with r|⟨o,r⟩;.exact x a u r
 .obtain⟨_,q⟩:=x a _ r;exact q
def Ra:Option HO->Prop|some (.lst _)=>True|some (.dK _)=>True|some (.dT _)=>True|some (.set _ _)=>True|some (.ins _ _ _)=>True|some (.ext _)=>True|_=>False
section
variable{P:Program}{w:World}{H:Hp}{h h':Heap}{x e:Addr}{o':HO}
theorem j6.write(ok:j6 P w H h)(f:Ra (H x))(he:e=x\/H e=some (.own x))(k:∀b u,b≠e->h.get? b=some u->h'.get? b=some u)(j:∃u,h'.get? e=some u)(new:bT P w (upd H x o') h' x o'):j6 P w (upd H x o') h':=λb u q=>by
 have l:∀c y,H c=some (.own y)->c≠x:=λc y r z=>by subst z;rw[r]at f;exact f
 have n:∀c xs o,(o=.tup xs\/∃b,o=.eG b (.tup xs))->H c=some o->c≠x:=λc xs o ho r z=>by subst z;rw[r]at f;rcases ho with rfl|⟨_,rfl⟩<;>exact f
 by_cases g:b=x;.subst g;rw[aR]at q;cases q;exact new
 . rw[aC g]at q;by_cases a:b=e
   . have m:H b=some (.own x):=by
      rcases he with z|z;.exact absurd (a.trans z) g
      .rw[a];exact z
     rw[q]at m;cases m;obtain⟨v,p⟩:=j;exact⟨v,by rw[a];exact p⟩
   . refine(ok b u q).stay (λc v hc r=>k c v ?_ r) (λc r=>by rw[aC (l c b r)];exact r) λc xs r=>r.map λo ho q=>by rw[aC (n c xs o ho q)];exact q
     rcases hc with rfl|hc;.exact a
     . rintro rfl;rcases he with z|z;.exact l c b hc z
       .rw[hc]at z;cases z;exact g rfl
end
structure Un(fs ex:List Addr)(H H':Hp)(h h':Heap):Prop where
 keep:∀b o,h.get? b=some o->H b=none->b∉fs->b∉ex->h'.get? b=some o
 slot:∀b o,h.get? b=some o->H b=none->b∈fs->b∉ex->∃sl,h'.get? b=some {o with slots:=sl}free:∀b o,h.get? b=some o->H b=none->b∉ex->H' b=none
 there:∀b o,h.get? b=some o->b∉ex->∃o',h'.get? b=some o'
 tups:∀b xs,H b=some (.tup xs)->H' b=some (.tup xs)rW:∀b o u,H b=some (.eG o u)->H' b=some (.eG o u)uL:∀b ps,H b=some (.M6 ps)->∃more,H' b=some (.M6 (ps++more))
section
variable{fs fs' ex ex':List Addr}{H H1 H2:Hp}{h h1 h2 h':Heap}{a x e:Addr}{o:HO}
theorem Un.any(u:Un fs ex H H1 h h1){b:Addr}{c:Obj}(q:h.get? b=some c)(n:H b=none)(f:b∉ex):∃j,h1.get? b=some {c with slots:=j}:=by
 by_cases g:b∈fs;.exact u.slot b c q n g f
 .exact⟨c.slots,u.keep b c q n g f⟩
theorem Un.kept(k:∀b u,h.get? b=some u->h'.get? b=some u):Un fs ex H H h h':=⟨λb c q _ _ _=>k b c q,λb c q _ _ _=>⟨c.slots,k b c q⟩,λ_ _ _ n _=>n,λb c q _=>⟨c,k b c q⟩,λ_ _ q=>q,λ_ _ _ q=>q,λ_ ps q=>⟨#[],by rw[q];simp⟩⟩
theorem Un.refl:Un fs ex H H h h:=Un.kept λ_ _ q=>q
theorem Un.laid(k:∀b u,h.get? b=some u->h'.get? b=some u)(f:h.objs.size<=a)(c:H a=none):Un fs ex H (upd H a o) h h' where
 keep:=λb u q _ _ _=>k b u q;slot:=λb u q _ _ _=>⟨u.slots,k b u q⟩;free:=λb u q n _=>by rw[aC (ne_of_lt (lt_of_lt_of_le (lt_size q) f))];exact n
 there:=λb u q _=>⟨u,k b u q⟩;tups:=λb xs q=>by rw[aC (fG q c)];exact q
 rW:=λb u xs q=>by rw[aC (fG q c)];exact q
 uL:=λb ps q=>⟨#[],by rw[aC (fG q c),q];simp⟩
theorem Un.write(f:Ra (H x))(he:e=x\/H e=some (.own x))(k:∀b u,b≠e->h.get? b=some u->h'.get? b=some u)(g:∃u,h'.get? e=some u):Un fs ex H (upd H x o) h h':=by
 have l:∀b,H b=none->b≠x:=λb n z=>by subst z;rw[n]at f;exact f
 have m:∀b,H b=none->b≠e:=λb n z=>by
  subst z;rcases he with r|r;.exact l b n r
  .rw[n]at r;cases r
 have j:∀b u,H b=some u->¬ Ra (some u)->b≠x:=λb u q p z=>by subst z;rw[q]at f;exact p f
 refine⟨λb u q n _ _=>k b u (m b n) q,λb u q n _ _=>⟨u.slots,k b u (m b n) q⟩,λb u q n _=>by rw[aC (l b n)];exact n,λb u q _=>?_,λb xs q=>by rw[aC (j b _ q λz=>z)];exact q,λb u xs q=>by rw[aC (j b _ q λz=>z)];exact q,λb ps q=>⟨#[],by rw[aC (j b _ q λz=>z),q];simp⟩⟩;by_cases c:b=e;.subst c;exact g
 .exact⟨u,k b u c q⟩
end
noncomputable def Uv(h:Heap)(H:Hp):List Addr:=(List.range h.objs.size).filter λa=>(H a).isSome
noncomputable def qR(h:Heap)(H:Hp):Heap:=PySem.W.hideAll h (Uv h H)
theorem zy(h:Heap)(H:Hp):(qR h H).objs.size=h.objs.size:=PySem.W.hideAll_size _ _
theorem zW{b:Addr}{o:Obj}(e:h.get? b=some o)(n:H b=none):(qR h H).get? b=some o:=PySem.W.hideAll_get _ e λa=>by have q:(H b).isSome=true:=(List.mem_filter.mp a).2;rw[n]at q;simp at q
theorem G9{b:Addr}{o:Obj}(e:(qR h H).get? b=some o):h.get? b=some o/\H b=none:=by have a:h.get? b=some o:=PySem.W.of_hideAll (Uv h H) e;refine⟨a,?_⟩;cases q:H b with|none=>rfl|some x=>have c:b∈Uv h H:=List.mem_filter.mpr ⟨mem_range.mpr (lt_size a),by simp[q]⟩;have z:(qR h H).get? b=none:=PySem.W.hideAll_none (Uv h H) c;rw[z]at e;cases e
structure Mod(K:PySem.W.Frag)(mg:Str->Option Value)(base:Heap):Prop where
 Yz:K.In base
 glob:base.Ns mainGlobals mg
 blt:∃mb,base.Ns builtinsNs mb/\∀x:Str,x≠"__name__"->mb x=bootBuiltins x
 nolimit:base.NoLimit
structure Cx where
 prog:Program
 w:World
 K:PySem.W.Frag
 mg:Str->Option Value
 base:Heap
 A:Around
 N:List Str
 s₀:Shared
 H₀:Hp
 env:Env
 outer:List Env
 stack:List Env
 ex:List Addr
 fn:Str->Bool
 calm:Bool
 pn:List (Addr×Obj)xe:Value->Shared->Prop
variable{X:Cx}
noncomputable def frs(l:List Env):List Addr:=l.filterMap (·.frame)
noncomputable abbrev Cx.fs(X:Cx):List Addr:=frs X.outer
def Be(a:Scope)(x:Str):Prop:=a.names.lookup x=some .local\/a.names.lookup x=some .cell\/a.names.lookup x=some .free
def Loc(a:Scope)(x:Str):Prop:=a.names.lookup x=some .local\/a.names.lookup x=some .cell
def Look(env:Env)(h:Heap)(m:Str->Option Value)(x:Str)(u:Value):Prop:=(env.kindOf x=some .local/\m x=some u)\/((env.kindOf x=some .cell\/env.kindOf x=some .free)/\∃c,env.cells.lookup x=some c/\h.IsCell c (some u))
structure Cx.Ok(X:Cx):Prop where
 mod:Mod X.K X.mg X.base
 kind:X.env.scope.kind=.function
 glob:X.env.globals=mainGlobals
 blt:X.env.builtins=builtinsNs
 above:X.s₀.heap.objs.size<=X.env.locals
 inj:∀x y c,X.env.cells.lookup x=some c->X.env.cells.lookup y=some c->x=y
 has:∀x,(X.env.kindOf x=some .cell\/X.env.kindOf x=some .free)->∃c,X.env.cells.lookup x=some c
 cab:∀x c,X.fn x=true->X.env.cells.lookup x=some c->X.s₀.heap.objs.size<=c
 hd:X.calm=true->X.A.handled=none
 frames:X.A.frames=some X.stack
 Vn:X.stack=X.outer\/(X.stack=X.env::X.outer/\X.env.frame=some X.env.locals)exf:∀b∈X.ex,b≠X.env.locals/\∀x c,X.env.cells.lookup x=some c->c≠b
 bs:∀b o,X.base.get? b=some o->X.s₀.heap.get? b=some o/\X.H₀ b=none
 Jj:X.base.objs.size<=X.s₀.heap.objs.size
 Dw:∀b o,X.base.get? b=some o->b∉X.ex
 Hu:∀b∈X.ex,b∉X.fs
 mW:X.s₀.heap.FunFrames X.base X.outer
 Pz:∀b∈X.fs,X.H₀ b=none
structure Inv(X:Cx)(pins:List (Addr×Obj))(σ:List (Option V))(H:Hp)(s:Shared):Prop where
 ok:X.Ok
 os:s.os=X.s₀.os
 bare:AllBare s.gens
 base:Un X.fs X.ex X.H₀ H X.s₀.heap s.heap
 loc:∃m,s.heap.Ns X.env.locals m/\∀(i:Nat)(x:Str)(v:V),X.N[i]?=some x->σ[i]?=some (some v)->Be X.env.scope x->∃u,RelV v u/\Look X.env s.heap m x u
 cell:∀x c,X.env.cells.lookup x=some c->∃v,s.heap.IsCell c v
 free:H X.env.locals=none
 jl:∀x c,X.env.cells.lookup x=some c->H c=none
 pin:∀p∈X.pn++pins,s.heap.get? p.1=some p.2/\H p.1=none/\p.1≠X.env.locals/\p.1∉X.fs/\∀v,p.2.data≠.cell v
 hok:j6 X.prog X.w H s.heap
 len:σ.length=X.N.length
section
variable{X:Cx}{pins:List (Addr×Obj)}{σ:List (Option V)}{H H':Hp}{s:Shared}{h':Heap}
theorem Cx.Ok.WW(ok:X.Ok){b:Addr}{o:Obj}(e:X.base.get? b=some o):b∉X.fs:=λa=>by have:=(ok.mW.mem a).1;rw[e]at this;cases this
theorem Inv.bs(I:Inv X pins σ H s):∀b o,X.base.get? b=some o->s.heap.get? b=some o/\H b=none:=λb o e=>⟨I.base.keep b o (I.ok.bs b o e).1 (I.ok.bs b o e).2 (I.ok.WW e) (I.ok.Dw b o e),I.base.free b o (I.ok.bs b o e).1 (I.ok.bs b o e).2 (I.ok.Dw b o e)⟩
theorem Inv.bk(I:Inv X pins σ H s):∀b o,X.base.get? b=some o->s.heap.get? b=some o:=λb o e=>(I.bs b o e).1
theorem Inv.mod(I:Inv X pins σ H s):Mod X.K X.mg X.base:=I.ok.mod
theorem Inv.Km(I:Inv X pins σ H s):X.K.In s.heap:=I.ok.mod.Yz.keeps I.bk
theorem Inv.lt(I:Inv X pins σ H s):X.env.locals<s.heap.objs.size:=let⟨_,hn,_⟩:=I.loc;hn.lt
theorem Inv.sz(I:Inv X pins σ H s):X.s₀.heap.objs.size<=s.heap.objs.size:=le_trans I.ok.above (le_of_lt I.lt)
theorem Inv.XS(I:Inv X pins σ H s){a:Addr}(h:s.heap.objs.size<=a):a∉X.fs:=λb=>by obtain⟨_,o,ho,_⟩:=I.ok.mW.mem b;exact absurd (lt_of_lt_of_le (lt_size ho) (le_trans I.sz h)) (lt_irrefl _)
theorem Inv.Mf(I:Inv X pins σ H s):∀x c,X.env.cells.lookup x=some c->c≠X.env.locals:=λx c e z=>by obtain⟨v,o,ho,hd⟩:=I.cell x c e;obtain⟨m,⟨f,g,j,a,b,_⟩,_⟩:=I.loc;rw[z,a]at ho;cases ho;rw[b]at hd;cases hd
theorem Inv.mW(I:Inv X pins σ H s):s.heap.FunFrames X.base X.outer:=by
 have all:∀(l:List Env),(∀b∈frs l,b∈X.fs)->X.s₀.heap.FunFrames X.base l->s.heap.FunFrames X.base l:=by intro l;induction l with|nil=>intro _ _;trivial|cons env r g=>intro hs j;obtain⟨k,⟨L,o,a,m,ho,hd⟩,hr⟩:=j;have c:L∈X.fs:=hs L (by unfold frs;rw[filterMap_cons,a];exact mem_cons_self);obtain⟨n,e⟩:=I.base.slot L o ho (I.ok.Pz L c) c λz=>I.ok.Hu L z c;exact⟨k,⟨L,_,a,m,e,hd⟩,g (λb f=>hs b (by unfold frs;rw[filterMap_cons,a];exact mem_cons_of_mem _ f)) hr⟩
 exact all X.outer (λ_ f=>f) I.ok.mW
theorem Inv.stack(I:Inv X pins σ H s):s.heap.FunFrames X.base X.stack:=by
 rcases I.ok.Vn with e|⟨e,a⟩;.rw[e];exact I.mW
 .rw[e];obtain⟨m,b,_⟩:=I.loc;refine .cons (by rw[I.ok.kind];decide) a b ?_ I.mW;exact Heap.get?_none_of_le (le_trans I.ok.Jj I.ok.above)
theorem Inv.rA(I:Inv X pins σ H s):∀b∈frs X.stack,b∈X.env.locals::X.fs:=λb a=>by
 rcases I.ok.Vn with e|⟨e,c⟩;.rw[e]at a;exact mem_cons_of_mem _ a
 .rw[e]at a;unfold frs at a;rw[filterMap_cons,c]at a;exact a
theorem Inv.yh(I:Inv X pins σ H s):∀b∈frs X.stack,H b=none:=λb hb=>by
 rcases mem_cons.mp (I.rA b hb)with e|hb;.rw[e];exact I.free
 .obtain⟨_,o,ho,_⟩:=I.ok.mW.mem hb;exact I.base.free b o ho (I.ok.Pz b hb) λz=>I.ok.Hu b z hb
theorem Inv.step{g':Array GenState}{d':Drawn}{ch:List Addr}(I:Inv X pins σ H s)(f:∀b∈ch,(b∈X.ex\/X.s₀.heap.objs.size<=b)/\b≠X.env.locals/\(∀x c,X.env.cells.lookup x=some c->c≠b)/\∀p∈X.pn++pins,p.1≠b)(keep:∀b o,b≠X.env.locals->b∉X.fs->b∉ch->s.heap.get? b=some o->H b=none->h'.get? b=some o)(slot:∀b o,b≠X.env.locals->b∈X.fs->b∉ch->s.heap.get? b=some o->H b=none->∃G,h'.get? b=some {o with slots:=G})(free:∀b o,b∉ch->s.heap.get? b=some o->H b=none->H' b=none)(there:∀b o,b∉ch->s.heap.get? b=some o->∃y,h'.get? b=some y)(tups:∀b xs,H b=some (.tup xs)->H' b=some (.tup xs))(rW:∀b o u,H b=some (.eG o u)->H' b=some (.eG o u))(uL:∀b ps,H b=some (.M6 ps)->∃more,H' b=some (.M6 (ps++more)))(ns:∀m,s.heap.Ns X.env.locals m->h'.Ns X.env.locals m)(hok:j6 X.prog X.w H' h')(O:AllBare g'):Inv X pins σ H' {s with heap:=h',gens:=g',drawn:=d',toks:=t'}:=by
 have B:∀b o,X.s₀.heap.get? b=some o->b≠X.env.locals:=λb o e=>ne_of_lt (lt_of_lt_of_le (lt_size e) I.ok.above);have F:∀b o,X.s₀.heap.get? b=some o->b∉X.ex->b∉ch:=λb o e a t=>by
  rcases(f b t).1 with z|z;.exact a z
  .exact absurd (lt_of_lt_of_le (lt_size e) z) (lt_irrefl _)
 have g:∀x c,X.env.cells.lookup x=some c->∀v,s.heap.IsCell c v->h'.IsCell c v:=λx c e v⟨o,ho,hd⟩=>by
  have C:c∉ch:=λz=>(f c z).2.2.1 x c e rfl;by_cases hc:c∈X.fs;.obtain⟨G,q⟩:=slot c o (I.Mf x c e) hc C ho (I.jl x c e);exact⟨_,q,hd⟩
  .exact⟨o,keep c o (I.Mf x c e) hc C ho (I.jl x c e),hd⟩
 refine⟨I.ok,I.os,O,⟨λb o e n t a=>?_,λb o e n t a=>?_,λb o e n a=>?_,λb o e a=>?_,λb xs e=>tups b xs (I.base.tups b xs e),λb o xs e=>rW b o xs (I.base.rW b o xs e),λb ps e=>?_⟩,?_,λx c e=>?_,?_,λx c e=>?_,λp L=>?_,hok,I.len⟩;.exact keep b o (B b o e) t (F b o e a) (I.base.keep b o e n t a) (I.base.free b o e n a)
 .obtain⟨G,j⟩:=I.base.slot b o e n t a;obtain⟨J,E⟩:=slot b _ (B b o e) t (F b o e a) j (I.base.free b o e n a);exact⟨J,E⟩
 .obtain⟨y,j⟩:=I.base.there b o e a;exact free b y (F b o e a) j (I.base.free b o e n a)
 .obtain⟨y,j⟩:=I.base.there b o e a;exact there b y (F b o e a) j
 .obtain⟨m1,j⟩:=I.base.uL b ps e;obtain⟨Q,E⟩:=uL b _ j;exact⟨m1++Q,by rw[E,Array.append_assoc]⟩
 . obtain⟨m,U,W⟩:=I.loc;refine⟨m,ns m U,λi x v j E Y=>?_⟩;obtain⟨u,r,l⟩:=W i x v j E Y;refine⟨u,r,?_⟩;rcases l with l|⟨k,c,e,z⟩;.exact .inl l
   .exact .inr ⟨k,c,e,g x c e _ z⟩
 .obtain⟨v,z⟩:=I.cell x c e;exact⟨v,g x c e v z⟩
 .obtain⟨m,⟨o,_,_,ho,_⟩,_⟩:=I.loc;exact free _ o (λz=>(f _ z).2.1 rfl) ho I.free
 .obtain⟨v,o,ho,hd⟩:=I.cell x c e;exact free c o (λz=>(f c z).2.2.1 x c e rfl) ho (I.jl x c e)
 .obtain⟨e,n,ne,N,d⟩:=I.pin p L;have C:p.1∉ch:=λz=>(f p.1 z).2.2.2 p L rfl;exact⟨keep p.1 p.2 ne N C e n,free p.1 p.2 C e n,ne,N,d⟩
theorem Inv.un(I:Inv X pins σ H s)(u:Un X.fs [] H H' s.heap h')(hok:j6 X.prog X.w H' h'):Inv X pins σ H' {s with heap:=h',toks:=t'}:=by obtain⟨m,⟨o,l,p,ho,r⟩,_⟩:=id I.loc;obtain⟨q,j⟩:=u.any ho I.free (by simp);exact I.step (g':=s.gens) (d':=s.drawn) (ch:=[]) (λ_ z=>nomatch z) (λb o _ c _ e n=>u.keep b o e n c (by simp)) (λb o _ c _ e n=>u.slot b o e n c (by simp)) (λb o _ e n=>u.free b o e n (by simp)) (λb o _ e=>u.there b o e (by simp)) u.tups u.rW u.uL (λt k=>by obtain⟨v,f,g,a,r'⟩:=k;rw[ho]at a;cases a;exact⟨_,f,g,j,r'⟩) hok I.bare
theorem Inv.call{g':Array GenState}{d':Drawn}{ch:List Addr}(I:Inv X pins σ H s)(u:Un (frs X.stack) ch H H' s.heap h')(hok:j6 X.prog X.w H' h')(l:AllBare g')(a:∀b∈ch,(b∈X.ex\/X.s₀.heap.objs.size<=b)/\b≠X.env.locals/\(∀x c,X.env.cells.lookup x=some c->c≠b)/\∀p∈X.pn++pins,p.1≠b):Inv X pins σ H' {s with heap:=h',gens:=g',drawn:=d',toks:=t'}:=by obtain⟨m,⟨o,v,y,ho,r⟩,_⟩:=id I.loc;obtain⟨B,g⟩:=u.any ho I.free λz=>(a _ z).2.1 rfl;exact I.step (ch:=ch) a (λb o g q hc e n=>u.keep b o e n (λz=>(mem_cons.mp (I.rA b z)).elim g q) hc) (λb o _ _ hc e n=>u.any e n hc) (λb o hc e n=>u.free b o e n hc) (λb o hc e=>u.there b o e hc) u.tups u.rW u.uL (λC t=>by obtain⟨E,j,k,f,r'⟩:=t;rw[ho]at f;cases f;exact⟨_,j,k,g,r'⟩) hok l
theorem Inv.turned{it:Addr}(I:Inv X pins σ H s)(k:∀b o,b≠it->s.heap.get? b=some o->h'.get? b=some o)(g:H it=none)(f:it≠X.env.locals)(h1:it∈X.ex\/X.s₀.heap.objs.size<=it)(j:∀x c,X.env.cells.lookup x=some c->c≠it)(l:∀p∈X.pn++pins,p.1≠it):Inv X pins σ H {s with heap:=h',toks:=t'}:=by
 have a:∀b u,H b=some u->b≠it:=λb u e z=>by rw[z,g]at e;cases e
 refine I.step (g':=s.gens) (d':=s.drawn) (ch:=[it]) (λb t=>?_) (λb o _ _ hc e _=>k b o (λz=>hc (by simp[z])) e) (λb o _ _ hc e _=>⟨o.slots,k b o (λz=>hc (by simp[z])) e⟩) (λ_ _ _ _ n=>n) (λb o hc e=>⟨o,k b o (λz=>hc (by simp[z])) e⟩) (λ_ _ e=>e) (λ_ _ _ e=>e) (λb ps e=>⟨#[],by rw[e];simp⟩) (λm y=>?_) (λb u e=>?_) I.bare
 . have e:b=it:=by simpa using t
   subst e;exact⟨h1,f,j,l⟩
 .obtain⟨o,B,C,ho,r⟩:=y;exact⟨o,B,C,k _ o (Ne.symm f) ho,r⟩
 . refine(I.hok b u e).stay (λc v hc q=>k c v ?_ q) (λ_ q=>q) λ_ _ q=>q;rcases hc with z|z;.rw[z];exact a b u e
   .exact a c _ z
theorem Inv.tok(I:Inv X pins σ H s)(t:Nat):Inv X pins σ H {s with toks:=t}:=I.un (h':=s.heap) (t':=t) Un.refl I.hok
theorem Inv.kept{t':Nat}(I:Inv X pins σ H s)(k:∀b u,s.heap.get? b=some u->h'.get? b=some u):Inv X pins σ H {s with heap:=h',toks:=t'}:=I.un (Un.kept k) (I.hok.kept k)
theorem Inv.laid{a:Addr}{o:HO}{t':Nat}(I:Inv X pins σ H s)(k:∀b u,s.heap.get? b=some u->h'.get? b=some u)(c:s.heap.objs.size<=a)(new:bT X.prog X.w (upd H a o) h' a o):Inv X pins σ (upd H a o) {s with heap:=h',toks:=t'}:=I.un (Un.laid k c (I.hok.fresh c)) (I.hok.laid k c new)
theorem Inv.write{x e:Addr}{o:HO}{t':Nat}(I:Inv X pins σ H s)(c:Ra (H x))(he:e=x\/H e=some (.own x))(k:∀b u,b≠e->s.heap.get? b=some u->h'.get? b=some u)(a:∃u,h'.get? e=some u)(new:bT X.prog X.w (upd H x o) h' x o):Inv X pins σ (upd H x o) {s with heap:=h',toks:=t'}:=I.un (Un.write c he k a) (I.hok.write c he k a new)
theorem Inv.xQ{a:List (Addr×Obj)}(I:Inv X pins σ H s)(h:∀p∈a,s.heap.get? p.1=some p.2/\H p.1=none/\p.1≠X.env.locals/\p.1∉X.fs/\∀v,p.2.data≠.cell v):Inv X a σ H s:=⟨I.ok,I.os,I.bare,I.base,I.loc,I.cell,I.free,I.jl,λp b=>(mem_append.mp b).elim (λz=>I.pin p (mem_append_left _ z)) (h p),I.hok,I.len⟩
theorem uh{N:List Str}(c:N.Nodup){j:Nat}{x:Str}(a:N[i]?=some x)(b:N[j]?=some x):i=j:=by obtain⟨h1,e⟩:=gW a;obtain⟨g,f⟩:=gW b;exact(List.getElem_inj c).mp (e.trans f.symm)
theorem pU{E:Value->Shared->Prop}{x:Str}{v:V}{u:Value}{Q:Unit->Shared->Prop}(I:Inv X pins σ H s)(hN:X.N.Nodup)(hi:X.N[i]?=some x)(l:Loc X.env.scope x)(r:RelV v u)(h:∀s',Inv X pins (σ.set i (some v)) H s'->(∃a,SameBut a s.heap s'.heap/\(a=X.env.locals\/X.env.cells.lookup x=some a))->Q () s')(hf:X.fn x=true\/X.env.scope.names.lookup x=some .local:=by first|exact .inl rfl|exact .inr rfl|assumption):wpAny M A (storeName X.env x u) Q E s:=by
 obtain⟨m,hn,hl⟩:=id I.loc;have L:(X.env.scope.kind==.class||(X.env.scope.kind==.module&&X.env.locals !=X.env.globals))=false:=by rw[I.ok.kind];rfl
 have C:i<σ.length:=by rw[I.len];exact(gW hi).1
 have Mf:=I.Mf;have f:∀{a:Addr}{h':Heap},(∃o,s.heap.get? a=some o/\H a=none)->SameBut a s.heap h'->j6 X.prog X.w H h':=λ{a h'}ha hs b ob e=>by
  obtain⟨_,_,t⟩:=ha;refine(I.hok b ob e).stay (λc Y hc q=>(hs.2 c ?_).trans q) (λ_ q=>q) λ_ _ q=>q;rintro rfl;rcases hc with rfl|hc;.rw[t]at e;cases e
  .rw[t]at hc;cases hc
 rcases l with hk|hk
 . refine wpAny_storeName_local hk hn (λh' ae hs=>?_) L;obtain⟨oL,_,_,af,_⟩:=id hn;refine h _ ⟨I.ok,I.os,I.bare,⟨λb o e n F l=>?_,λb o e n F l=>?_,I.base.free,λb o e l=>?_,I.base.tups,I.base.rW,I.base.uL⟩,⟨_,ae,λj y v' g B e3=>?_⟩,λy c e=>?_,I.free,I.jl,λp hp=>?_,f ⟨oL,af,I.free⟩ hs,by simpa using I.len⟩ ⟨_,hs,.inl rfl⟩;.exact(hs.2 b (ne_of_lt (lt_of_lt_of_le (lt_size e) I.ok.above))).trans (I.base.keep b o e n F l)
   .obtain⟨sl,g⟩:=I.base.slot b o e n F l;exact⟨sl,(hs.2 b (ne_of_lt (lt_of_lt_of_le (lt_size e) I.ok.above))).trans g⟩
   .obtain⟨o',g⟩:=I.base.there b o e l;exact⟨o',(hs.2 b (ne_of_lt (lt_of_lt_of_le (lt_size e) I.ok.above))).trans g⟩
   . by_cases G:j=i;.subst G;rw[hi]at g;cases g;rw[getElem?_set_self C]at B;cases B;exact⟨u,r,.inl ⟨hk,by simp⟩⟩
     . rw[fL G]at B;obtain⟨u',r',q⟩:=hl j y v' g B e3;refine⟨u',r',?_⟩;rcases q with⟨k,e⟩|⟨k,c,e,z⟩;.refine .inl ⟨k,?_⟩;have:y≠x:=λe=>G (uh hN g (e▸hi));simp[this,e]
       .exact .inr ⟨k,c,e,z.sameBut hs (Mf y c e)⟩
   .obtain⟨Y,z⟩:=I.cell y c e;exact⟨Y,z.sameBut hs (Mf y c e)⟩
   .obtain⟨e,n,ne,nf,d⟩:=I.pin p hp;exact⟨(hs.2 p.1 ne).trans e,n,ne,nf,d⟩
 . have J:X.fn x=true:=by
    rcases hf with z|z;.exact z
    .rw[z]at hk;cases hk
   obtain⟨c,hc⟩:=I.ok.has x (.inl hk);obtain⟨Y,z⟩:=I.cell x c hc;refine wpAny_storeName_cell I.ok.kind hk hc z (λh' O hs=>?_);obtain⟨oc,U,YB⟩:=id z;refine h {s with heap:=h'} ⟨I.ok,I.os,I.bare,⟨λb o e n F l=>?_,λb o e n F l=>?_,I.base.free,λb o e l=>?_,I.base.tups,I.base.rW,I.base.uL⟩,⟨m,hn.sameBut hs (Ne.symm (Mf x c hc)),λj y v' g B e3=>?_⟩,λy Z e=>?_,I.free,I.jl,λp hp=>?_,f ⟨oc,U,I.jl x c hc⟩ hs,by simpa using I.len⟩ ⟨c,hs,.inr hc⟩;.exact(hs.2 b (ne_of_lt (lt_of_lt_of_le (lt_size e) (I.ok.cab x c J hc)))).trans (I.base.keep b o e n F l)
   .obtain⟨sl,g⟩:=I.base.slot b o e n F l;exact⟨sl,(hs.2 b (ne_of_lt (lt_of_lt_of_le (lt_size e) (I.ok.cab x c J hc)))).trans g⟩
   .obtain⟨o',g⟩:=I.base.there b o e l;exact⟨o',(hs.2 b (ne_of_lt (lt_of_lt_of_le (lt_size e) (I.ok.cab x c J hc)))).trans g⟩
   . by_cases G:j=i;.subst G;rw[hi]at g;cases g;rw[getElem?_set_self C]at B;cases B;exact⟨u,r,.inr ⟨.inl hk,c,hc,O⟩⟩
     . rw[fL G]at B;obtain⟨u',r',q⟩:=hl j y v' g B e3;refine⟨u',r',?_⟩;rcases q with q|⟨k,Z,e,z'⟩;.exact .inl q
       .refine .inr ⟨k,Z,e,z'.sameBut hs ?_⟩;rintro rfl;exact G (uh hN g (I.ok.inj _ _ _ e hc▸hi))
   . by_cases W:Z=c;.subst W;exact⟨_,O⟩
     .obtain⟨w2,z2⟩:=I.cell y Z e;exact⟨w2,z2.sameBut hs W⟩
   .obtain⟨e,n,ne,nf,d⟩:=I.pin p hp;refine⟨(hs.2 p.1 ?_).trans e,n,ne,nf,d⟩;intro q;rw[q,U]at e;have q':oc=p.2:=Option.some.inj e;exact d Y (by rw[<-q'];exact YB)
theorem nj{E:Value->Shared->Prop}{x:Str}{v:V}{u:Value}{Q:Unit->Shared->Prop}(I:Inv X pins σ H s)(b:X.N.Nodup)(hi:X.N[i]?=some x)(c:Loc X.env.scope x)(r:RelV v u)(h:∀a,Inv X pins (σ.set i (some v)) H a->Q () a)(e:X.fn x=true\/X.env.scope.names.lookup x=some .local:=by first|exact .inl rfl|exact .inr rfl|assumption):wpAny M A (storeName X.env x u) Q E s:=pU I b hi c r (λa f _=>h a f) e
end
abbrev XK:=Value->Option Addr->Hp->Prop
noncomputable abbrev St:=List (Option V)
abbrev VK:=V->Hp->Prop
abbrev TE:=St->Hp->VK->Prop
abbrev TT:=St->Hp->(Bool->Hp->Prop)->Prop
abbrev TA:=St->Hp->(List V->Hp->Prop)->Prop
structure Ends where
 nx:St->Hp->Prop
 rt:VK
 bk:St->Hp->Prop:=λ_ _=>False
 ct:St->Hp->Prop:=λ_ _=>False
abbrev TS:=Ends->St->Hp->Prop
inductive EP(X:Cx)(pins:List (Addr×Obj))(σ:St)(Q:VK)(u:Value)(s':Shared):Prop where|mk(v:V)(H':Hp)(q0:Inv X pins σ H' s')(q1:RelV v u)(q2:Q v H')
def TP(X:Cx)(pins:List (Addr×Obj))(c:St)(Q:Bool->Hp->Prop)(b:Bool)(e:Shared):Prop:=∃a,Inv X pins c a e/\Q b a
inductive AP(X:Cx)(pins:List (Addr×Obj))(σ:St)(Q:List V->Hp->Prop)(us:List Value)(s':Shared):Prop where|mk(vs:List V)(H':Hp)(q0:Inv X pins σ H' s')(q1:Vals vs us)(q2:Q vs H')
def SP(X:Cx)(pins:List (Addr×Obj))(D:Ends)(f:Flow)(c:Shared):Prop:=match f with|.next=>∃a b,Inv X pins a b c/\D.nx a b|.brk=>∃a b,Inv X pins a b c/\D.bk a b|.cont=>∃a b,Inv X pins a b c/\D.ct a b|.ret u=>∃v a b,Inv X pins a b c/\RelV v u/\D.rt v b
def PE(X:Cx)(e:Expr)(t:TE):Prop:=∀(pins:List (Addr×Obj))(s:Shared)(a:St)(H:Hp)(Q:VK),Inv X pins a H s->t a H Q->wpAny (model X.prog X.w) X.A (eval e X.env) (EP X pins a Q) X.xe s
def PT(X:Cx)(e:Expr)(t:TT):Prop:=∀(pins:List (Addr×Obj))(s:Shared)(a:St)(H:Hp)(Q:Bool->Hp->Prop),Inv X pins a H s->t a H Q->wpAny (model X.prog X.w) X.A (isTrue e X.env (eval e X.env)) (TP X pins a Q) X.xe s
def PW(X:Cx)(e:Expr)(t:TT):Prop:=∀(a:Sem Value)(pins:List (Addr×Obj))(s:Shared)(b:St)(H:Hp)(Q:Bool->Hp->Prop),Inv X pins b H s->t b H Q->wpAny (model X.prog X.w) X.A (isTrue e X.env a) (TP X pins b Q) X.xe s
theorem PW.pt{e:Expr}{t:TT}(h:PW X e t):PT X e t:=h _
def PA(X:Cx)(b:List Expr)(t:TA):Prop:=∀(pos:Pos)(pins:List (Addr×Obj))(s:Shared)(a:St)(H:Hp)(Q:List V->Hp->Prop),Inv X pins a H s->t a H Q->wpAny (model X.prog X.w) X.A (spliced (backTo pos (starEach b X.env))) (AP X pins a Q) X.xe s
def PS(X:Cx)(st:Stmt)(t:TS):Prop:=∀(pins:List (Addr×Obj))(s:Shared)(a:St)(H:Hp)(D:Ends),Inv X pins a H s->t D a H->wpAny (model X.prog X.w) X.A (exec st X.env) (SP X pins D) X.xe s
def yc(X:Cx)(st:List Stmt)(t:TS):Prop:=∀(pins:List (Addr×Obj))(s:Shared)(a:St)(H:Hp)(D:Ends),Inv X pins a H s->t D a H->wpAny (model X.prog X.w) X.A (execs st X.env) (SP X pins D) X.xe s
theorem cT{b:Type}{t:Sem b}{Q c:b->Shared->Prop}{E:Value->Shared->Prop}(h:wpAny M A t Q E s)(e:∀a s,Q a s->c a s):wpAny M A t c E s:=wpAny_mono h e λ_ _ x=>x
section
variable{X:Cx}
def Ri(i:Nat):TE:=λa H Q=>∃v,a[i]?=some (some v)/\Q v H
def tC(v:V):TE:=λ_ H Q=>Q v H
theorem lB{x:Str}(f:X.N[i]?=some x)(g:Be X.env.scope x)(hd:(x==("__debug__":Str))=false:=by decide)(b:(x==("__classdict__":Str))=false:=by decide):PE X (.Name x pos) (Ri i):=by
 intro pins s j H Q I h;obtain⟨v,e,h⟩:=h;obtain⟨m,k,n⟩:=I.loc;obtain⟨u,r,l⟩:=n i x v f e g;have fin:EP X pins j Q u s:=⟨v,H,I,r,h⟩;rcases l with⟨hk,o⟩|⟨hk,c,hc,a⟩;.exact wpAny_Name (wpAny_loadName_local I.ok.kind hk k o fin) hd
 . rcases hk with hk|hk;.exact wpAny_Name (wpAny_loadName_cell I.ok.kind hk hc a fin) hd
   .exact wpAny_Name (wpAny_loadName_free I.ok.kind hk hc a fin b) hd
theorem Cq{i j pos}:PE X (.Constant (.int i) j pos) (tC (.int i)):=λ_ _ _ H _ I h=>wpAny_Constant_int ⟨.int i,H,I.tok _,⟨_,rfl⟩,h⟩
theorem HR{b j pos}:PE X (.Constant (.bool b) j pos) (tC (.bl b)):=λ_ _ _ H _ I h=>Constant_bool ⟨.bl b,H,I,rfl,h⟩
theorem Jx{j pos}:PE X (.Constant .none j pos) (tC .non):=λ_ _ _ H _ I h=>Constant_none ⟨.non,H,I,rfl,h⟩
def Gl(X:Cx)(x:Str):Prop:=X.env.kindOf x=some .globalImplicit
theorem GJ{E:Value->Shared->Prop}{a:St}{x:Str}{u:Value}{Q:Value->Shared->Prop}(I:Inv X pins a H s)(b:Gl X x)(c:X.mg x=some u)(h:Q u s)(hd:(x==("__debug__":Str))=false:=by decide):wpAny (model X.prog X.w) X.A (eval (.Name x pos) X.env) Q E s:=Calls.Name_function_global I.ok.kind b (Calls.loadGlobal_global (by rw[I.ok.glob];exact I.mod.glob.keeps I.bk) c h) hd
theorem jt{E:Value->Shared->Prop}{a:St}{x:Str}{u:Value}{Q:Value->Shared->Prop}(I:Inv X pins a H s)(b:Gl X x)(c:X.mg x=none)(e:bootBuiltins x=some u)(h:Q u s)(f:x≠"__name__":=by decide)(hd:(x==("__debug__":Str))=false:=by decide):wpAny (model X.prog X.w) X.A (eval (.Name x pos) X.env) Q E s:=by obtain⟨j,h1,g⟩:=I.mod.blt;exact Calls.Name_function_global I.ok.kind b (Calls.loadGlobal_builtin (by rw[I.ok.glob];exact I.mod.glob.keeps I.bk) c (by rw[I.ok.blt];exact h1.keeps I.bk) ((g x f).trans e) h) hd
theorem Gk{x:Str}{v:V}{u:Value}(a:Gl X x)(b:X.mg x=none)(c:bootBuiltins x=some u)(r:RelV v u)(e:x≠"__name__":=by decide)(hd:(x==("__debug__":Str))=false:=by decide):PE X (.Name x pos) (tC v):=λ_ _ _ H _ I h=>jt I a b c ⟨v,H,I,r,h⟩ e hd
variable{a b:Expr}{ta tb:TE}{pos:Pos}
def tB(t:TE):TT:=λe H Q=>t e H λx f=>∃c,x=.bl c/\Q c f
theorem J5{e:Expr}{t:TE}(h:PE X e t)(he:∀c,isTrue e X.env c=(do let v<-c;standAt e.pos;holding [v] (truthy v)):=by intro _;rfl):PT X e (tB t):=by intro pins s f H Q I hw;refine isTrue_plain (cT (h pins s f H _ I hw) λv s1⟨x,H1,I1,r1,q1⟩=>?_) (he _);obtain⟨d,rfl,q⟩:=q1;cases r1;exact wpAny_truthy_bool ⟨H1,I1,q⟩
variable{tA Vp:TT}{rest:List Expr}
def Ww(t u:TT):TT:=λe H Q=>t e H λc f=>if c=true then u e f Q else Q false f
def tOr(t u:TT):TT:=λe H Q=>t e H λc f=>if c=true then Q true f else u e f Q
def WQ(t:TT):TT:=λe H Q=>t e H λc f=>Q (!c) f
theorem Ga(f:PT X a tA):PW X (.BoolOp .And [a] pos) tA:=by intro j pins s g H Q I h;refine isTrue_and (cT (f pins s g H Q I h) λc s1 e=>?_);cases c with|true=>exact isTrue_and_nil e|false=>exact e
theorem Mg(f:PT X a tA):PW X (.BoolOp .Or [a] pos) tA:=by intro j pins s g H Q I h;refine isTrue_or (cT (f pins s g H Q I h) λc s1 e=>?_);cases c with|false=>exact isTrue_or_nil e|true=>exact e
theorem M3(g:PT X a tA)(j:PW X (.BoolOp .And (b::rest) pos) Vp):PW X (.BoolOp .And (a::b::rest) pos) (Ww tA Vp):=by intro k pins s e H Q I h;refine isTrue_and (cT (g pins s e H _ I h) λc s1⟨f,I1,q1⟩=>?_);cases c with|true=>exact j k pins s1 e f Q I1 q1|false=>exact⟨f,I1,q1⟩
theorem R9(g:PT X a tA)(j:PW X (.BoolOp .Or (b::rest) pos) Vp):PW X (.BoolOp .Or (a::b::rest) pos) (tOr tA Vp):=by intro k pins s e H Q I h;refine isTrue_or (cT (g pins s e H _ I h) λc s1⟨f,I1,q1⟩=>?_);cases c with|true=>exact⟨f,I1,q1⟩|false=>exact j k pins s1 e f Q I1 q1
theorem Ml(e:PT X a tA):PT X (.UnaryOp .Not a pos) (WQ tA):=by intro pins s f H Q I h;exact isTrue_not (e pins s f H (λc g=>Q (!c) g) I h)
def QB(ta tb:TE):TE:=λe H Q=>ta e H λx f=>∃c,x=.bl c/\if c=true then tb e f Q else Q (.bl false) f
def Yo(ta tb:TE):TE:=λe H Q=>ta e H λx f=>∃c,x=.bl c/\if c=true then Q (.bl true) f else tb e f Q
theorem K4{op}{t:TE}(h:PE X a t):PE X (.BoolOp op [a] pos) t:=λpins s c H Q I hw=>BoolOp_one (h pins s c H Q I hw)
theorem J8(g:PE X a ta)(j:PE X (.BoolOp .And (b::rest) pos) tb):PE X (.BoolOp .And (a::b::rest) pos) (QB ta tb):=by intro pins s f H Q I h;refine BoolOp_and (cT (g pins s f H _ I h) λv s1⟨x,H1,I1,r1,e⟩=>?_);obtain⟨c,rfl,e⟩:=e;cases r1;refine wpAny_truthy_bool ?_;cases c with|true=>exact j pins s1 f H1 Q I1 e|false=>exact⟨.bl false,H1,I1,rfl,e⟩
theorem Bf(g:PE X a ta)(j:PE X (.BoolOp .Or (b::rest) pos) tb):PE X (.BoolOp .Or (a::b::rest) pos) (Yo ta tb):=by intro pins s f H Q I h;refine BoolOp_or (cT (g pins s f H _ I h) λv s1⟨x,H1,I1,r1,e⟩=>?_);obtain⟨c,rfl,e⟩:=e;cases r1;refine wpAny_truthy_bool ?_;cases c with|false=>exact j pins s1 f H1 Q I1 e|true=>exact⟨.bl true,H1,I1,rfl,e⟩
end
def gb(K:PySem.W.Frag)(H:Hp)(a:Addr)(xs:List V):Prop:=Rd H a (.lst xs)\/∃(o:Obj)(b:Array Value)(n:Nat),K.lookup a=some o/\o.cls=.type "list"/\o.dict=none/\o.data=.seq b n/\b.size<=sizeLine/\Vals xs b.toList
def jc(K:PySem.W.Frag)(H:Hp)(a:Addr)(xs:List V):Prop:=Rd H a (.tup xs)\/∃(o:Obj)(b:Array Value)(n:Nat),K.lookup a=some o/\o.cls=.type "tuple"/\o.data=.seq b n/\b.size<=sizeLine/\Vals xs b.toList
noncomputable def Wl:Value->Option V|.none=>some .non|.bool b=>some (.bl b)|.int i _=>some (.int i)|.str x _=>some (.str x)|.bytes b _=>some (.Yx b)|.float b _=>some (.flt b)|.ref a=>some (.ref a)|.type n=>some (.ty n)|_=>none
theorem RelV.abs{x:V}{u:Value}(r:RelV x u):Wl u=some x:=by cases x with|non=>cases r;rfl|bl _=>cases r;rfl|int _=>obtain⟨t,rfl⟩:=r;rfl|str _=>obtain⟨t,rfl⟩:=r;rfl|Yx _=>obtain⟨t,rfl⟩:=r;rfl|flt _=>obtain⟨t,rfl⟩:=r;rfl|ref _=>cases r;rfl|ty _=>cases r;rfl
theorem RelV.inj{x y:V}{u:Value}(r:RelV x u)(q:RelV y u):x=y:=Option.some.inj (r.abs.symm.trans q.abs)
theorem Vals.inj:∀{xs ys:List V}{us:List Value},Vals xs us->Vals ys us->xs=ys|_,_,_,.nil,.nil=>rfl|_,_,_,.cons r t,.cons r' t'=>by rw[r.inj r',Vals.inj t t']
section
variable{X:Cx}{pins:List (Addr×Obj)}{σ:St}{H:Hp}{s:Shared}{a:Addr}{xs ys:List V}
theorem gb.of(h:H a=some (.lst xs)):gb K H a xs:=.inl (.inl h)
theorem jc.of(h:H a=some (.tup xs)):jc K H a xs:=.inl (.inl h)
theorem Inv.list(I:Inv X pins σ H s)(h:gb X.K H a xs):∃b:List Value,Vals xs b/\PlainL s.heap a b.toArray/\xs.length<=sizeLine:=by
 rcases h with h|⟨o,b,n,c,hc,hd,hs,f,r⟩;.obtain⟨z,b,n,r,e⟩:=h.ok I.hok;exact⟨b,r,⟨_,n,e,rfl,rfl,rfl⟩,z⟩
 .refine⟨b.toList,r,⟨o,n,I.Km a o c,hc,hd,by simpa using hs⟩,?_⟩;have e:=r.length;simp only[length_toList]at e;omega
theorem Inv.tuple(I:Inv X pins σ H s)(h:jc X.K H a xs):∃b:List Value,Vals xs b/\IsTup s.heap a b.toArray/\xs.length<=sizeLine:=by
 rcases h with h|⟨o,b,n,c,hc,hs,f,r⟩;.obtain⟨z,b,r,p⟩:=h.ok I.hok;exact⟨b,r,p,z⟩
 .refine⟨b.toList,r,⟨o,I.Km a o c,hc,n,by simpa using hs⟩,?_⟩;have e:=r.length;simp only[length_toList]at e;omega
theorem Inv.mY(I:Inv X pins σ H s)(h:gb X.K H a xs)(h':gb X.K H a ys):xs=ys:=by
 obtain⟨b,r,⟨o,n,e,_,_,d⟩,_⟩:=I.list h;obtain⟨its',r',⟨f,g,c,_,_,d'⟩,_⟩:=I.list h';rw[e]at c;cases c;rw[d]at d';injection d' with d1 _;have:b=its':=by simpa using congrArg toList d1
 subst this;exact r.inj r'
theorem Inv.kJ(I:Inv X pins σ H s)(h:jc X.K H a xs)(h':jc X.K H a ys):xs=ys:=by
 obtain⟨b,r,⟨o,e,_,n,d⟩,_⟩:=I.tuple h;obtain⟨its',r',⟨f,c,_,g,d'⟩,_⟩:=I.tuple h';rw[e]at c;cases c;rw[d]at d';injection d' with d1 _;have:b=its':=by simpa using congrArg toList d1
 subst this;exact r.inj r'
end
noncomputable abbrev Cx.wish(X:Cx)(E:Value->Shared->Prop):Cx:={X with xe:=E}
noncomputable abbrev Cx.Qh(X:Cx):Cx:=X.wish λ_ _=>False
theorem Cx.Ok.wish{X:Cx}(ok:X.Ok)(E:Value->Shared->Prop):(X.wish E).Ok:=⟨ok.mod,ok.kind,ok.glob,ok.blt,ok.above,ok.inj,ok.has,ok.cab,ok.hd,ok.frames,ok.Vn,ok.exf,ok.bs,ok.Jj,ok.Dw,ok.Hu,ok.mW,ok.Pz⟩
theorem Cx.Ok.iC{E:Value->Shared->Prop}(ok:(X.wish E).Ok):X.Ok:=⟨ok.mod,ok.kind,ok.glob,ok.blt,ok.above,ok.inj,ok.has,ok.cab,ok.hd,ok.frames,ok.Vn,ok.exf,ok.bs,ok.Jj,ok.Dw,ok.Hu,ok.mW,ok.Pz⟩
section
variable{X:Cx}{pins:List (Addr×Obj)}{σ:St}{H:Hp}{s:Shared}{E:Value->Shared->Prop}
theorem Inv.wish(I:Inv X pins σ H s)(E:Value->Shared->Prop):Inv (X.wish E) pins σ H s:=⟨I.ok.wish E,I.os,I.bare,I.base,I.loc,I.cell,I.free,I.jl,I.pin,I.hok,I.len⟩
theorem Inv.iC(I:Inv (X.wish E) pins σ H s):Inv X pins σ H s:=⟨I.ok.iC,I.os,I.bare,I.base,I.loc,I.cell,I.free,I.jl,I.pin,I.hok,I.len⟩
theorem SP.iC{D:Ends}{f:Flow}{c:Shared}(h:SP (X.wish E) pins D f c):SP X pins D f c:=by cases f with|next=>obtain⟨a,b,I,q⟩:=h;exact⟨a,b,I.iC,q⟩|brk=>obtain⟨a,b,I,q⟩:=h;exact⟨a,b,I.iC,q⟩|cont=>obtain⟨a,b,I,q⟩:=h;exact⟨a,b,I.iC,q⟩|ret u=>obtain⟨v,a,b,I,r,q⟩:=h;exact⟨v,a,b,I.iC,r,q⟩
theorem yc.Qh{st:List Stmt}{t:TS}(h:yc X.Qh st t):yc X st t:=λpins s σ H D I hw=>wpAny_mono (h pins s σ H D (I.wish _) hw) (λ_ _ q=>q.iC) λ_ _ z=>False.elim z
end
section
variable{X:Cx}{st:Stmt}{rest:List Stmt}{t u:TS}{e:Expr}{te:TE}{pos:Pos}
def Rh:TS:=λD a H=>D.nx a H
def We(t u:TS):TS:=λD a H=>t {D with nx:=u D} a H
theorem Gs:yc X [] Rh:=λ_ _ a H _ I h=>wpAny_execs_nil ⟨a,H,I,h⟩
theorem Di(h1:PS X st t)(b:yc X rest u):yc X (st::rest) (We t u):=by intro pins s c H D I h;refine wpAny_execs_cons (cT (h1 pins s c H {D with nx:=u D} I h) λf s1 q=>?_);cases f with|next=>obtain⟨a,g,j,q⟩:=q;exact b pins s1 a g D j q|ret v=>exact q|brk=>exact q|cont=>exact q
theorem Inv.quiet{a:St}(I:Inv X pins a H s):interactive X.env=false:=by simp[interactive,I.ok.kind]
def QX(te:TE):TS:=λD a H=>te a H λ_ b=>D.nx a b
theorem Ht(he:PE X e te)(hs:swapsWith e none pos.line X.env=pure false:=by rfl):PS X (.Expr e pos) (QX te):=by intro pins s a H D I h;exact wpAny_Expr_any (cT (he pins s a H _ I h) λv s1⟨x,H1,I1,r1,q1⟩=>⟨a,H1,I1,q1⟩) I.quiet hs
def VL(te:TE):TS:=λD a H=>te a H D.rt
theorem Df(he:PE X e te):PS X (.Return (some e) pos) (VL te):=by intro pins s a H D I h;exact wpAny_Return_some (cT (he pins s a H _ I h) λv s1⟨x,H1,I1,r1,q1⟩=>⟨x,a,H1,I1,r1,q1⟩)
def VV(c:TT)(t u:TS):TS:=λD a H=>c a H λb f=>if b=true then t D a f else u D a f
theorem QR{c:Expr}{a b:List Stmt}{g:TT}(hc:PT X c g)(k:yc X a t)(l:yc X b u):PS X (.If c a b pos) (VV g t u):=by intro pins s f H D I h;refine wpAny_If (cT (hc pins s f H _ I h) λd s1⟨j,I1,q1⟩=>?_);cases d with|true=>exact k pins s1 f j D I1 q1|false=>exact l pins s1 f j D I1 q1
end
abbrev TG:=V->St->Hp->(St->Hp->Prop)->Prop
abbrev zO:=List V->St->Hp->(St->Hp->Prop)->Prop
def PG(X:Cx)(a:Expr)(t:TG):Prop:=∀(pins:List (Addr × Obj))(s:Shared)(c:St)(H:Hp)(v:V)(u:Value)(Q:St->Hp->Prop),Inv X pins c H s->RelV v u->t v c H Q->wpAny (model X.prog X.w) X.A (assign a X.env u) (λ_ f=>∃b e,Inv X pins b e f/\Q b e) X.xe s
def Vf(X:Cx)(e:List Expr)(t:zO):Prop:=∀(pins:List (Addr × Obj))(s:Shared)(b:St)(H:Hp)(vs:List V)(us:List Value)(Q:St->Hp->Prop),Inv X pins b H s->Vals vs us->t vs b H Q->wpAny (model X.prog X.w) X.A (assignInOrder ((assignEach e X.env).map (·.2)) us) (λ_ f=>∃a c,Inv X pins a c f/\Q a c) X.xe s
abbrev JL:=V->V->V->Hp->(Hp->Prop)->Prop
def R3(X:Cx)(t:JL):Prop:=∀(pins:List (Addr × Obj))(s:Shared)(a:St)(H:Hp)(o i v:V)(b c u:Value)(Q:Hp->Prop),Inv X pins a H s->RelV o b->RelV i c->RelV v u->t o i v H Q->wpAny (model X.prog X.w) X.A (setItem b c u) (λ_ f=>∃e,Inv X pins a e f/\Q e) X.xe s
abbrev Ub:=V->V->Hp->VK->Prop
def Up(X:Cx)(op:Operator)(t:Ub):Prop:=∀(pins:List (Addr × Obj))(s:Shared)(a:St)(H:Hp)(x y:V)(v u:Value)(Q:VK),Inv X pins a H s->RelV x v->RelV y u->t x y H Q->wpAny (model X.prog X.w) X.A (inplaceOp op v u) (EP X pins a Q) X.xe s
section
variable{X:Cx}{pos:Pos}
def oH(i:Nat):TG:=λv a H Q=>Q (a.set i (some v)) H
theorem aA{x:Str}(a:X.N.Nodup)(hi:X.N[i]?=some x)(b:Loc X.env.scope x)(c:X.fn x=true\/X.env.scope.names.lookup x=some .local:=by first|exact .inl rfl|exact .inr rfl|assumption):PG X (.Name x pos) (oH i):=by intro pins s f H v u Q I r h;exact wpAny_assign_Name (nj I a hi b r (λg e=>⟨_,H,e,h⟩) c)
def M4:zO:=λvs a H Q=>vs=[]/\Q a H
def Ds(t:TG)(u:zO):zO:=λvs b H Q=>∃v r,vs=v::r/\t v b H λa c=>u r a c Q
theorem cP:Vf X [] M4:=by intro pins s a H vs us Q I r h;obtain⟨e,h⟩:=h;subst e;cases r;exact assignInOrder_nil ⟨a,H,I,h⟩
theorem aB{e:Expr}{a:List Expr}{t:TG}{u:zO}(h1:PG X e t)(c:Vf X a u)(hs:(assignEach (e::a) X.env).map (·.2)=assign e X.env::(assignEach a X.env).map (·.2):=by rfl):Vf X (e::a) (Ds t u):=by intro pins s f H vs us Q I r h;obtain⟨v,k,g,h⟩:=h;subst g;cases r with|cons r j=>rw[hs];refine assignInOrder_cons (cT (h1 pins s f H _ _ _ I r h) λ_ s1⟨b,H1,I1,q1⟩=>?_);exact c pins s1 b H1 _ _ Q I1 j q1
def Ms(K:PySem.W.Frag)(n:Nat)(t:zO):TG:=λv b H Q=>∃a xs,v=.ref a/\jc K H a xs/\xs.length=n/\t xs b H Q
theorem dM{c:List Expr}{k:Nat}{t:zO}{n:Nat}(hc:X.calm=true)(h:Vf X c t)(l:(assignEach c X.env).length=n:=by rfl)(f:(assignEach c X.env).findIdx? (·.1)=none:=by rfl):PG X (.Tuple c k pos) (Ms X.K n t):=by intro pins s g H v u Q I r hw;obtain⟨a,xs,m,p,q,hw⟩:=hw;subst m;cases r;obtain⟨x,j,y,C⟩:=I.tuple p;refine assign_Tuple_tuple (I.ok.hd hc) y (by simp[l,<-q,j.length]) f λh' z=>?_;have B:Inv X pins g H {s with heap:=h'}:=I.kept (t':=s.toks) λb o e=>z b o (ne_of_lt (lt_size e)) e;exact h pins _ g H xs _ Q B (by simpa using j) hw
def W9(b c:TE)(t:JL):TG:=λv a H Q=>b a H λo e=>c a e λi f=>t o i v f λg=>Q a g
theorem Mv{o i:Expr}{e f:TE}{t:JL}(ho:PE X o e)(hi:PE X i f)(hs:R3 X t)(g:∀ v,assign (.Subscript o i pos) X.env v=(do
  let a<-holding [v] (eval o X.env)let b<-holding [v,a] (eval i X.env)standAt pos
  holding [v,a,b] (setItem a b v)release [v,a,b] []):=by intro _;rfl):PG X (.Subscript o i pos) (W9 e f t):=by intro pins s c H v u Q I r h;rw[g];refine wpAny_bind (wpAny_holding (cT (ho pins s c H _ I h) λa s1⟨x,H1,I1,r1,q1⟩=>?_));refine wpAny_bind (wpAny_holding (cT (hi pins s1 c H1 _ I1 q1) λb s2⟨y,H2,I2,r2,q2⟩=>?_));refine wpAny_bind (wpAny_standAt (wpAny_bind (wpAny_holding (cT (hs pins s2 c H2 x y v a b u _ I2 r1 r2 r q2) λ_ s3⟨j,I3,q3⟩=>?_))));exact wpAny_release ⟨c,j,I3,q3⟩
def KY(te:TE)(g:TG):TS:=λD a H=>te a H λx b=>g x a b D.nx
theorem Bu{e:Expr}{te:TE}{g:TG}(he:PE X e te)(b:PG X tg g)(hs:swapsWithSole [tg] e pos.line X.env=pure false:=by rfl)(hw:swappedStores [tg] e X.env=pure none:=by rfl)(h1:(assignEach [tg] X.env).map (·.2)=[assign tg X.env]:=by rfl):PS X (.Assign [tg] e pos) (KY te g):=by intro pins s a H D I h;refine wpAny_Assign_stores (cT (he pins s a H _ I h) λv s1⟨x,H1,I1,r1,q1⟩=>?_) hs hw;rw[h1];exact cT (b pins s1 a H1 x v _ I1 r1 q1) λ_ s2 q=>q
theorem Av{x:Str}{e:Expr}{te:TE}{a:Pos}(b:X.N.Nodup)(hi:X.N[i]?=some x)(c:Loc X.env.scope x)(he:PE X e te)(hs:swapsWith e (some (.Name x a)) pos.line X.env=pure false:=by rfl)(f:X.fn x=true\/X.env.scope.names.lookup x=some .local:=by first|exact .inl rfl|exact .inr rfl|assumption):PS X (.Assign [.Name x a] e pos) (KY te (oH i)):=by intro pins s g H D I h;refine wpAny_Assign_Name (cT (he pins s g H _ I h) λv s1⟨y,H1,I1,r1,q1⟩=>?_) hs;exact nj I1 b hi c r1 (λs2 j=>⟨_,H1,j,q1⟩) f
def Wg(i:Nat)(te:TE)(b:Ub):TS:=λD a H=>∃x,a[i]?=some (some x)/\te a H λy c=>b x y c λz e=>D.nx (a.set i (some z)) e
theorem Kv{x:Str}{e:Expr}{te:TE}{op:Operator}{o:Ub}{b:Pos}(q:X.N.Nodup)(hi:X.N[i]?=some x)(j:Loc X.env.scope x)(he:PE X e te)(ho:Up X op o)(t:X.fn x=true\/X.env.scope.names.lookup x=some .local:=by first|exact .inl rfl|exact .inr rfl|assumption):PS X (.AugAssign (.Name x b) op e pos) (Wg i te o):=by
 intro pins s p H D I h;obtain⟨v,B,h⟩:=h;obtain⟨m,C,E⟩:=I.loc;have n:Be X.env.scope x:=by rcases j with k|k;exact .inl k;exact .inr (.inl k)
 obtain⟨u,r,l⟩:=E i x v hi B n;refine wpAny_AugAssign_Name ?_;have go:wpAny (model X.prog X.w) X.A (eval e X.env) (λw f=>wpAny (model X.prog X.w) X.A (inplaceOp op u w) (λr g=>wpAny (model X.prog X.w) X.A (storeName X.env x r) (λ_=>SP X pins D .next) X.xe g) X.xe f) X.xe s:=by refine cT (he pins s p H _ I h) λw s1⟨y,H1,I1,r1,q1⟩=>?_;refine cT (ho pins s1 p H1 v y u w _ I1 r r1 q1) λz s2⟨J,H2,I2,r2,q2⟩=>?_;exact nj I2 q hi j r2 (λs3 F=>⟨_,H2,F,q2⟩) t
 rcases l with⟨hk,G⟩|⟨hk,c,hc,a⟩;.exact wpAny_loadName_local I.ok.kind hk C G go
 . rcases hk with hk|hk;.exact wpAny_loadName_cell I.ok.kind hk hc a go
   . rcases j with k|k;.have:X.env.scope.names.lookup x=some .free:=hk;rw[k]at this;cases this
     .have:X.env.scope.names.lookup x=some .free:=hk;rw[k]at this;cases this
def VJ(f:Int->Int->Int):Ub:=λx y H Q=>∃i j,x=.int i/\y=.int j/\Q (.int (f i j)) H
theorem K6:Up X .Add (VJ λi j=>i+j):=by intro pins s f H x y v u Q I a b h;obtain⟨i,j,c,e,q⟩:=h;subst c;subst e;obtain⟨t,rfl⟩:=a;obtain⟨t',rfl⟩:=b;exact iadd_int ⟨.int _,H,I.tok _,⟨_,rfl⟩,q⟩
end
structure It where
 go:Nat->Hp->Prop
 Hv:Nat->Hp->V->Hp->Prop
 stop:Nat->Hp->Prop
def lA(X:Cx)(pins:List (Addr×Obj))(H:Hp)(b:Addr):Prop:=H b=none/\b≠X.env.locals/\b∉X.fs/\(b∈X.ex\/X.s₀.heap.objs.size<=b)/\(∀x c,X.env.cells.lookup x=some c->c≠b)/\∀p∈X.pn++pins,p.1≠b
theorem Inv.yW{g:St}{f:Hp}{b:Addr}(I:Inv X pins g H s)(a:s.heap.objs.size<=b)(j:f b=none):lA X pins f b:=by
 refine⟨j,Nat.ne_of_gt (lt_of_lt_of_le I.lt a),I.XS a,.inr (le_trans I.sz a),λx c e z=>?_,λp k z=>?_⟩;.obtain⟨v,q⟩:=I.cell x c e;exact absurd (lt_of_lt_of_le q.lt (by rw[z];exact a)) (lt_irrefl _)
 .exact absurd (lt_of_lt_of_le (lt_size (I.pin p k).1) (by rw[z];exact a)) (lt_irrefl _)
structure Turn(P:Program)(w:World)(K:PySem.W.Frag)(tg:Expr)(J:It)(fp:List Addr)(it:Addr)(tn:Nat->Heap->Prop):Prop where
 mem:it∈fp
 obj:∀i h,tn i h->∀b∈fp,∃o,h.get? b=some o/\∀v,o.data≠.cell v
 keep:∀i h h',tn i h->(∀b∈fp,∀o,h.get? b=some o->h'.get? b=some o)->tn i h'
 item:∀(X:Cx),X.prog=P->X.w=w->X.K=K->X.calm=true->∀(i:Nat)(pins:List (Addr×Obj))(s:Shared)(σ:St)(H:Hp)(E:Value->Shared->Prop),Inv X pins σ H s->(∀b∈fp,lA X pins H b)->tn i s.heap->J.go i H->wpAny (model P w) X.A (pyNext (.ref it)) (λr s1=>∃u,r=some u/\wpAny (model P w) X.A (letOwnedTupleGo tg (.ref it) u) (λ_ s2=>∃x H',Inv X pins σ H' s2/\RelV x u/\J.Hv i H x H'/\tn (i+1) s2.heap/\∀b∈fp,H' b=none) E s1) E s
 done:∀(X:Cx),X.prog=P->X.w=w->X.K=K->X.calm=true->∀(i:Nat)(pins:List (Addr×Obj))(s:Shared)(σ:St)(H:Hp)(E:Value->Shared->Prop),Inv X pins σ H s->(∀b∈fp,lA X pins H b)->tn i s.heap->J.stop i H->wpAny (model P w) X.A (pyNext (.ref it)) (λr s1=>r=none/\Inv X pins σ H s1) E s
 self:∀(A:Around)(i:Nat)(s:Shared)(Q:Value->Shared->Prop)(E:Value->Shared->Prop),tn i s.heap->Q (.ref it) s->wpAny (model P w) A (pyIter (.ref it)) Q E s
abbrev TI:=St->Hp->(It->Hp->Prop)->Prop
def PIE(X:Cx)(pins:List (Addr×Obj))(g:St)(tg:Expr)(R:It->Hp->Prop)(a:Value)(s2:Shared):Prop:=∃(it:Addr)(e:List Addr)(f:Nat->Heap->Prop)(J:It)(c:Hp),a=.ref it/\Inv X pins g c s2/\Turn X.prog X.w X.K tg J e it f/\f 0 s2.heap/\(∀b∈e,lA X pins c b)/\R J c
def PI(X:Cx)(tg iter:Expr)(b:TI):Prop:=∀(pins:List (Addr × Obj))(s:Shared)(a:St)(H:Hp)(R:It->Hp->Prop),Inv X pins a H s->b a H R->wpAny (model X.prog X.w) X.A (eval iter X.env) (λv s1=>wpAny (model X.prog X.w) X.A (pyIter v) (PIE X pins a tg R) X.xe s1) X.xe s
theorem Aw{E:Value->Shared->Prop}{it:Addr}{u:Value}{o:Obj}{n:String}{vs:Array Value}{Q:Unit->Shared->Prop}(ho:s.heap.get? it=some o)(hc:o.cls=.type n)(hd:o.data=.fields vs)(b:["enumerate","zip","dict_itemiterator","dict_reverseitemiterator","odict_iterator","itertools.zip_longest","itertools.pairwise"].contains n=false)(a:Q () s):wpAny M A (letOwnedTupleGo tg (.ref it) u) Q E s:=by unfold letOwnedTupleGo;cases tg<;>first|exact wpAny_pure a|(cases u<;>first|exact wpAny_pure a|(refine wpAny_bind (wpAny_load ho ?_);rw[hc,hd];show wpAny M A (if(["enumerate","zip","dict_itemiterator","dict_reverseitemiterator","odict_iterator","itertools.zip_longest","itertools.pairwise"].contains n&&vs[0]?==some (rawInt _))=true then _ else _) Q E s;rw[if_neg (by intro h;rw[b,Bool.false_and]at h;cases h)];exact wpAny_pure a))
noncomputable def KD(K:PySem.W.Frag)(a:Addr):It:=⟨λi H=>∃xs x,gb K H a xs/\xs[i]?=some x,λi H x b=>b=H/\∀xs,gb K H a xs->xs[i]?=some x,λi H=>∃xs,gb K H a xs/\xs.length<=i⟩
noncomputable def Oq(K:PySem.W.Frag)(a:Addr):It:=⟨λi H=>∃xs x,jc K H a xs/\xs[i]?=some x,λi H x b=>b=H/\∀xs,jc K H a xs->xs[i]?=some x,λi H=>∃xs,jc K H a xs/\xs.length<=i⟩
noncomputable def Ru(lo:Int)(n:Nat):It:=⟨λi _=>i<n,λi H x a=>a=H/\x=.int (lo+i),λi _=>n<=i⟩
theorem yx{P:Program}(a it:Addr):Turn P w K tg (KD K a) [it] it (λi h=>h.IsListIter it a i)where
 mem:=by simp
 obj:=λi h st b f=>by
  have e:b=it:=by simpa using f
  subst e;obtain⟨o,e,c,d⟩:=st;exact⟨o,e,λv z=>by rw[d]at z;cases z⟩
 keep:=λi h h' st k=>st.at λo e=>k it (by simp) o e;item:=by intro X m hw n hc i pins s B H E I j st q;subst m hw n;obtain⟨xs,x,l,r⟩:=q;obtain⟨t,y,p,C⟩:=I.list l;obtain⟨u,F,G⟩:=y.get r;obtain⟨f0,f1,f2,f3,f4,f5⟩:=j it (by simp);refine wpAny_pyNext_list_item st p.isList (x:=u) (by simpa using F) λh' g sb=>?_;have J:Inv X pins B H {s with heap:=h'}:=I.turned (t':=s.toks) (λb o f e=>(sb.2 b f).trans e) f0 f1 f3 f4 f5;obtain⟨o,e,c,d⟩:=id g;exact⟨u,rfl,Aw (s:={s with heap:=h'}) e c d (by decide) ⟨x,H,J,G,⟨rfl,λys L=>by rw[I.mY L l];exact r⟩,g,λb f=>(j b f).1⟩⟩
 done:=by intro X m hw n hc i pins s B H E I j st q;subst m hw n;obtain⟨xs,l,r⟩:=q;obtain⟨t,y,p,C⟩:=I.list l;obtain⟨f0,f1,f2,f3,f4,f5⟩:=j it (by simp);have O:=y.length;exact wpAny_pyNext_list_end (I.ok.hd hc) st p.isList (by simp;omega) λh' N=>⟨rfl,I.turned (t':=s.toks) (λb o f e=>N b o f e) f0 f1 f3 f4 f5⟩
 self:=λ_ _ _ _ _ st h=>wpAny_pyIter_listiter st h
theorem vH{P:Program}(a it:Addr):Turn P w K tg (Oq K a) [it] it (λi h=>h.IsTupleIter it a i)where
 mem:=by simp
 obj:=λi h st b f=>by
  have e:b=it:=by simpa using f
  subst e;obtain⟨o,e,c,d⟩:=st;exact⟨o,e,λv z=>by rw[d]at z;cases z⟩
 keep:=λi h h' st k=>st.at λo e=>k it (by simp) o e;item:=by intro X n hw q hc i pins s B H E I l st r;subst n hw q;obtain⟨xs,x,m,t⟩:=r;obtain⟨g,y,p,C⟩:=I.tuple m;obtain⟨u,F,G⟩:=y.get t;obtain⟨f0,f1,f2,f3,f4,f5⟩:=l it (by simp);refine wpAny_pyNext_tuple_item st (show s.heap.IsTuple a g.toArray from p) (x:=u) (by simpa using F) λh' j sb=>?_;have J:Inv X pins B H {s with heap:=h'}:=I.turned (t':=s.toks) (λb o f e=>(sb.2 b f).trans e) f0 f1 f3 f4 f5;obtain⟨o,e,c,d⟩:=id j;exact⟨u,rfl,Aw (s:={s with heap:=h'}) e c d (by decide) ⟨x,H,J,G,⟨rfl,λys L=>by rw[I.kJ L m];exact t⟩,j,λb f=>(l b f).1⟩⟩
 done:=by intro X n hw q hc i pins s B H E I l st r;subst n hw q;obtain⟨xs,m,t⟩:=r;obtain⟨g,y,p,C⟩:=I.tuple m;obtain⟨f0,f1,f2,f3,f4,f5⟩:=l it (by simp);have O:=y.length;exact wpAny_pyNext_tuple_end (I.ok.hd hc) st (show s.heap.IsTuple a g.toArray from p) (by simp;omega) λh' N=>⟨rfl,I.turned (t':=s.toks) (λb o f e=>N b o f e) f0 f1 f3 f4 f5⟩
 self:=λ_ _ _ _ _ st h=>wpAny_pyIter_tupleiter st h
theorem vz{P:Program}(it:Addr)(lo:Int)(n:Nat):Turn P w K tg (Ru lo n) [it] it (λi h=>IsRangeIter h it (lo+(i:Nat)*1) ((n:Int)-(i:Nat)) 1)where
 mem:=by simp
 obj:=λi h st b a=>by
  have e:b=it:=by simpa using a
  subst e;exact⟨_,st,λv z=>by have q:Data.fields _=Data.cell v:=z;cases q⟩
 keep:=λi h h' st k=>k it (by simp) _ st;item:=by intro X g hw j hc i pins s m H E I f st l;subst g hw j;obtain⟨f0,f1,f2,f3,f4,f5⟩:=f it (by simp);have W:=Walks.range (prog:=X.prog) (w:=X.w) (I.ok.hd hc) it lo 1 n;refine W.item i s _ _ l st λv h' p r c u=>?_;obtain⟨t,rfl⟩:=r;have x:Inv X pins m H {s with heap:=h',toks:=p}:=I.turned (λb o a e=>u b o (by simpa using a) e) f0 f1 f3 f4 f5;refine⟨_,rfl,Aw (s:={s with heap:=h',toks:=p}) (n:="range_iterator") c rfl rfl (by decide) ⟨.int (lo+i),H,x,⟨t,?_⟩,⟨rfl,rfl⟩,c,λb a=>(f b a).1⟩⟩;rw[Int.mul_one]
 done:=by intro X g hw j hc i pins s m H E I f st l;subst g hw j;obtain⟨f0,f1,f2,f3,f4,f5⟩:=f it (by simp);exact wpAny_pyNext_range_end (I.ok.hd hc) st (by have:n<=i:=l;omega) λh' y=>⟨rfl,I.turned (t':=s.toks) (λb o a e=>y b o a e) f0 f1 f3 f4 f5⟩
 self:=λ_ _ _ _ _ st h=>wpAny_pyIter_rangeiter st h
section
variable{X:Cx}{tg:Expr}
theorem um{a:St}{R:It->Hp->Prop}{E:Value->Shared->Prop}{lo hi:Int}{t u v:Tok}{c:Nat}(I:Inv X pins a H s)(h1:-(2^62)<=lo)(g:lo<2^62)(j:-(2^62)<=hi)(k:hi<2^62)(q:R (Ru lo (hi-lo).toNat) H):wpAny (model X.prog X.w) X.A (pyIter (.ref s.heap.objs.size)) (PIE X pins a tg R) E {s with heap:=s.heap.push {cls:=.type "range",data:=.fields #[.int lo t,.int hi u,.int 1 v]},toks:=c}:=by
 refine wpAny_pyIter_range (IsRange.new ..) (small_one h1 g j k) ?_;have f:Inv X pins a H {s with heap:=s.heap.push {cls:=.type "range",data:=.fields #[.int lo t,.int hi u,.int 1 v]},toks:=c}:=I.kept λb o e=>iG e;refine⟨(s.heap.push {cls:=.type "range",data:=.fields #[.int lo t,.int hi u,.int 1 v]}).objs.size,[(s.heap.push {cls:=.type "range",data:=.fields #[.int lo t,.int hi u,.int 1 v]}).objs.size],_,_,H,rfl,f.kept (t':=c) λb o e=>iG e,vz _ lo (hi-lo).toNat,?_,λb l=>?_,q⟩
 . have m:lo+((0:Nat):Int)*1=lo:=by simp
   have n:(((hi-lo).toNat:Nat):Int)-((0:Nat):Int)=Builtin.Range.rangeSize lo hi 1:=by rw[rangeSize_one];split<;>omega
   show IsRangeIter _ _ (lo+((0:Nat):Int)*1) ((((hi-lo).toNat:Nat):Int)-((0:Nat):Int)) 1;rw[m,n];exact get?_push_size _ rfl
 . have e:b=(s.heap.push {cls:=.type "range",data:=.fields #[.int lo t,.int hi u,.int 1 v]}).objs.size:=by simpa using l
   subst e;exact f.yW (cH) (f.hok.fresh (cH))
def Qo(a:TA):TI:=λb H R=>a b H λvs c=>∃j:Int,vs=[.int j]/\-(2^62)<=j/\j<2^62/\R (Ru 0 j.toNat) c
def S9(a:TA):TI:=λb H R=>a b H λvs c=>∃i j:Int,vs=[.int i,.int j]/\(-(2^62)<=i/\i<2^62/\-(2^62)<=j/\j<2^62)/\R (Ru i (j-i).toNat) c
theorem zE{a:Expr}{c:TA}{p:Pos}(f:Gl X "range")(g:X.mg "range"=none)(k:PA X [a] c)(hs:starEach [a] X.env=[(false,eval a X.env)]:=by rfl):PI X tg (.Call (.Name "range" p) [a] [] pos) (Qo c):=by intro pins s l H R I h;refine Call_ (jt I f g boot_range (PyProof.Rows.callWith_type1 (cT (k pos pins s l H _ I h) λus s1⟨vs,H1,I1,r1,b⟩=>?_) hs rfl));obtain⟨j,e,b,m,q⟩:=b;subst e;cases r1 with|cons r n=>cases n;obtain⟨t,rfl⟩:=r;exact call_range_1 (um I1 (by omega) (by omega) b m (by simpa using q))
theorem yR{a b:Expr}{k:TA}{p:Pos}(l:Gl X "range")(m:X.mg "range"=none)(n:PA X [a,b] k)(hs:starEach [a,b] X.env=[(false,eval a X.env),(false,eval b X.env)]:=by rfl)(c:starEach [b] X.env=[(false,eval b X.env)]:=by rfl):PI X tg (.Call (.Name "range" p) [a,b] [] pos) (S9 k):=by intro pins s o H R I h;refine Call_ (jt I l m boot_range (PyProof.Rows.callWith_type1 (cT (n pos pins s o H _ I h) λus s1⟨vs,H1,I1,r1,f⟩=>?_) (by rw[hs,c]) (by rw[c];rfl)));obtain⟨i,j,e,⟨f,u,v,x⟩,q⟩:=f;subst e;cases r1 with|cons r g=>cases g with|cons r' g=>cases g;obtain⟨t,rfl⟩:=r;obtain⟨t',rfl⟩:=r';exact call_range_2 (um I1 f u v x q)
def Yu(j:TI)(g:TG)(k:TS):TS:=λD a H=>j a H λJ l=>∃W:Nat->Nat->St->Hp->Prop,(∃m,W 0 m a l)/\∀i m a H,W i m a H->(J.stop i H/\D.nx a H)\/(J.go i H/\∃N:St->Hp->Prop,(∀b c,N b c->∃f,f<m/\W (i+1) f b c)/\∀x c,J.Hv i H x c->g x a c λe n=>k {D with nx:=N,ct:=N,bk:=D.nx} e n)
noncomputable def nM(a:List Addr)(h:Heap):List (Addr×Obj):=a.filterMap λb=>(h.get? b).map λo=>(b,o)
theorem gJ{a:List Addr}{b:Addr}{o:Obj}(c:b∈a)(e:h.get? b=some o):(b,o)∈nM a h:=List.mem_filterMap.mpr ⟨b,c,by rw[e];rfl⟩
theorem yL{a:List Addr}{p:Addr×Obj}(c:p∈nM a h):p.1∈a/\h.get? p.1=some p.2:=by obtain⟨b,f,e⟩:=List.mem_filterMap.mp c;cases q:h.get? b with|none=>rw[q]at e;cases e|some o=>rw[q]at e;have g:(b,o)=p:=Option.some.inj e;subst g;exact⟨f,q⟩
theorem Inv.pinned{c:St}{a:List Addr}(I:Inv X pins c H s)(j:∀b∈a,lA X pins H b)(ho:∀b∈a,∃o,s.heap.get? b=some o/\∀v,o.data≠.cell v):Inv X (pins++nM a s.heap) c H s:=I.xQ λp k=>(mem_append.mp k).elim (λz=>I.pin p (mem_append_right _ z)) λz=>by obtain⟨f,e⟩:=yL z;obtain⟨f0,f1,f2,_⟩:=j p.1 f;obtain⟨o,g,d⟩:=ho p.1 f;rw[e]at g;cases g;exact⟨e,f0,f1,f2,d⟩
theorem Inv.jM{b:List (Addr×Obj)}{a:St}(I:Inv X (pins++b) a H s):Inv X pins a H s:=I.xQ λp c=>I.pin p (mem_append_right _ (mem_append_left _ c))
theorem Lr{iter:Expr}{body:List Stmt}{U:TI}{g:TG}{Y:TS}(z:PassesOwn (model X.prog X.w) X.A X.env X.xe)(hc:X.calm=true)(hi:PI X tg iter U)(hg:PG X tg g)(c:yc X body Y)(hs:∀x,foldedSetIterable iter X.env x=pure x:=by intro _;rfl):PS X (.For tg iter body [] pos) (Yu U g Y):=by
 intro pins s Z H D I h;refine wpAny_For (cT (hi pins s Z H _ I h) λv s1 h1=>cT h1 λae s2 h2=>?_) hs;obtain⟨it,B,tn,J,H2,e,I2,T,L,f2,W,⟨m0,w0⟩,turn⟩:=h2;subst e--what stays true of the iterator's objects through the loop
 have j:∀{t:Hp},(∀b∈B,t b=none)->∀b∈B,lA X pins t b:=λhn b c=>⟨hn b c,(f2 b c).2⟩;refine codeAny_forLoop_any (λn s'=>∃i k t,Inv X pins k t s'/\tn i s'.heap/\(∀b∈B,t b=none)/\W i n k t) ?_ m0 ⟨0,Z,H2,I2,L,λb c=>(f2 b c).1,w0⟩;rintro n s3⟨i,l,G,I3,C,E,w3⟩;rcases turn i n l G w3 with⟨stop,qn⟩|⟨go,N,hN,step⟩;.refine wpAny_passesOwn z (cT (T.done X rfl rfl rfl hc i pins s3 l G X.xe I3 (j E) C stop) λr s4⟨hr,I4⟩=>?_);subst hr;exact wpAny_execs_nil ⟨l,G,I4,qn⟩
 . refine wpAny_passesOwn z (cT (T.item X rfl rfl rfl hc i pins s3 l G X.xe I3 (j E) C go) λr s4⟨u,hr,h4⟩=>?_);subst hr;refine wpAny_passesOwn z (cT h4 λ_ s5⟨x,H5,I5,r5,y5,Hw,fr5⟩=>?_);have O:=I5.pinned (j fr5) (T.obj _ _ Hw);refine wpAny_passesOwn z (cT (hg _ s5 l H5 x u _ O r5 (step x H5 y5)) λ_ s6⟨Q,H6,I6,q6⟩=>?_);refine wpAny_passesOwn z (cT (c _ s6 Q H6 _ I6 q6) λf s7 y=>?_);have again:∀{a:St}{p:Hp},Inv X (pins++nM B s5.heap) a p s7->N a p->∃m,m<n/\∃i k t,Inv X pins k t s7/\tn i s7.heap/\(∀b∈B,t b=none)/\W i m k t:=λ{a p}q F=>by obtain⟨m',hm,w7⟩:=hN a p F;refine⟨m',hm,i+1,a,p,q.jM,T.keep _ _ _ Hw λb c o e=>(q.pin (b,o) (mem_append_right _ (mem_append_right _ (gJ c e)))).1,λb c=>?_,w7⟩;obtain⟨o,e,d⟩:=T.obj _ _ Hw b c;exact(q.pin (b,o) (mem_append_right _ (mem_append_right _ (gJ c e)))).2.1
   cases f with|next=>obtain⟨a,p,q,F⟩:=y;exact again q F|cont=>obtain⟨a,p,q,F⟩:=y;exact again q F|brk=>obtain⟨a,p,q,y⟩:=y;exact⟨a,p,q.jM,y⟩|ret v=>obtain⟨x7,a,p,q,r7,y⟩:=y;exact⟨x7,a,p,q.jM,r7,y⟩
end
abbrev R2:=V->V->Hp->VK->Prop
def dZ(X:Cx)(f:Value->Value->Sem Value)(r:R2):Prop:=∀(pins:List (Addr × Obj))(s:Shared)(a:St)(H:Hp)(x y:V)(v u:Value)(Q:VK),Inv X pins a H s->RelV x v->RelV y u->r x y H Q->wpAny (model X.prog X.w) X.A (f v u) (EP X pins a Q) X.xe s
def Xu(X:Cx)(f:Value->Sem Value)(r:V->Hp->VK->Prop):Prop:=∀(pins:List (Addr × Obj))(s:Shared)(a:St)(H:Hp)(x:V)(v:Value)(Q:VK),Inv X pins a H s->RelV x v->r x H Q->wpAny (model X.prog X.w) X.A (f v) (EP X pins a Q) X.xe s
def dm(X:Cx)(f:Value)(r:List V->Hp->VK->Prop):Prop:=∀(pins:List (Addr × Obj))(s:Shared)(a:St)(H:Hp)(xs:List V)(us:List Value)(Q:VK),Inv X pins a H s->Vals xs us->r xs H Q->wpAny (model X.prog X.w) X.A (call f us) (EP X pins a Q) X.xe s
def Mx(r:R2)(b c:TE):TE:=λa H Q=>b a H λx e=>c a e λy f=>r x y f Q
def Wb(r:V->Hp->VK->Prop)(a:TE):TE:=λb H Q=>a b H λx c=>r x c Q
def rI(C:Int->Int->Prop)(g:Int->Int->V):R2:=λx y H Q=>∃i j,x=.int i/\y=.int j/\C i j/\Q (g i j) H
def Ec(g:Int->Int->V):R2:=λx y H Q=>∃i j,x=.int i/\y=.int j/\Q (g i j) H
def rU(g:Int->V):V->Hp->VK->Prop:=λx H Q=>∃i,x=.int i/\Q (g i) H
section
variable{X:Cx}{a b c:Expr}{ta tb tc:TE}{pos:Pos}
theorem Kq(m:PE X a ta)(n:PE X b tb){e:St}{R:V->V->Hp->Prop}(I:Inv X pins e H s)(h:ta e H λx l=>tb e l λy g=>R x y g){Q:Value->Shared->Prop}{f:Value->Value->Sem Value}(o:∀v u s2 x y g,Inv X pins e g s2->RelV x v->RelV y u->R x y g->wpAny (model X.prog X.w) X.A (f v u) Q X.xe s2):wpAny (model X.prog X.w) X.A (eval a X.env) (λv j=>wpAny (model X.prog X.w) X.A (eval b X.env) (λu k=>wpAny (model X.prog X.w) X.A (f v u) Q X.xe k) X.xe j) X.xe s:=by refine cT (m pins s e H _ I h) λv s1⟨x,l,I1,r1,q1⟩=>?_;refine cT (n pins s1 e l _ I1 q1) λu s2⟨y,g,I2,r2,q2⟩=>?_;exact o v u s2 x y g I2 r1 r2 q2
theorem S8{op:Operator}{r:R2}(ho:dZ X (binaryOp op) r)(e:PE X a ta)(f:PE X b tb):PE X (.BinOp a op b pos) (Mx r ta tb):=by intro pins s g H Q I h;exact wpAny_BinOp (Kq e f I h λv u s2 x y j k l m q=>ho pins s2 g j x y v u Q k l m q)
theorem HX{op:UnaryOp}{r:V->Hp->VK->Prop}(ho:Xu X (unaryOp op) r)(f:PE X a ta):PE X (.UnaryOp op a pos) (Wb r ta):=by intro pins s e H Q I h;exact UnaryOp_ (cT (f pins s e H _ I h) λv s1⟨x,H1,I1,r1,q1⟩=>ho pins s1 e H1 x v Q I1 r1 q1)
theorem V9{f:Value->Value->Sem Value}{C:Int->Int->Prop}{g:Int->Int->Int}(rule:∀(i j:Int)(t u:Tok)(s:Shared)(Q:Value->Shared->Prop)(E:Value->Shared->Prop),C i j->Q (.int (g i j) s.toks) {s with toks:=s.toks+1}->wpAny (model X.prog X.w) X.A (f (.int i t) (.int j u)) Q E s):dZ X f (rI C λi j=>.int (g i j)):=by intro pins s l H x y v u Q I e k h;obtain⟨i,j,rfl,rfl,hc,q⟩:=h;obtain⟨t,rfl⟩:=e;obtain⟨t',rfl⟩:=k;exact rule i j t t' s _ _ hc ⟨.int (g i j),H,I.tok _,⟨_,rfl⟩,q⟩
theorem Sw{f:Value->Value->Sem Value}{g:Int->Int->Int}(rule:∀(i j:Int)(t u:Tok)(s:Shared)(Q:Value->Shared->Prop)(E:Value->Shared->Prop),Q (.int (g i j) s.toks) {s with toks:=s.toks+1}->wpAny (model X.prog X.w) X.A (f (.int i t) (.int j u)) Q E s):dZ X f (Ec λi j=>.int (g i j)):=by intro pins s l H x y v u Q I e k h;obtain⟨i,j,rfl,rfl,q⟩:=h;obtain⟨t,rfl⟩:=e;obtain⟨t',rfl⟩:=k;exact rule i j t t' s _ _ ⟨.int (g i j),H,I.tok _,⟨_,rfl⟩,q⟩
theorem Hf{f:Value->Value->Sem Value}{g:Int->Int->Bool}(rule:∀(i j:Int)(t u:Tok)(s:Shared)(Q:Value->Shared->Prop)(E:Value->Shared->Prop),Q (.bool (g i j)) s->wpAny (model X.prog X.w) X.A (f (.int i t) (.int j u)) Q E s):dZ X f (Ec λi j=>.bl (g i j)):=by intro pins s l H x y v u Q I e k h;obtain⟨i,j,rfl,rfl,q⟩:=h;obtain⟨t,rfl⟩:=e;obtain⟨t',rfl⟩:=k;exact rule i j t t' s _ _ ⟨.bl (g i j),H,I,rfl,q⟩
def XN(i j:Int):Prop:=0<=j/\j<=1000000/\i.natAbs<2^64
def JP(i j:Int):Prop:=(-(2^64)<i/\i<2^64)\/(-(2^64)<j/\j<2^64)
theorem JP.ok{i j:Int}(h:JP i j):IntMulOk i j:=by
 rcases h with⟨h1,e⟩|⟨h1,e⟩;.exact .of_left (intBits_le_64 h1 e)
 .exact .of_right (intBits_le_64 h1 e)
theorem Ky:dZ X (binaryOp .Add) (Ec λi j=>.int (i+j)):=Sw λ_ _ _ _ _ _ _ q=>add_int q
theorem KJ:dZ X (binaryOp .Sub) (Ec λi j=>.int (i-j)):=Sw λ_ _ _ _ _ _ _ q=>sub_int q
theorem Jy:dZ X (binaryOp .Mult) (rI JP λi j=>.int (i*j)):=V9 λ_ _ _ _ _ _ _ hc q=>mul_int q hc.ok
theorem MF:dZ X (binaryOp .Mod) (rI (λ_ j=>0<j) λi j=>.int (i%j)):=V9 λi j _ _ _ _ _ hc q=>by have h1:(0:Int)<j:=hc;exact mod_int' (by omega) (by rw[Int.fmod_eq_emod_of_nonneg i (by omega)];exact q)
theorem La:dZ X (binaryOp .Pow) (rI XN λi j=>.int (i^j.toNat)):=V9 λ_ _ _ _ _ _ _ hc q=>pow_int_small hc.1 hc.2.1 hc.2.2 q
theorem unI{f:Value->Sem Value}{g:Int->Int}(rule:∀(i:Int)(t:Tok)(s:Shared)(Q:Value->Shared->Prop)(E:Value->Shared->Prop),Q (.int (g i) s.toks) {s with toks:=s.toks+1}->wpAny (model X.prog X.w) X.A (f (.int i t)) Q E s):Xu X f (rU λi=>.int (g i)):=by intro pins s j H x v Q I e h;obtain⟨i,rfl,q⟩:=h;obtain⟨t,rfl⟩:=e;exact rule i t s _ _ ⟨.int (g i),H,I.tok _,⟨_,rfl⟩,q⟩
theorem CG:Xu X (unaryOp .USub) (rU λi=>.int (-i)):=unI λ_ _ _ _ _ q=>neg_int q
end
section
variable{X:Cx}{a b c:Expr}{ta tb tc:TE}{pos:Pos}
theorem Dn{f:St}{Q:VK}{k g:Bool}(I:Inv X pins f H s)(q:Q (.bl k) H)(e:k=g):EP X pins f Q (.bool g) s:=by subst e;exact⟨.bl k,H,I,rfl,q⟩
theorem Qf:dZ X (compareOp .Lt) (Ec λi j=>.bl (decide (i<j))):=Hf λ_ _ _ _ _ _ _ q=>lt_int q
theorem Qu:dZ X (compareOp .LtE) (Ec λi j=>.bl (decide (i<=j))):=Hf λ_ _ _ _ _ _ _ q=>le_int q
theorem QS:dZ X (compareOp .Gt) (Ec λi j=>.bl (decide (j<i))):=Hf λ_ _ _ _ _ _ _ q=>gt_int q
theorem Q9:dZ X (compareOp .GtE) (Ec λi j=>.bl (decide (j<=i))):=Hf λ_ _ _ _ _ _ _ q=>ge_int q
theorem MP:dZ X (compareOp .Is) (λx y H Q=>y=.non/\Q (.bl (decide (x=.non))) H):=by intro pins s g H x y v u Q I e f h;obtain⟨rfl,q⟩:=h;cases f;refine is_none_gen (Dn I q ?_);cases x<;>first|(cases e;rfl)|(obtain⟨t,rfl⟩:=e;rfl)
theorem Hs:dZ X (compareOp .IsNot) (λx y H Q=>y=.non/\Q (.bl (!decide (x=.non))) H):=by intro pins s g H x y v u Q I e f h;obtain⟨rfl,q⟩:=h;cases f;refine isnot_none_gen (Dn I q ?_);cases x<;>first|(cases e;rfl)|(obtain⟨t,rfl⟩:=e;rfl)
theorem V6{op:CmpOp}{e:List Expr}{k:Nat}{p:Pos}(f:(op==CmpOp.In)=false)(g:(op==CmpOp.NotIn)=false):behindInMarks op (.Set e k p)=false:=by show(k==0&&(op==CmpOp.In||op==CmpOp.NotIn)&&_)=false;rw[f,g];cases(k==0)<;>rfl
theorem aW(b:Expr)(h:op≠.In:=by decide)(e:op≠.NotIn:=by decide):behindInMarks op b=false:=by
 have f:(op==CmpOp.In)=false:=by cases op<;>first|rfl|exact absurd rfl h
 have g:(op==CmpOp.NotIn)=false:=by cases op<;>first|rfl|exact absurd rfl e
 cases b<;>first|rfl|exact V6 f g
theorem qL{r:R2}(ho:dZ X (compareOp op) r)(e:PE X a ta)(f:PE X b tb)(g:behindInMarks op b=false):PE X (.Compare a [op] [b] pos) (Mx r ta tb):=by intro pins s j H Q I h;exact wpAny_Compare1 (Kq e f I h λv u s2 x y k l m n q=>ho pins s2 j k x y v u Q l m n q) g
def Iw(t:TE):TT:=λe H Q=>t e H λx f=>∃k,x=.bl k/\Q k f
theorem xP{r:R2}(ho:dZ X (compareOp op) r)(g:PE X a ta)(j:PE X b tb)(l:behindInMarks op b=false):PT X (.Compare a [op] [b] pos) (Iw (Mx r ta tb)):=by intro pins s f H Q I h;refine wpAny_isTrue_Compare1 (cT (g pins s f H _ I h) λv s1⟨x,H1,I1,r1,q1⟩=>cT (j pins s1 f H1 _ I1 q1) λu s2⟨y,H2,I2,r2,q2⟩=>cT (ho pins s2 f H2 x y v u _ I2 r1 r2 q2) λc s3⟨z,H3,I3,r3,k,e,q3⟩=>?_) l;subst e;cases r3;exact wpAny_truthy_bool ⟨H3,I3,q3⟩
def CP(r r':R2)(ta tb tc:TE):TE:=λe H Q=>ta e H λx g=>tb e g λy j=>r x y j λz f=>∃k,z=.bl k/\(if k=true then tc e f λl m=>r' y l m Q else Q (.bl false) f)
theorem Cj{f:CmpOp}{r r':R2}(ho:dZ X (compareOp op) r)(j:dZ X (compareOp f) r')(l:PE X a ta)(m:PE X b tb)(hc:PE X c tc)(n:lastMarks [op,f] [b,c]=false:=by with_unfolding_all rfl):PT X (.Compare a [op,f] [b,c] pos) (Iw (CP r r' ta tb tc)):=by intro pins s g H Q I h;refine isTrue_chain (cT (l pins s g H _ I h) λv s1⟨x,H1,I1,r1,q1⟩=>test_link (cT (m pins s1 g H1 _ I1 q1) λu s2⟨y,H2,I2,r2,q2⟩=>cT (ho pins s2 g H2 x y v u _ I2 r1 r2 q2) λd s3⟨z,H3,I3,r3,k,e,q3⟩=>?_)) n;subst e;cases r3;refine wpAny_truthy_bool ?_;cases k with|false=>obtain⟨B,o,p⟩:=q3;cases o;exact ite_ff ⟨H3,I3,p⟩|true=>refine ite_tt (test_last (cT (hc pins s3 g H3 _ I3 q3) λq s4⟨t,H4,I4,r4,q4⟩=>cT (j pins s4 g H4 y t u q _ I4 r2 r4 q4) λd' s5⟨C,H5,I5,r5,k2,e2,q5⟩=>?_));subst e2;cases r5;exact wpAny_truthy_bool ⟨H5,I5,q5⟩
theorem qM:(sizeLine:Nat)<2^63:=by rw[sizeLine_eq];decide
theorem uW:dZ X (binaryOp .Add) (λx y H Q=>∃i j,x=.str i/\y=.str j/\i.length+j.length<=sizeLine/\Q (.str (i++j)) H):=by intro pins s k H x y v u Q I e f h;obtain⟨i,j,rfl,rfl,g,q⟩:=h;obtain⟨t,rfl⟩:=e;obtain⟨t',rfl⟩:=f;exact add_str (λt' l=>⟨.str (i++j),H,I.tok _,⟨_,rfl⟩,q⟩) g
theorem vals1{x:V}(r:Vals [x] us):∃u,us=[u]/\RelV x u:=by cases r with|cons e f=>cases f;exact⟨_,rfl,e⟩
theorem vals2{x y:V}(r:Vals [x,y] us):∃u e,us=[u,e]/\RelV x u/\RelV y e:=by cases r with|cons f g=>cases g with|cons j k=>cases k;exact⟨_,_,rfl,f,j⟩
theorem Ar:dm X (.builtin "abs") (λxs H Q=>∃i,xs=[.int i]/\Q (.int (if i<0 then-i else i)) H):=by intro pins s e H xs us Q I r h;obtain⟨i,rfl,q⟩:=h;obtain⟨u,rfl,t,rfl⟩:=vals1 r;exact call_abs_int λu f=>⟨.int (if i<0 then-i else i),H,I.tok _,⟨_,rfl⟩,q⟩
theorem yD(hc:X.calm=true):dm X (.builtin "max") (λxs H Q=>∃i j,xs=[.int i,.int j]/\Q (.int (if j>i then j else i)) H):=by
 intro pins s f H xs us Q I r h;obtain⟨i,j,rfl,q⟩:=h;obtain⟨u,g,rfl,⟨t,rfl⟩,⟨t',rfl⟩⟩:=vals2 r;refine max_two_ints (I.ok.hd hc) λh' l k=>⟨_,H,I.kept k,?_,q⟩;by_cases e:j>i;.rw[if_pos e,if_pos e];exact⟨_,rfl⟩
 .rw[if_neg e,if_neg e];exact⟨_,rfl⟩
theorem yp(hc:X.calm=true):dm X (.builtin "min") (λxs H Q=>∃i j,xs=[.int i,.int j]/\Q (.int (if j<i then j else i)) H):=by
 intro pins s f H xs us Q I r h;obtain⟨i,j,rfl,q⟩:=h;obtain⟨u,g,rfl,⟨t,rfl⟩,⟨t',rfl⟩⟩:=vals2 r;refine min_two_ints (I.ok.hd hc) λh' l k=>⟨_,H,I.kept k,?_,q⟩;by_cases e:j<i;.rw[if_pos e,if_pos e];exact⟨_,rfl⟩
 .rw[if_neg e,if_neg e];exact⟨_,rfl⟩
end
structure iI(k:Nat)(A:Around):Prop where
 hd:A.handled=none
 dp:A.depth+3*k+5<recursionLimit
 un:A.units+16*k+200<cLine
theorem iI.deeper{k:Nat}{A:Around}(r:iI (k+1) A)(env:Env):iI k (A.deeper env):=⟨r.hd,by have:=r.dp;show A.depth+1+3*k+5<_;omega,by have:=r.un;show A.units+3+16*k+200<_;omega⟩
theorem iI.depth{k:Nat}{A:Around}(r:iI k A):A.depth<recursionLimit:=by have:=r.dp;omega
def XD:TA:=λ_ H Q=>Q [] H
def Qe(b:TE)(c:TA):TA:=λa H Q=>b a H λx e=>c a e λxs f=>Q (x::xs) f
section
variable{X:Cx}{e:Expr}{es:List Expr}{te:TE}{t:TA}{pos:Pos}
theorem iD:PA X [] XD:=λ_ _ _ _ H Q I h=>Calls.spliced_nil ⟨[],H,I,.nil,h⟩
theorem dq(b:PE X e te)(hr:PA X es t)(hs:starEach (e::es) X.env=(false,eval e X.env)::starEach es X.env:=by rfl):PA X (e::es) (Qe te t):=by intro pos pins s a H Q I h;rw[hs];show wpAny _ _ (spliced ((false,eval e X.env)::backTo pos (starEach es X.env))) _ _ s;refine Calls.spliced_cons (cT (b pins s a H _ I h) λu s1⟨x,H1,I1,r1,q1⟩=>?_);exact cT (hr pos pins s1 a H1 _ I1 q1) λus s2⟨xs,H2,I2,r2,q2⟩=>⟨x::xs,H2,I2,.cons r1 r2,q2⟩
def Wq(t:TA):TE:=λb H Q=>t b H λxs a=>xs.length<=sizeLine/\∀p,a p=none->Q (.ref p) (upd a p (.tup xs))
def Wr(t:TA):TE:=λb H Q=>t b H λxs a=>xs.length<=sizeLine/\∀p,a p=none->Q (.ref p) (upd a p (.lst xs))
theorem K9{x1}(h:PA X es t):PE X (.Tuple es x1 pos) (Wq t):=by intro pins s a H Q I c;refine wpAny_Tuple_spliced (cT (h pos pins s a H _ I c) λus s1⟨xs,H1,I1,r,z,q⟩=>⟨by rw[<-r.length];exact z,?_⟩);have f:H1 s1.heap.objs.size=none:=I1.hok.fresh (cH);refine⟨.ref s1.heap.objs.size,upd H1 s1.heap.objs.size (.tup xs),I1.laid (t':=s1.toks) (λb u e=>iG e) (cH) ?_,rfl,q _ f⟩;exact⟨z,us,r,⟨_,get?_push_size _ rfl,rfl,_,rfl⟩⟩
theorem Ku(h:PA X es t):PE X (.List es pos) (Wr t):=by intro pins s a H Q I c;refine wpAny_List_spliced (cT (h pos pins s a H _ I c) λus s1⟨xs,H1,I1,r,z,q⟩=>⟨by rw[<-r.length];exact z,?_⟩);have f:H1 s1.heap.objs.size=none:=I1.hok.fresh (cH);refine⟨.ref s1.heap.objs.size,upd H1 s1.heap.objs.size (.lst xs),I1.laid (t':=s1.toks) (λb u e=>iG e) (cH) ?_,rfl,q _ f⟩;exact⟨z,us,0,r,get?_push_size _ rfl⟩
end
abbrev Sp:=List V->Hp->VK->XK->Prop
abbrev BL:=List Env->Hp->Shared->XK->Value->Shared->Prop
structure Gm(P:Program)(w:World)(K:PySem.W.Frag)(mg:Str->Option Value)(base:Heap)(A:Around)(outer:List Env)(s:Shared)(H:Hp):Prop where
 frames:A.frames=some outer
 mod:Mod K mg base
 bs:∀b o,base.get? b=some o->s.heap.get? b=some o/\H b=none
 Jj:base.objs.size<=s.heap.objs.size
 mW:s.heap.FunFrames base outer
 Pz:∀b∈frs outer,H b=none
 hok:j6 P w H s.heap
 bare:AllBare s.gens
def CE(outer:List Env)(P:Program)(w:World)(H:Hp)(s:Shared)(Q:VK)(u:Value)(a:Shared):Prop:=∃v b,a.os=s.os/\AllBare a.gens/\Un (frs outer) [] H b s.heap a.heap/\j6 P w b a.heap/\RelV v u/\Q v b
def CR(CX:BL)(outer:List Env)(P:Program)(w:World)(H:Hp)(s:Shared)(Q:VK)(E:XK)(r:Result)(a:Shared):Prop:=match r with|.ok (.ret u)=>CE outer P w H s Q u a|.ok _=>False|.error e=>CX outer H s E e a
structure lz(P:Program)(w:World)(K:PySem.W.Frag)(mg:Str->Option Value)(base:Heap)(CX:BL)(k:Nat)(f:Addr)(fd:FuncData)(ps:List Str)(sp:Sp):Prop where
 len:∀vs H Q E,sp vs H Q E->vs.length=ps.length
 run:∀(A:Around)(outer:List Env)(s:Shared)(H:Hp)(args:Args)(us:List Value)(vs:List V)(Q:VK)(E:XK),iI k A->Gm P w K mg base A outer s H->BindsTo s fd args (ps.zip us)->Vals vs us->sp vs H Q E->codeAny (model P w) A (.call (.ref f) args) (CR CX outer P w H s Q E) s
section
variable{X:Cx}{pins:List (Addr×Obj)}{σ:St}{H:Hp}{s s':Shared}
theorem Inv.env0(I:Inv X pins σ H s):Gm X.prog X.w X.K X.mg X.base X.A X.stack s H:=⟨I.ok.frames,I.ok.mod,I.bs,le_trans I.ok.Jj I.sz,I.stack,I.yh,I.hok,I.bare⟩
theorem Inv.after{Q:VK}{u:Value}(I:Inv X pins σ H s)(h:CE X.stack X.prog X.w H s Q u s'):EP X pins σ Q u s':=by obtain⟨v,c,os,bare,un,hok,r,q⟩:=h;obtain⟨e,g,d,t,a⟩:=s';obtain rfl:a=s.os:=os;exact⟨v,c,I.call (h':=e) (g':=g) (d':=d) (t':=t) (ch:=[]) un hok bare (λb z=>absurd z (by simp)),r,q⟩
end
def Qx(sp:Sp)(a:List V)(E:XK)(t:TA):TE:=λb H Q=>t b H λvs c=>sp (vs++a) c Q E
def Binds(K:PySem.W.Frag)(fd:FuncData)(ps:List Str)(a:List Value):Prop:=∀(s:Shared)(us:List Value),K.In s.heap->(us++a).length=ps.length->BindsTo s fd ⟨us,[]⟩ (ps.zip (us++a))
theorem Binds.all{fd:FuncData}{ps:List Str}(h:∀us:List Value,us.length=ps.length->bindArgs fd ⟨us,[]⟩=pure (ps.zip us)):Binds K fd ps []:=λs us _ a=>by rw[append_nil]at a ⊢;exact .of_eq (h us a)
def Passes(CX:BL)(X:Cx)(E:XK):Prop:=∀(pins:List (Addr×Obj))(b:St)(H:Hp)(s:Shared)(e:Value)(a:Shared),Inv X pins b H s->CX X.stack H s E e a->X.xe e a
section
variable{X:Cx}{CX:BL}{k:Nat}{f C:Addr}{fd:FuncData}{ps:List Str}{sp:Sp}{Jl:List V}{ds:List Value}{E:XK}{x m:Str}{p pos apos:Pos}{e o:Expr}{es:List Expr}{ta:TE}{t:TA}
theorem JC{b:St}{Q:VK}{vs:List V}(F:lz X.prog X.w X.K X.mg X.base CX k f fd ps sp)(hr:iI k X.A)(g:Binds X.K fd ps ds)(hd:Vals Jl ds)(j:Passes CX X E)(I:Inv X pins b H s)(r:Vals vs us)(h:sp (vs++Jl) H Q E):wpAny (model X.prog X.w) X.A (call (.ref f) us) (EP X pins b Q) X.xe s:=by
 have c:Vals (vs++Jl) (us++ds):=r.append hd;have l:(us++ds).length=ps.length:=by rw[<-c.length];exact F.len _ _ _ _ h
 refine wpAny_call (codeAny_mono (F.run X.A X.stack s H ⟨us,[]⟩ (us++ds) (vs++Jl) Q E hr I.env0 (g s us I.Km l) c h) λr n a=>?_);cases r with|error e=>exact j pins b H s e n I a|ok q=>cases q with|ret u=>exact I.after a|next=>exact False.elim a|brk=>exact False.elim a|cont=>exact False.elim a
theorem Hc(F:lz X.prog X.w X.K X.mg X.base CX k f fd ps sp)(hr:iI k X.A)(b:Gl X x)(c:X.mg x=some (.ref f))(g:keepIn X.K (.ref f)=true)(j:Binds X.K fd ps ds)(hd:Vals Jl ds)(l:Passes CX X E)(n:PA X (e::es) t)(a:(x==("__debug__":Str))=false:=by decide)(he:starEach (e::es) X.env=(false,eval e X.env)::starEach es X.env:=by rfl)(hpl:(backTo pos (starEach es X.env)).any (·.1)=false:=by rfl):PE X (.Call (.Name x p) (e::es) [] pos) (Qx sp Jl E t):=by intro pins s u H Q I h;refine wpAny_Call_Name_kw (GJ I b c ?_ a);refine PySem.W.callWith_K (h₀:=X.base) I.ok.mod.Yz g (cT (n pos pins s u H _ I h) λus s1⟨vs,H1,I1,r,q⟩=>⟨I1.Km,?_⟩) he hpl;exact JC F hr j hd l I1 r q
end
structure aY(N P:List Str)(sc:Scope):Prop where
 kind:sc.kind=.function
 co:sc.isCoroutine=false
 gen:sc.isGenerator=false
 nd:N.Nodup
 pre:N.take P.length=P
 par:∀x∈P,sc.names.lookup x=some .local\/sc.names.lookup x=some .cell
 M7:∀y∈sc.names,y.2≠.free
theorem qu{kindOf:Str->Option NameKind}{x:Str}:∀{binds:List (Str×Value)}{m:Str->Option Value},(∀v,(x,v)∉binds)->bindL kindOf binds m x=m x
 |[],_,_=>rfl|(n,v)::r,m,h=>by
   unfold bindL;rw[qu λw hw=>h w (mem_cons_of_mem _ hw)];split
   . have:x≠n:=by rintro rfl;exact h v mem_cons_self
     simp[this]
   .rfl
theorem pZ{kindOf:Str->Option NameKind}{x:Str}:∀{binds:List (Str×Value)}{m:Str->Option Value},(∀v,(x,v)∉binds)->bindC kindOf binds m x=m x
 |[],_,_=>rfl|(n,v)::r,m,h=>by
   unfold bindC;rw[pZ λw hw=>h w (mem_cons_of_mem _ hw)];split;.rfl
   . have:x≠n:=by rintro rfl;exact h v mem_cons_self
     simp[this]
theorem qi{kindOf:Str->Option NameKind}{x:Str}{v:Value}:∀{P:List Str}{vs:List Value}{i:Nat}{m:Str->Option Value},P.Nodup->P[i]?=some x->vs[i]?=some v->kindOf x=some .local->bindL kindOf (P.zip vs) m x=some v|[],_,_,_,_,h,_,_=>by simp at h|_::_,[],_,_,_,_,h,_=>by simp at h|p::P,w::vs,0,m,nd,h1,a,b=>by simp at h1 a;subst h1;subst a;show bindL kindOf ((p,w)::P.zip vs) m p=_;unfold bindL;rw[qu λv c=>(nodup_cons.mp nd).1 (of_mem_zip c).1,if_pos b];simp|p::P,w::vs,i+1,m,nd,h1,a,b=>by show bindL kindOf ((p,w)::P.zip vs) m x=_;unfold bindL;exact qi (i:=i) (nodup_cons.mp nd).2 (by simpa using h1) (by simpa using a) b
theorem ql{kindOf:Str->Option NameKind}{x:Str}{v:Value}:∀{P:List Str}{vs:List Value}{i:Nat}{m:Str->Option Value},P.Nodup->P[i]?=some x->vs[i]?=some v->kindOf x≠some .local->bindC kindOf (P.zip vs) m x=some v|[],_,_,_,_,h,_,_=>by simp at h|_::_,[],_,_,_,_,h,_=>by simp at h|p::P,w::vs,0,m,nd,h1,a,b=>by simp at h1 a;subst h1;subst a;show bindC kindOf ((p,w)::P.zip vs) m p=_;unfold bindC;rw[pZ λv c=>(nodup_cons.mp nd).1 (of_mem_zip c).1,if_neg b];simp|p::P,w::vs,i+1,m,nd,h1,a,b=>by show bindC kindOf ((p,w)::P.zip vs) m x=_;unfold bindC;exact ql (i:=i) (nodup_cons.mp nd).2 (by simpa using h1) (by simpa using a) b
noncomputable def start(N:List Str)(vs:List V):St:=vs.map some++replicate (N.length-vs.length) none
noncomputable def vG(CX:BL)(P:Program)(w:World)(K:PySem.W.Frag)(mg:Str->Option Value)(base:Heap)(N:List Str)(qual:Str)(scope:Scope)(f:Addr)(b:Value)(A:Around)(outer:List Env)(s:Shared)(H:Hp)(E:XK):Cx where prog:=P;w:=w;K:=K;mg:=mg;base:=base;A:=A.deeper (envOfC qual scope s.heap.objs.size f b);N:=N;s₀:=s;H₀:=H;env:=envOfC qual scope s.heap.objs.size f b;outer:=outer;stack:=envOfC qual scope s.heap.objs.size f b::outer;ex:=[];calm:=true;fn:=λ_=>true;pn:=[];xe:=λe c=>wpAny (model P w) (A.deeper (envOfC qual scope s.heap.objs.size f b)) (leaving (envOfC qual scope s.heap.objs.size f b) e) (λ_ a=>CX outer H s E e a) (λg a=>CX outer H s E g a) c
theorem sy{a:Scope}{n:Nat}{x:Str}(h:a.names.lookup x=some .cell):∃c,(cellsFrom n a.names []).lookup x=some c:=by have q:=PySem.W.cellsFrom_some a.names n [] (.inl h);exact Option.isSome_iff_exists.mp q
theorem zA{CX:BL}{P:Program}{mg:Str->Option Value}{base:Heap}{N ps:List Str}{qual:Str}{scope:Scope}{f:Addr}{o:Value}{outer:List Env}{s1:Shared}{E:XK}{vs:List V}(S:aY N ps scope)(hd:A.handled=none)(j:Gm P w K mg base A outer s H)(I:vs.length=ps.length)(r:Vals vs us)(x:InCallC s s.heap.objs.size (bindL (envOfC qual scope s.heap.objs.size f o).kindOf (ps.zip us) λ_=>none) (cellsFrom (s.heap.objs.size+1) scope.names []) (bindC (envOfC qual scope s.heap.objs.size f o).kindOf (ps.zip us) λ_=>none) s1):Inv (vG CX P w K mg base N qual scope f o A outer s H E) [] (start N vs) H s1:=by
 have hpl:ps.length<=N.length:=by have:=congrArg List.length S.pre;rw[length_take]at this;omega
 obtain⟨h1,J,rfl,B⟩:=x.done;have t:∀b:Addr,b∉(vG CX P w K mg base N qual scope f o A outer s H E).ex:=λb z=>absurd (show b∈([]:List Addr)from z) (by simp);refine⟨⟨j.mod,S.kind,rfl,rfl,cH,λy z c h1 g=>?_,λy hy=>?_,λy c _ h=>?_,λ_=>hd,Around.frames_deeper j.frames,.inr ⟨rfl,rfl⟩,λb z=>absurd z (t b),j.bs,j.Jj,λb _ _=>t b,λb z=>absurd z (t b),j.mW,j.Pz⟩,rfl,j.bare,Un.kept B,⟨_,x.toInCall.ns,λi y v h1 g L=>?_⟩,λy c h=>⟨_,x.cell y c h⟩,j.hok.fresh (cH),λy c h=>?_,λp l=>absurd (show p∈([]:List (Addr×Obj))from l) (by simp),j.hok.kept B,?_⟩;.exact name_of_addr x.apart (PySem.mem_of_lookup h1) (PySem.mem_of_lookup g)
 . have hy:scope.names.lookup y=some .cell\/scope.names.lookup y=some .free:=hy;rcases hy with hy|hy;.exact sy hy
   .exact absurd rfl (S.M7 _ (PySem.mem_of_lookup hy))
 .exact le_of_lt (x.above y c (PySem.mem_of_lookup h))
 . have hi:i<vs.length:=by
    unfold start at g;by_cases hi:i<vs.length;.exact hi
    .rw[List.getElem?_append_right (by simpa using hi)]at g;rw[List.getElem?_replicate]at g;split at g<;>cases g
   have F:vs[i]?=some v:=by unfold start at g;rw[getElem?_append_left (by simpa using hi),getElem?_map]at g;cases e:vs[i]?with|none=>rw[e]at g;cases g|some a=>rw[e]at g;cases g;rfl
   obtain⟨u,C,G⟩:=r.get F;have l:ps[i]?=some y:=by rw[<-S.pre,List.getElem?_take_of_lt (by omega)];exact h1
   have m:ps.Nodup:=by rw[<-S.pre];exact S.nd.sublist (List.take_sublist _ _)
   refine⟨u,G,?_⟩;rcases S.par y (mem_of_getElem? l)with k|k;.exact .inl ⟨k,qi m l C k⟩
   .obtain⟨c,e⟩:=sy (n:=s.heap.objs.size+1) k;refine .inr ⟨.inl k,c,e,?_⟩;have q:=x.cell y c e;rw[ql m l C (by show scope.names.lookup y≠_;rw[k];decide)]at q;exact q
 .exact j.hok.fresh (le_of_lt (x.above y c (PySem.mem_of_lookup h)))
 .unfold start;show _=N.length;rw[length_append,length_map,List.length_replicate];omega
theorem Qp{CX:BL}{P:Program}{w:World}{K:PySem.W.Frag}{mg:Str->Option Value}{base:Heap}{k:Nat}{f:Addr}{name qual:Str}{a:Arguments}{body:List Stmt}{scope:Scope}{L kV m O cdv ct Z:Value}{U od:Option Addr}{B:Array (Option Value)}{N ps:List Str}{sp:Sp}(lk:K.lookup f=some ⟨Z,od,.func (PySem.W.fnOf name qual a body scope L kV m O U cdv ct),B⟩)(C:PySem.W.codeIn K cdv qual=true)(S:aY N ps scope)(len:∀vs H Q E,sp vs H Q E->vs.length=ps.length)(j:∀(A:Around)(outer:List Env)(s:Shared)(H:Hp)(vs:List V)(Q:VK)(E:XK),iI k (A.deeper (envOfC qual scope s.heap.objs.size f cdv))->sp vs H Q E->∃t,yc (vG CX P w K mg base N qual scope f cdv A outer s H E) body t/\t {nx:=λ_ g=>Q .non g,rt:=Q} (start N vs) H):lz P w K mg base CX (k+1) f (PySem.W.fnOf name qual a body scope L kV m O U cdv ct) ps sp:=by
 refine⟨len,λA outer s H args us vs Q E hr p hb r z=>?_⟩;have hl:=len _ _ _ _ z;have Y:K.In s.heap:=p.mod.Yz.keeps λb o e=>(p.bs b o e).1;have lim:s.heap.NoLimit:=p.mod.nolimit.keeps λb o e=>(p.bs b o e).1;have l:∀y∈ps.zip us,scope.names.lookup y.1=some .local\/(scope.names.lookup y.1=some .cell/\((cellsFrom (s.heap.objs.size+1) scope.names []).lookup y.1).isSome=true):=λ⟨n,v⟩hy=>by
  rcases S.par n (of_mem_zip hy).1 with q|q;.exact .inl q
  .exact .inr ⟨q,PySem.W.cellsFrom_some _ _ _ (.inl q)⟩
 refine codeAny_call_function hr.depth (Y _ _ lk) rfl S.co S.gen rfl (PySem.W.codeRec_of Y C) (hb _ _ _ _ ?_);refine wpAny_newFunctionEnv_cells S.kind l λenv he s1 x=>?_;subst he;refine⟨lim.keeps x.toInCall.keep,codeAny_func ?_⟩;obtain⟨t,ht,hq⟩:=j A outer s H vs Q E (hr.deeper _) z;have I:Inv (vG CX P w K mg base N qual scope f cdv A outer s H E) [] (start N vs) H s1:=zA S hr.hd p hl r x;refine wpAny_mono (ht [] s1 (start N vs) H _ I hq) (λfl F hs=>?_) λe F hs=>hs;have fin:∀{c:St}{g:Hp}{v:V}{u:Value},Inv (vG CX P w K mg base N qual scope f cdv A outer s H E) [] c g F->RelV v u->Q v g->CE outer P w H s Q u F:=λ{c g v u}J G q=>⟨v,g,J.os,J.bare,J.base,J.hok,G,q⟩;cases fl with|ret u=>obtain⟨v,c,g,J,G,q⟩:=hs;exact fin J G q|next=>obtain⟨c,g,J,q⟩:=hs;exact fin (v:=V.non) (u:=Value.none) J rfl q|brk=>obtain⟨_,_,_,q⟩:=hs;exact False.elim q|cont=>obtain⟨_,_,_,q⟩:=hs;exact False.elim q
section
variable{X:Cx}{x:Str}{p pos:Pos}{e:Expr}{es:List Expr}{t:TA}{id T:String}{r:List V->Hp->VK->Prop}
def U7(r:List V->Hp->VK->Prop)(t:TA):TE:=λa H Q=>t a H λvs b=>r vs b Q
theorem dW(hc:dm X (.builtin id) r)(c:Gl X x)(f:X.mg x=none)(g:bootBuiltins x=some (.builtin id))(j:PA X (e::es) t)(k:x≠"__name__":=by decide)(a:(x==("__debug__":Str))=false:=by decide)(he:starEach (e::es) X.env=(false,eval e X.env)::starEach es X.env:=by rfl)(hpl:(backTo pos (starEach es X.env)).any (·.1)=false:=by rfl):PE X (.Call (.Name x p) (e::es) [] pos) (U7 r t):=by intro pins s b H Q I h;refine wpAny_Call_Name_kw (jt I c f g ?_ k a);exact PyProof.Rows.callWith_builtin1 (cT (j pos pins s b H _ I h) λus s1⟨vs,H1,I1,r1,q1⟩=>hc pins s1 b H1 vs us Q I1 r1 q1) he hpl
theorem kh(hc:dm X (.type T) r)(c:Gl X x)(f:X.mg x=none)(g:bootBuiltins x=some (.type T))(j:PA X (e::es) t)(k:x≠"__name__":=by decide)(a:(x==("__debug__":Str))=false:=by decide)(he:starEach (e::es) X.env=(false,eval e X.env)::starEach es X.env:=by rfl)(hpl:(backTo pos (starEach es X.env)).any (·.1)=false:=by rfl):PE X (.Call (.Name x p) (e::es) [] pos) (U7 r t):=by intro pins s b H Q I h;refine wpAny_Call_Name_kw (jt I c f g ?_ k a);exact PyProof.Rows.callWith_type1 (cT (j pos pins s b H _ I h) λus s1⟨vs,H1,I1,r1,q1⟩=>hc pins s1 b H1 vs us Q I1 r1 q1) he hpl
end
end L2
namespace HT
open PySem PyProof.Rows
section
variable{prog:Program}{w:World}{A:Around}{E:Value->Shared->Prop}{s:Shared}
theorem Em{t b:Addr}{vs a:List Value}{Q:Value->Shared->Prop}(p:IsTup s.heap t vs.toArray)(q:IsTup s.heap b a.toArray)(j:vs≠[])(h1:a=[]->Q (.ref t) s)(r:a≠[]->Q (.ref s.heap.objs.size) {s with heap:=s.heap.push {cls:=.type "tuple",data:=.seq (vs++a).toArray}})(hsz:vs.length+a.length<=sizeLine):wpAny (model prog w) A (binaryOp .Add (.ref t) (.ref b)) Q E s:=by
 obtain⟨⟨cls,k,data,l⟩,ho,hc,n,hd⟩:=id p;obtain⟨⟨m,f,data2,g⟩,c,h,o,i⟩:=id q;simp only at hc hd h i;subst hc hd h i;have e:vs.toArray++a.toArray=(vs++a).toArray:=by simp
 by_cases hw:a=[];.exact concat_meets ⟨_,ho,rfl⟩ ⟨_,c,rfl⟩ noFill_tuple_add seq_tuple_add slot_tuple_add entry_tuple_add (args_tuple_add_2 _ _) (tuple_addW1 t b vs.toArray a.toArray n o k f l g (by simpa using j) (by simp[hw])) ⟨ho,c,h1 hw⟩
 .refine concat_meets ⟨_,ho,rfl⟩ ⟨_,c,rfl⟩ noFill_tuple_add seq_tuple_add slot_tuple_add entry_tuple_add (args_tuple_add_2 _ _) (tuple_addW2 t b vs.toArray a.toArray n o k f l g (by simpa using j) (by simpa using hw) (by rw[size_toArray,size_toArray];exact hsz)) ⟨ho,c,?_⟩;rw[e];exact r hw
noncomputable def cM(n d:Nat):Option Int->Nat|none=>d|some v=>if v<0 then(v+(n:Int)).toNat else min v.toNat n
theorem Jq(n d:Nat)(hd:d<=n)(o:Option Int):cM n d o<=n:=by cases o with|none=>exact hd|some v=>
   show(if v<0 then(v+(n:Int)).toNat else min v.toNat n)<=n;by_cases a:v<0;.rw[if_pos a];omega
   .rw[if_neg a];exact Nat.min_le_right _ _
theorem xn(v:Int)(n d:Nat):(if v<0 then max (v+(n:Int)) 0 else min v (n:Int))=((cM n d (some v):Nat):Int):=by
 show(if v<0 then max (v+(n:Int)) 0 else min v (n:Int))=(((if v<0 then(v+(n:Int)).toNat else min v.toNat n):Nat):Int);by_cases a:v<0;.simp only[if_pos a];omega
 .simp only[if_neg a];omega
theorem vP(lo hi:Option Int)(n:Nat):sliceAdjust lo hi 1 (n:Int)=(((cM n 0 lo:Nat):Int),((cM n n hi:Nat):Int)):=by
 have h1:¬((1:Int)<0):=by omega
 unfold sliceAdjust;simp only[h1,if_false];refine Prod.ext ?_ ?_;.cases lo with|none=>rfl|some v=>exact xn v n 0
 .cases hi with|none=>rfl|some v=>exact xn v n n
theorem vB(i j:Nat):slicePlaces (i:Int) (j:Int) 1=j-i:=by
 unfold slicePlaces;have h1:(1:Int)>0:=by omega
 simp only[h1,if_true,Int.ediv_one];split<;>omega
theorem oY{v:Value}{o:Option Int}{Q:Option Int->Shared->Prop}(p:IsPart v o)(h:Q o s):wpAny (model prog w) A (Builtin.Slice.slicePartIndex v) Q E s:=by cases p with|none=>exact slicePart_none h|int i t=>exact slicePart_int h
theorem gk{e:Addr}{vl c:Value}{lo hi:Option Int}{n:Nat}{Q:Int×Int×Nat->Shared->Prop}(hs:s.heap.IsSliceOf e vl c .none)(f:IsPart vl lo)(g:IsPart c hi)(h:Q (((cM n 0 lo:Nat):Int),1,cM n n hi-cM n 0 lo) s):wpAny (model prog w) A (sliceApplied (.ref e) (pure (n:Int))) Q E s:=by obtain⟨os,a,i,b⟩:=id hs;unfold sliceApplied Builtin.Slice.sliceFields;refine wpAny_bind (wpAny_bind (wpAny_field a b (x:=vl) rfl (wpAny_bind (wpAny_field a b (x:=c) rfl (wpAny_bind (wpAny_field a b (x:=.none) rfl (wpAny_pure ?_)))))));refine wpAny_bind (slicePart_none ?_);show wpAny _ _ (if((1:Int)==0)=true then _ else _) _ _ s;rw[if_neg (by decide)];refine wpAny_bind (oY f (wpAny_bind (oY g (wpAny_bind (wpAny_pure ?_)))));show wpAny _ _ (match sliceAdjust lo hi 1 (n:Int)with|(lo,hi)=>pure (lo,(1:Int),slicePlaces lo hi 1)) _ _ s;rw[vP lo hi n];show wpAny _ _ (pure (((cM n 0 lo:Nat):Int),(1:Int),slicePlaces ((cM n 0 lo:Nat):Int) ((cM n n hi:Nat):Int) 1)) _ _ s;rw[vB];exact wpAny_pure h
theorem BJ(xs:Array Value)(i k:Nat):((List.range k).filterMap λ(m:Nat)=>xs[((i:Int)+(m:Int)*1).toNat]?).toArray=((xs.toList.drop i).take k).toArray:=by
 have e:(λ(m:Nat)=>xs[((i:Int)+(m:Int)*1).toNat]?)=λm=>xs[i+m]?:=by
  funext m;have:((i:Int)+(m:Int)*1).toNat=i+m:=by omega
  rw[this]
 rw[e];have:=pick_run xs i k;rw[List.filterMap_map]at this;have a:((λx=>xs[x]?)∘ λx=>i+x)=λm=>xs[i+m]?:=rfl;rw[a]at this;rw[this]
theorem jR{t c:Addr}{items:Array Value}{vl j:Value}{lo hi:Option Int}{Q:Value->Shared->Prop}(a:IsTup s.heap t items)(hs:s.heap.IsSliceOf c vl j .none)(k:IsPart vl lo)(l:IsPart j hi)(hw:¬(cM items.size 0 lo=0/\cM items.size items.size hi=items.size))(h:Q (.ref s.heap.objs.size) {s with heap:=s.heap.push {cls:=.type "tuple",data:=.seq ((items.toList.drop (cM items.size 0 lo)).take (cM items.size items.size hi-cM items.size 0 lo)).toArray}})(hsz:items.size<=sizeLine):wpAny (model prog w) A (getItem (.ref t) (.ref c)) Q E s:=by
 have b:sizeOk (.seq ((items.toList.drop (cM items.size 0 lo)).take (cM items.size items.size hi-cM items.size 0 lo)).toArray):=by show((items.toList.drop (cM items.size 0 lo)).take (cM items.size items.size hi-cM items.size 0 lo)).toArray.size<=sizeLine;rw[size_toArray,length_take,length_drop,length_toList];omega
 have o:cM items.size items.size hi<=items.size:=Jq _ _ (cH) hi;obtain⟨os,e,f,n⟩:=id hs;have g:s.TypeIs (.ref c) "slice":=⟨os,e,f⟩;unfold getItem;try with_reducible refine wpAny_holding ?_
 first|refine wpAny_bind (wpAny_pure ?_)|skip
 refine wpAny_bind (wpAny_sequenceKey a.typeIs (by decide) ?_);refine wpAny_bind (wpAny_callSpecial?_slot (name:=Str.ofString "__getitem__") a.typeIs PyProof.Rows.slot_tuple_getitem (wpAny_call_entry PyProof.Rows.slot_tuple_getitem a.typeIs entry_tuple_getitem ?_ (args_tuple_getitem _ _)));show wpAny _ _ (tupleItemsOf (.ref t)>>=_) _ _ s;refine wpAny_bind (tupleItemsOf_ a ?_);refine wpAny_bind (wpAny_typeOf g ?_);rw[if_pos (by decide)];refine wpAny_bind (gk hs k l ?_);have i:¬((((cM items.size 0 lo:Nat):Int)==0&&(1:Int)==1&&(cM items.size items.size hi-cM items.size 0 lo)==items.size)=true):=by intro q;rw[and_eq_true,and_eq_true]at q;have p:((cM items.size 0 lo:Nat):Int)=0:=eq_of_beq q.1.1;have r:cM items.size items.size hi-cM items.size 0 lo=items.size:=eq_of_beq q.2;exact hw ⟨by omega,by omega⟩
 show wpAny _ _ (if(((cM items.size 0 lo:Nat):Int)==0&&(1:Int)==1&&(cM items.size items.size hi-cM items.size 0 lo)==items.size)=true then _ else _) _ _ s;rw[if_neg i,BJ];first|exact wpAny_bind (m:=tupleExact _) (wpAny_newObj_type (wpAny_pure ⟨_,rfl,wpAny_pure h⟩) b)|exact wpAny_bind (m:=tupleExact _) (wpAny_newObj_type (wpAny_bind (wpAny_pure (wpAny_pure ⟨_,rfl,wpAny_pure h⟩))) b)|exact wpAny_bind (wpAny_bind (m:=tupleExact _) (wpAny_newObj_type (wpAny_pure (wpAny_pure ⟨_,rfl,wpAny_pure h⟩)) b))|exact wpAny_bind (wpAny_bind (m:=tupleExact _) (wpAny_newObj_type (wpAny_pure ⟨_,rfl,wpAny_pure h⟩) b))
end
end HT
namespace L2
open PySem PySem.Spec PyProof.Rows
variable{n:Nat}
abbrev TO:=St->Hp->(Option Int->Hp->Prop)->Prop
def PO(X:Cx)(e:Option Expr)(t:TO):Prop:=∀(a:List (Addr × Obj))(s:Shared)(b:St)(H:Hp)(Q:Option Int->Hp->Prop),Inv X a b H s->t b H Q->wpAny (model X.prog X.w) X.A (evalPart e X.env) (λu f=>∃o c,Inv X a b c f/\IsPart u o/\Q o c) X.xe s
def Ha:TO:=λ_ H Q=>Q none H
def RK(t:TE):TO:=λa H Q=>t a H λx b=>∃i,x=.int i/\Q (some i) b
section
variable{X:Cx}{e:Expr}{te:TE}{lo hi:Option Expr}{tl th:TO}{pos p2:Pos}
theorem Hk:PO X none Ha:=by intro a s b H Q I h;rw[evalPart_none];exact wpAny_pure ⟨none,H,I,.none,h⟩
theorem G7(h:PE X e te):PO X (some e) (RK te):=by intro a s b H Q I hw;rw[evalPart_some];refine cT (h a s b H _ I hw) λu s1⟨x,H1,I1,r1,q1⟩=>?_;obtain⟨i,rfl,q⟩:=q1;obtain⟨t,rfl⟩:=r1;exact⟨some i,H1,I1,.int i t,q⟩
def Uk(X:Cx)(r:V->Option Int->Option Int->Hp->VK->Prop):Prop:=∀(a:List (Addr × Obj))(s:Shared)(b:St)(H:Hp)(x:V)(v vl c:Value)(lo hi:Option Int)(f:Addr)(Q:VK),Inv X a b H s->RelV x v->s.heap.IsSliceOf f vl c .none->IsPart vl lo->IsPart c hi->r x lo hi H Q->∃T id,typeLookup (.type T) "__getitem__"=pure (some (.builtin id))/\s.TypeIs v T/\wpAny (model X.prog X.w) X.A (getItem v (.ref f)) (EP X a b Q) X.xe s
def tSl(r:V->Option Int->Option Int->Hp->VK->Prop)(te:TE)(tl th:TO):TE:=λa H Q=>te a H λx b=>tl a b λl c=>th a c λu f=>r x l u f Q
theorem tG{r:V->Option Int->Option Int->Hp->VK->Prop}(hr:Uk X r)(he:PE X e te)(g:PO X lo tl)(i:PO X hi th):PE X (.Subscript e (.Slice lo hi none p2) pos) (tSl r te tl th):=by intro a s c H Q I h;refine Subscript_ (cT (he a s c H _ I h) λv s1⟨x,H1,I1,r1,q1⟩=>?_);refine wpAny_Slice (cT (g a s1 c H1 _ I1 q1) λvl s2⟨l,H2,I2,pl,q2⟩=>cT (i a s2 c H2 _ I2 q2) λf s3⟨u,H3,I3,pu,q3⟩=>?_);rw[evalPart_none];refine wpAny_pure ?_;have j:Inv X a c H3 {s3 with heap:=s3.heap.push {cls:=.type "slice",data:=.fields #[vl,f,.none]}}:=I3.kept (t':=s3.toks) λb p q=>iG q;obtain⟨T,id,k,m,o⟩:=hr a {s3 with heap:=s3.heap.push {cls:=.type "slice",data:=.fields #[vl,f,.none]}} c H3 x v vl f l u s3.heap.objs.size Q j r1 (Heap.IsSliceOf.new ..) pl pu q3;show wpAny (model X.prog X.w) X.A (subscriptTail e (.Slice lo hi none p2) v (.ref s3.heap.objs.size)) (EP X a c Q) X.xe {s3 with heap:=s3.heap.push {cls:=.type "slice",data:=.fields #[vl,f,.none]}};exact tail_any (ops:=[.ref s3.heap.objs.size,v]) m k o (by with_unfolding_all rfl)
noncomputable def uz(xs:List V)(lo hi:Option Int):List V:=(xs.drop (HT.cM xs.length 0 lo)).take (HT.cM xs.length xs.length hi-HT.cM xs.length 0 lo)
theorem lU(xs:List V)(lo hi:Option Int):(uz xs lo hi).length<=xs.length:=by unfold uz;rw[length_take,length_drop];omega
def Ys(K:PySem.W.Frag):V->Option Int->Option Int->Hp->VK->Prop:=λx lo hi H Q=>∃a xs,x=.ref a/\jc K H a xs/\¬(HT.cM xs.length 0 lo=0/\HT.cM xs.length xs.length hi=xs.length)/\∀p,H p=none->Q (.ref p) (upd H p (.tup (uz xs lo hi)))
theorem K5:Uk X (Ys X.K):=by
 intro g s t H x v vl u lo hi w Q I k hs l m h;obtain⟨a,xs,rfl,p,hw,q⟩:=h;cases k;obtain⟨f,r,i,j⟩:=I.tuple p;have c:f.toArray.size=xs.length:=by rw[size_toArray];exact r.length.symm
 refine⟨"tuple",_,PyProof.Rows.slot_tuple_getitem.lookup,i.typeIs,?_⟩;refine HT.jR i hs l m (by rw[c];exact hw) ?_ (by rw[c];exact j);rw[c];refine⟨.ref s.heap.objs.size,_,I.laid (t':=s.toks) (o:=.tup (uz xs lo hi)) (λb y q=>iG q) (cH) ?_,rfl,q _ (I.hok.fresh (cH))⟩;exact⟨le_trans (lU xs lo hi) j,_,(r.drop (HT.cM xs.length 0 lo)).take (HT.cM xs.length xs.length hi-HT.cM xs.length 0 lo),IsTup.new _ _⟩
def Sd(K:PySem.W.Frag):R2:=λx y H Q=>∃a b xs ys,x=.ref a/\y=.ref b/\jc K H a xs/\jc K H b ys/\xs≠[]/\xs.length+ys.length<=sizeLine/\(ys=[]->Q (.ref a) H)/\(ys≠[]->∀p,H p=none->Q (.ref p) (upd H p (.tup (xs++ys))))
theorem Vals.mD{xs:List V}{a:List Value}(r:Vals xs a):a=[]↔xs=[]:=by cases r with|nil=>simp|cons _ _=>simp
theorem Hj:dZ X (binaryOp .Add) (Sd X.K):=by intro g s E H x y v u Q I k l h;obtain⟨a,b,xs,ys,rfl,rfl,m,p,r,i,t,A⟩:=h;cases k;cases l;obtain⟨B,f,C,_⟩:=I.tuple m;obtain⟨j,c,p2,_⟩:=I.tuple p;refine HT.Em C p2 (λz=>r (f.mD.mp z)) (λz=>⟨.ref a,H,I,rfl,t (c.mD.mp z)⟩) (λz=>?_) (by rw[<-f.length,<-c.length];exact i);refine⟨.ref s.heap.objs.size,_,I.laid (t':=s.toks) (o:=.tup (xs++ys)) (λb F q=>iG q) (cH) ?_,rfl,A (λw=>z (c.mD.mpr w)) _ (I.hok.fresh (cH))⟩;exact⟨by rw[length_append];exact i,_,f.append c,IsTup.new _ _⟩
end
noncomputable def lW(n:Nat)(i:Int):Option Nat:=if 0<=i then(if i<n then some i.toNat else none)else if-(n:Int)<=i then some (i+n).toNat else none
noncomputable def NZ{a:Type}(xs:List a)(i:Int):Option a:=(lW xs.length i).bind λj=>xs[j]?
theorem xM{i:Int}{j:Nat}(h:lW n i=some j):seqIndex? i n=some j/\j<n/\-(n:Int)<=i/\i<n:=by
 unfold lW at h;by_cases h0:0<=i
 . rw[if_pos h0]at h;by_cases h1:i<n;.rw[if_pos h1]at h;have e:i.toNat=j:=Option.some.inj h;exact⟨by rw[seqIndex_of h0 h1,e],by omega,by omega,h1⟩
   .rw[if_neg h1]at h;cases h
 . rw[if_neg h0]at h;by_cases h1:-(n:Int)<=i;.rw[if_pos h1]at h;have e:(i+n).toNat=j:=Option.some.inj h;exact⟨by rw[seqIndex_neg (by omega) h1,e],by omega,h1,by omega⟩
   .rw[if_neg h1]at h;cases h
theorem xW{a:Type}{xs:List a}{i:Int}{v:a}(h:NZ xs i=some v):∃j,seqIndex? i xs.length=some j/\xs[j]?=some v/\j<xs.length/\-(xs.length:Int)<=i/\i<xs.length:=by unfold NZ at h;cases e:lW xs.length i with|none=>rw[e]at h;cases h|some j=>rw[e]at h;obtain⟨h1,b,c,f⟩:=xM e;exact⟨j,h1,h,b,c,f⟩
def wW(b:Expr):Prop:=∀o i,subscripted b false o i=operate [o,i] (getItem o i)
def Vi(X:Cx)(r:R2):Prop:=∀(b slice:Expr)(a:List (Addr × Obj))(s:Shared)(c:St)(H:Hp)(x y:V)(v u:Value)(Q:VK),Inv X a c H s->RelV x v->RelV y u->r x y H Q->subscripted slice false v u=operate [v,u] (getItem v u)->wpAny (model X.prog X.w) X.A (subscriptTail b slice v u) (EP X a c Q) X.xe s
def MtR(X:Cx)(id:String)(r:V->List V->Hp->VK->Prop):Prop:=∀(a:List (Addr × Obj))(s:Shared)(b:St)(H:Hp)(x:V)(xs:List V)(v:Value)(c:List Value)(Q:VK),Inv X a b H s->RelV x v->Vals xs c->r x xs H Q->wpAny (model X.prog X.w) X.A (call (.builtin id) (v::c)) (EP X a b Q) X.xe s
section
variable{X:Cx}{a b:Expr}{ta tb:TE}{pos:Pos}
theorem Rq{r:R2}(hr:Vi X r)(e:PE X a ta)(f:PE X b tb)(hs:wW b):PE X (.Subscript a b pos) (Mx r ta tb):=by intro c s g H Q I h;exact Subscript_ (Kq e f I h λv u s2 x y i j k l q=>hr a b c s2 g i x y v u Q j k l q (hs _ _))
def Wd(K:PySem.W.Frag):R2:=λx y H Q=>∃p xs i v,x=.ref p/\y=.int i/\gb K H p xs/\NZ xs i=some v/\Q v H
def Wm(K:PySem.W.Frag):R2:=λx y H Q=>∃p xs i v,x=.ref p/\y=.int i/\jc K H p xs/\NZ xs i=some v/\Q v H
theorem Gd:Vi X (Wd X.K):=by
 intro e slice c s l H x y v u Q I o A h hs;obtain⟨p,xs,i,z,rfl,rfl,B,he,q⟩:=h;cases o;obtain⟨t,rfl⟩:=A;obtain⟨f,r,g,M⟩:=I.list B;obtain⟨j,h1,C,N,E,F⟩:=xW he;obtain⟨w,m,G⟩:=r.get C;have J:=r.length;have O:=qM;have fin:EP X c l Q w s:=⟨z,H,I,G,q⟩;by_cases h0:0<=i
 . have k:i.toNat=j:=by rw[seqIndex_of h0 F]at h1;exact Option.some.inj h1
   exact item_listR g.isList h0 (by omega) (by rw[k];simpa using m) fin hs
 . have k:(i+(f.toArray.size:Int)).toNat=j:=by rw[seqIndex_neg (by omega) E]at h1;rw[size_toArray,<-J];exact Option.some.inj h1
   exact subscriptTail_builtinR (x:=w) g.isList.typeIs slot_list_getitem.lookup (wpAny_getItem_list_neg (Q:=λr L=>r=w/\EP X c l Q r L) g.isList (by omega) (by rw[size_toArray]<;>omega) (by omega) (by rw[k];simpa using m) ⟨rfl,fin⟩) hs
theorem JW:Vi X (Wm X.K):=by intro e slice c s f H x y v u Q I k l h hs;obtain⟨p,xs,i,z,rfl,rfl,m,he,q⟩:=h;cases k;obtain⟨t,rfl⟩:=l;obtain⟨o,r,g,G⟩:=I.tuple m;obtain⟨j,h1,A,J,L,M⟩:=xW he;obtain⟨w,B,C⟩:=r.get A;have E:=r.length;have N:=qM;have fin:EP X c f Q w s:=⟨z,H,I,C,q⟩;exact subscriptTail_builtinR (x:=w) g.typeIs slot_tuple_getitem.lookup (getItem_tuple (j:=j) (Q:=λr F=>r=w/\EP X c f Q r F) g (by omega) (by omega) (by rw[size_toArray,<-E];exact h1) (by simpa using B) ⟨rfl,fin⟩) hs
theorem vo(c:List Value)(n j:Nat)(u:Value):Obj.mapSeq (·.setIfInBounds j u) {cls:=.type "list",data:=.seq c.toArray n}={cls:=.type "list",data:=.seq (c.set j u).toArray n}:=by simp[Obj.mapSeq]
theorem Inv.lst{f:List (Addr×Obj)}{g:St}{H:Hp}{s:Shared}{p:Addr}{xs:List V}(I:Inv X f g H s)(h:H p=some (.lst xs)):∃(c:List Value)(n:Nat),Vals xs c/\s.heap.get? p=some {cls:=.type "list",data:=.seq c.toArray n}/\xs.length<=sizeLine:=by obtain⟨z,c,n,r,e⟩:=I.hok p _ h;exact⟨c,n,r,e,z⟩
theorem Inv.Mj{c:List (Addr×Obj)}{j:St}{H:Hp}{s:Shared}{p:Addr}{xs ys:List V}{g its':List Value}{n i:Nat}{f:Obj->Obj}(I:Inv X c j H s)(h:H p=some (.lst xs))(ho:s.heap.get? p=some {cls:=.type "list",data:=.seq g.toArray n})(k:f {cls:=.type "list",data:=.seq g.toArray n}={cls:=.type "list",data:=.seq its'.toArray i})(r:Vals ys its')(l:ys.length<=sizeLine)(t:Nat):Inv X c j (upd H p (.lst ys)) {s with heap:=s.heap.update p f,toks:=t}:=by
 have e:(s.heap.update p f).get? p=some {cls:=.type "list",data:=.seq its'.toArray i}:=by rw[Heap.get?_update_self f ho (by rw[k]<;>rfl),k]
 refine I.write (x:=p) (e:=p) (by rw[h];trivial) (.inl rfl) (λb u m q=>(Heap.get?_update_other _ _ (Ne.symm m)).trans q) ⟨_,e⟩ ?_;exact⟨l,its',i,r,e⟩
def Q7:V->V->V->Hp->(Hp->Prop)->Prop:=λo i v H Q=>∃p xs k j,o=.ref p/\i=.int k/\H p=some (.lst xs)/\lW xs.length k=some j/\Q (upd H p (.lst (xs.set j v)))
theorem set_list:R3 X Q7:=by
 intro c s y H o i v E F u Q I z ri A h;obtain⟨p,xs,k,j,rfl,rfl,l,B,q⟩:=h;cases z;obtain⟨t,rfl⟩:=ri;obtain⟨e,n,r,ho,C⟩:=I.lst l;obtain⟨h1,G,m,w⟩:=xM B;have f:=r.length;have J:=qM;have x:Inv X c y (upd H p (.lst (xs.set j v))) {s with heap:=s.heap.update p (Obj.mapSeq (·.setIfInBounds j u))}:=I.Mj l ho (vo e n j u) (r.set A j) (by rw[List.length_set];exact C) s.toks;by_cases h0:0<=k
 . have g:k.toNat=j:=by rw[seqIndex_of h0 w]at h1;exact Option.some.inj h1
   exact PySem.W.ki_setAt ho h0 (by omega) (by rw[size_toArray,<-f];exact w) (by rw[g];exact⟨_,x,q⟩)
 . have g:(k+(e.toArray.size:Int)).toNat=j:=by rw[seqIndex_neg (by omega) m]at h1;rw[size_toArray,<-f];exact Option.some.inj h1
   exact PySem.W.ki_setBack ho (by omega) (by rw[size_toArray,<-f];exact m) (by omega) (by rw[g];exact⟨_,x,q⟩)
theorem qU(lo hi:Option Int)(n:Nat):(sliceBounds lo hi none n).1=((HT.cM n 0 lo:Nat):Int)/\(sliceBounds lo hi none n).2.1=((HT.cM n n hi:Nat):Int)/\(sliceBounds lo hi none n).2.2=1:=by
 refine⟨?_,?_,rfl⟩;.cases lo with|none=>simp[sliceBounds,HT.cM]|some i=>
     simp only[sliceBounds,HT.cM,getD_none,show(1:Int)>0 by decide,if_true];by_cases h:i<0;.simp only[h,if_true]<;>omega
     .simp only[h,if_false]<;>omega
 .cases hi with|none=>simp[sliceBounds,HT.cM]|some i=>
     simp only[sliceBounds,HT.cM,getD_none,show(1:Int)>0 by decide,if_true];by_cases h:i<0;.simp only[h,if_true]<;>omega
     .simp only[h,if_false]<;>omega
theorem pJ(c:List Value)(lo hi:Option Int):slicePick c.toArray lo hi none=((c.drop (HT.cM c.length 0 lo)).take (HT.cM c.length c.length hi-HT.cM c.length 0 lo)).toArray:=by obtain⟨h1,e,f⟩:=qU lo hi c.toArray.size;unfold slicePick;rw[h1,e,f];simp only[sliceRange_one,pick_run,size_toArray]<;>rfl
def Ye(K:PySem.W.Frag):V->Option Int->Option Int->Hp->VK->Prop:=λx lo hi H Q=>∃a xs,x=.ref a/\gb K H a xs/\∀p,H p=none->Q (.ref p) (upd H p (.lst (uz xs lo hi)))
theorem Ey:Uk X (Ye X.K):=by intro e s p H x v vl t lo hi u Q I g hs i j h;obtain⟨a,xs,rfl,k,q⟩:=h;cases g;obtain⟨l,r,f,m⟩:=I.list k;have c:=r.length;refine⟨"list",_,slot_list_getitem.lookup,f.isList.typeIs,?_⟩;refine wpAny_getItem_list_slice f.isList hs i j .none (by simp) ?_ (by rw[size_toArray]<;>omega);rw[pJ,<-c];refine⟨.ref s.heap.objs.size,_,I.laid (t':=s.toks) (o:=.lst (uz xs lo hi)) (λb w q=>iG q) (cH) ?_,rfl,q _ (I.hok.fresh (cH))⟩;exact⟨le_trans (lU xs lo hi) m,_,0,(r.drop (HT.cM xs.length 0 lo)).take (HT.cM xs.length xs.length hi-HT.cM xs.length 0 lo),get?_push_size _ rfl⟩
theorem qN:dm X (.builtin "len") (λxs H Q=>∃p ys,xs=[.ref p]/\(gb X.K H p ys\/jc X.K H p ys)/\Q (.int ys.length) H):=by
 intro g s k H xs l Q I r h;obtain⟨p,ys,rfl,hq,q⟩:=h;obtain⟨u,rfl,i⟩:=vals1 r;cases i;have m:=qM;rcases hq with hq|hq;.obtain⟨e,r',f,j⟩:=I.list hq;have c:=r'.length;exact Calls.call_len_list f.isList (by simp only[size_toArray]<;>omega) ⟨.int ys.length,H,I.tok _,⟨s.toks+1,by rw[size_toArray,c]⟩,q⟩
 .obtain⟨e,r',f,j⟩:=I.tuple hq;have c:=r'.length;exact len_tuple f (by simp only[size_toArray]<;>omega) ⟨.int ys.length,H,I.tok _,⟨s.toks+1,by rw[size_toArray,c]⟩,q⟩
theorem qZ:dm X (.type "list") (λxs H Q=>∃p ys,xs=[.ref p]/\(gb X.K H p ys\/jc X.K H p ys)/\∀l,H l=none->Q (.ref l) (upd H l (.lst ys))):=by
 intro g s t H xs x Q I r h;obtain⟨p,ys,rfl,hq,q⟩:=h;obtain⟨u,rfl,v⟩:=vals1 r;cases v;have fin:∀(c:List Value),Vals ys c->ys.length<=sizeLine->∀(h':Heap)(f:Nat),(∀b m,s.heap.get? b=some m->h'.get? b=some m)->h'.get? s.heap.objs.size=some {cls:=.type "list",dict:=none,data:=.seq c.toArray f,slots:=#[]}->EP X g t Q (.ref s.heap.objs.size) {s with heap:=h'}:=λc r' i h' f kp e=>⟨.ref s.heap.objs.size,_,I.laid (t':=s.toks) kp (cH) (show bT X.prog X.w _ h' _ (.lst ys)from⟨i,c,f,r',e⟩),rfl,q _ (I.hok.fresh (cH))⟩;rcases hq with hq|hq;.obtain⟨c,r',k,i⟩:=I.list hq;have j:=r'.length;obtain⟨o,ho,hc,n,hd⟩:=k.isList;exact call_list_seq p (.inl rfl) ho hc hd (λh' f kp e=>fin c r' i h' f kp e) (by simp only[size_toArray]<;>omega)
 .obtain⟨c,r',k,i⟩:=I.tuple hq;have j:=r'.length;obtain⟨o,ho,hc,n,hd⟩:=k;exact call_list_seq p (.inr rfl) ho hc hd (λh' f kp e=>fin c r' i h' f kp e) (by simp only[size_toArray]<;>omega)
theorem ji:dm X (.type "tuple") (λxs H Q=>∃p ys,xs=[.ref p]/\((gb X.K H p ys/\∀l,H l=none->Q (.ref l) (upd H l (.tup ys)))\/(jc X.K H p ys/\Q (.ref p) H))):=by
 intro c s j H xs y Q I r h;obtain⟨p,ys,rfl,h⟩:=h;obtain⟨u,rfl,v⟩:=vals1 r;cases v;rcases h with⟨g,q⟩|⟨g,q⟩;.obtain⟨f,r',i,k⟩:=I.list g;have m:=r'.length;refine call_tuple_list i.isList (λh' kp=>?_) (by simp only[size_toArray]<;>omega);have t:Inv X c j H {s with heap:=h'}:=I.kept (t':=s.toks) kp;have x:Inv X c j (upd H h'.objs.size (.tup ys)) {s with heap:=h'.push {cls:=.type "tuple",data:=.seq f.toArray}}:=t.laid (t':=s.toks) (λb o e=>iG e) (cH) (show bT X.prog X.w _ _ _ (.tup ys)from⟨k,f,r',IsTup.new _ _⟩);exact⟨.ref h'.objs.size,_,x,rfl,q _ (t.hok.fresh (cH))⟩
 .obtain⟨f,r',i,k⟩:=I.tuple g;exact call_tuple_same i ⟨.ref p,H,I,rfl,q⟩
def ZJ(K:PySem.W.Frag)(T:String)(x:V)(H:Hp):Prop:=match x with|.str _=>T="str"|.int _=>T="int"|.ref p=>(T="list"/\∃xs,gb K H p xs)\/(T="tuple"/\∃o,K.lookup p=some o/\o.cls=.type "tuple"/\o.dict=none)\/(T="dict"/\((∃c,H p=some (.dK c))\/∃c,H p=some (.dT c)))\/(T="set"/\∃S n,H p=some (.set S n))|_=>False
theorem Lg{g:List (Addr×Obj)}{m:St}{H:Hp}{s:Shared}{T:String}{x:V}{v:Value}(I:Inv X g m H s)(r:RelV x v)(ty:ZJ X.K T x H):
 s.TypeIs v T/\∀a,v=.ref a->∃k,s.heap.get? a=some k/\k.dict=none:=by cases x with|str z=>obtain⟨t,rfl⟩:=r;cases(show T="str"from ty);exact⟨typeIs_str s z t,λ_ e=>nomatch e⟩|int i=>obtain⟨t,rfl⟩:=r;cases(show T="int"from ty);exact⟨typeIs_int s i t,λ_ e=>nomatch e⟩|ref p=>
   cases r;rcases ty with⟨rfl,xs,q⟩|⟨rfl,o,f,hc,hd⟩|⟨rfl,f⟩|⟨rfl,S,n,f⟩;.obtain⟨u,_,l,_⟩:=I.list q;refine⟨l.isList.typeIs,λa e=>?_⟩;cases e;obtain⟨o,n,e,c,hd,_⟩:=l;exact⟨o,e,hd⟩
   .refine⟨⟨o,I.Km p o f,hc⟩,λa e=>?_⟩;cases e;exact⟨o,I.Km _ o f,hd⟩
   . have z:∃o,s.heap.get? p=some o/\o.ExactDict:=by
      rcases f with⟨h,f⟩|⟨h,f⟩;.obtain⟨_,_,_,_,o,_,_,e,ex,_⟩:=I.hok p _ f;exact⟨o,e,ex⟩
      .obtain⟨_,_,_,_,o,_,_,e,ex,_⟩:=I.hok p _ f;exact⟨o,e,ex⟩
     obtain⟨o,e,ex⟩:=z;refine⟨⟨o,e,ex.1⟩,λa j=>?_⟩;cases j;exact⟨o,e,ex.2.1⟩
   .obtain⟨o,_,_,_,e,ex,_⟩:=I.hok p _ f;refine⟨⟨o,e,ex.1⟩,λa j=>?_⟩;cases j;exact⟨o,e,ex.2.1⟩|_=>exact False.elim ty
def tBM(K:PySem.W.Frag)(T:String)(r:V->List V->Hp->VK->Prop)(f:TE)(t:TA):TE:=λc H Q=>f c H λx e=>ZJ K T x e/\t c e λxs g=>r x xs g Q
variable{o e:Expr}{es:List Expr}{to:TE}{t:TA}{name:Str}{apos cpos:Pos}{T id:String}{r:V->List V->Hp->VK->Prop}
theorem QC(p:PlainAttrs T)(slot:Slot T name id)(k:typeOf (.builtin id)=pure (.type "method_descriptor"))(q:MtR X id r)(ho:PE X o to)(u:PA X (e::es) t)(g:attributeBase o name X.env (eval o X.env)=eval o X.env:=by rfl)(j:((backTo cpos (starEach (e::es) X.env)).all (λx=>!x.1)&&(backToKw cpos (keywordEach [] X.env)).all (λx=>x.1.isSome)&&decide ((e::es).length+([]:List Keyword).length+(if([]:List Keyword).isEmpty then 0 else 1)<30))=true:=by rfl)(i:(apos.endLine==cpos.line)=true:=by rfl)(hs:starEach (e::es) X.env=(false,eval e X.env)::starEach es X.env:=by rfl)(f:(backTo cpos (starEach es X.env)).any (·.1)=false:=by rfl):PE X (.Call (.Attribute o name apos) (e::es) [] cpos) (tBM X.K T r to t):=by intro c s l H Q I h;refine wpAny_Call_method_late g j i rfl (cT (ho c s l H _ I h) λv s1⟨x,H1,I1,r1,ty,q1⟩=>?_);obtain⟨h1,w⟩:=Lg I1 r1 ty;refine⟨T,id,p,slot,k,h1,w,?_⟩;have m:=u cpos c s1 l H1 _ I1 q1;rw[hs]at m ⊢;refine Calls.callWith_builtin (by show(false||(backTo cpos (starEach es X.env)).any (·.1))=false;rw[f]<;>rfl) (Calls.evalArgs_plain ?_);exact cT m λy s2⟨vs,H2,I2,r2,q2⟩=>q c s2 l H2 x vs v y Q I2 r1 r2 q2
end
def MtM(X:Cx)(id:String)(r:V->List V->Hp->VK->Prop):Prop:=∀(a:List (Addr × Obj))(s:Shared)(b:St)(H:Hp)(x:V)(xs:List V)(v:Value)(c:List Value)(Q:VK),Inv X a b H s->RelV x v->Vals xs c->r x xs H Q->wpAny (model X.prog X.w) X.A (call (.builtin id) (v::c)) (EP X a b Q) X.xe s
theorem Vals.one:∀{x:V}{a:List Value},Vals [x] a->∃u,a=[u]/\RelV x u|x,a,h=>by cases h with|cons r t=>cases t;exact⟨_,rfl,r⟩
theorem Vals.two:∀{x y:V}{a:List Value},Vals [x,y] a->∃u v,a=[u,v]/\RelV x u/\RelV y v|x,y,a,h=>by cases h with|cons r t=>cases t with|cons q z=>cases z;exact⟨_,_,rfl,r,q⟩
theorem Vals.zero:∀{a:List Value},Vals [] a->a=[]|_,.nil=>rfl
theorem Vals.rep{xs:List V}{a:List Value}(h:Vals xs a):∀k:Nat,Vals (replicate k xs).flatten (replicate k a).flatten|0=>.nil|k+1=>by rw[replicate_succ,replicate_succ,flatten_cons,flatten_cons];exact Vals.append h (Vals.rep h k)
theorem foldl_rep(a:List Value):∀(k:Nat)(acc:List Value),foldl (λx1 b=>x1++b) acc.toArray (replicate k a.toArray)=(acc++(replicate k a).flatten).toArray
 |0,acc=>by simp|k+1,acc=>by
   have e:acc.toArray++a.toArray=(acc++a).toArray:=by simp
   have c:(acc++a)++(replicate k a).flatten=acc++(replicate (k+1) a).flatten:=by rw[replicate_succ,flatten_cons,append_assoc]
   rw[<-c,<-foldl_rep a k (acc++a),<-e,replicate_succ,foldl_cons]
section
variable{X:Cx}{pins:List (Addr×Obj)}{σ:St}{H:Hp}{s:Shared}{l b:Addr}{xs ys zs:List V}
theorem Inv.V3{a its':List Value}{f:Array Value->Array Value}{t':Nat}(I:Inv X pins σ H s)(c:H l=some (.lst xs))(e:s.heap.get? l=some {cls:=.type "list",data:=.seq a.toArray n})(g:f a.toArray=its'.toArray)(h:Vals ys its')(i:ys.length<=sizeLine):Inv X pins σ (upd H l (.lst ys)) {s with heap:=s.heap.update l (Obj.mapSeq f),toks:=t'}:=by have q:=PySem.IsL.update e f;rw[g]at q;refine I.write (x:=l) (e:=l) (by rw[c];exact trivial) (.inl rfl) (λm u j k=>(Heap.get?_update_other s.heap (Obj.mapSeq f) (Ne.symm j)).trans k) ⟨_,q⟩ ?_;exact⟨i,its',_,h,q⟩
theorem Inv.J4{a:List Value}{t':Nat}(I:Inv X pins σ H s)(c:Vals ys a)(e:ys.length<=sizeLine):Inv X pins σ (upd H s.heap.objs.size (.lst ys)) {s with heap:=s.heap.push {cls:=.type "list",data:=.seq a.toArray},toks:=t'}:=I.laid (λ_ _ q=>iG q) (cH) ⟨e,a,0,c,get?_push_size _ rfl⟩
theorem Inv.fresh(I:Inv X pins σ H s):H s.heap.objs.size=none:=I.hok.fresh (cH)
theorem Inv.VN(I:Inv X pins σ H s)(c:H l=some (.lst xs)):xs.length<=sizeLine/\∃(a:List Value)(n:Nat),Vals xs a/\xs.length=a.length/\s.heap.get? l=some {cls:=.type "list",data:=.seq a.toArray n}:=by obtain⟨z,a,n,r,e⟩:=I.hok l _ c;exact⟨z,a,n,r,r.length,e⟩
theorem Ab(h:n<=sizeLine):listTooLong n=false:=by unfold listTooLong;exact decide_eq_false (by omega)
end
section
variable{X:Cx}
def Gv:V->List V->Hp->VK->Prop:=λx vs H Q=>∃l xs y,x=.ref l/\vs=[y]/\H l=some (.lst xs)/\xs.length<sizeLine/\Q .non (upd H l (.lst (xs++[y])))
theorem qC:MtM X "list.append" Gv:=by intro b s j H x vs v k Q I f g h;obtain⟨l,xs,y,rfl,rfl,c,m,q⟩:=h;cases f;obtain⟨u,rfl,i⟩:=g.one;obtain⟨z,a,n,r,o,e⟩:=I.VN c;refine call_meets F.slot_list_append ⟨_,e,rfl⟩ F.entry_list_append (F.args_list_append_2 _ _) (PySem.list_append l a.toArray n u (by rw[size_toArray];omega)) ⟨e,?_⟩;refine⟨.non,_,I.V3 (its':=a++[u]) c e (by simp) (r.append (.cons i .nil)) ?_,rfl,q⟩;rw[length_append,List.length_singleton];omega
theorem len_rep{a:Type}(xs:List a)(k:Nat):(replicate k xs).flatten.length=k*xs.length:=by induction k with|zero=>simp|succ k b=>rw[replicate_succ,flatten_cons,length_append,b,Nat.succ_mul,Nat.add_comm]
end
end L2
namespace Vq
open PySem PySem.W PySem.Calls PyProof.Rows
theorem lY{P:Params}{h:Heap}:∀(ns:List Int)(vs:List Value),WellAll P h vs (ns.map WData.int)->IntsAre vs ns:=by intro ns;induction ns with|nil=>intro vs w;rw[map_nil]at w;cases w;exact .nil|cons n ns c=>intro vs w;rw[map_cons]at w;cases w with|cons a b=>cases a;exact .cons _ _ (c _ b)
theorem yu{l:OpenLaw}{n:Nat}(m:l.most=some n){P:Params}{h:Heap}{args:List WData}{b:List Value}(c:l.row.toRowW.claim.pre args=true)(j:WellAll P h b args):∃a vs ns,b=[Value.ref a]/\args=[WData.list (ns.map WData.int)]/\h.get? a=some {cls:=.type "list",data:=.seq vs.toArray}/\IntsAre vs ns/\ns.length<=n:=by
 have k:WShape.hasAll [] args [.list .int]=true:=(pre_splitW c).1;have hc:l.pre.holds [] {args:=args}=true:=(pre_splitW c).2;obtain⟨d,r,rfl,h1,o⟩:=hasAllW_cons k;obtain rfl:=hasAllW_nil o;obtain⟨xs,rfl,p⟩:=hasW_list h1;obtain⟨ns,rfl⟩:=items_int p;have e:ns.length<=n:=by
  unfold OpenLaw.pre at hc;have g:(WTm.not (.lt (.lit (.int (n:Int))) (.len (.arg 0)))).holds [] {args:=[.list (ns.map .int)]}=true:=by have g:=(holds_andW hc).1;rw[m]at g;exact g
  have i:=condW_of g (w_not (w_lt w_lit (w_len_list (w_arg rfl))));rw[length_map]at i;refine Nat.le_of_not_lt λq=>?_;have s:(n:Int)<((ns.length:Nat):Int):=by omega
  first|(rw[decide_eq_true s]at i;exact absurd i (by decide))|(simp at i;omega)
 cases j with|cons t u=>cases u;cases t with|list ho f=>exact⟨_,_,ns,rfl,rfl,ho,lY ns _ f,e⟩
theorem yF(l:OpenLaw)(args:List WData):l.row.toRowW.claim.post args (.bool true) args=true:=postW_of (r:=l.row.toRowW) (X:=(true==true)) (show WShape.has [] (.bool true) .bool=true by first|rfl|decide|simp[WShape.has,WShape.arms,WShape.armsAll]) (show(WTm.eq .res (.lit (.bool true))).value [] {args:=args,res:=some (.bool true),after:=args}=some (.bool (true==true))from w_eq_bool (w_res rfl) w_lit) rfl
theorem sW{l:OpenLaw}{n:Nat}{q:Program}{c:List Str}{z:(Str->Option Value)->Heap->Prop}{A:World->Heap->Prop}{d:DefRec}(F:l.most=some n)(s:d.params.defaults=[])(call:∀(w:World)(s₀ b:Shared)(mg t:Str->Option Value)(h:Addr)(o:Obj)(u m e:Value)(a:Addr)(vs:List Value)(ns:List Int),Ground q c [] z w s₀ mg t b.heap->A w b.heap->b.heap.get? h=some o->o.data=.func (docDef d.name d.params d.body d.scope u m e)->b.heap.CodeRec m d.name->mg d.name=some (.ref h)->b.heap.get? a=some {cls:=.type "list",data:=.seq vs.toArray}->IntsAre vs ns->ns.length<=n->b.gens=#[]->codeAny (model l.prog w) callerA (.call (.ref h) ⟨[.ref a],[]⟩) (λr p=>r=.ok (.ret (.bool true))/\OldK b.heap p.heap/\p.os=b.os/\AllBare p.gens) b):WalkO q c z A l.row.toRowW d [] (λf vs=>PySem.call f vs):=by intro w s₀ b mg t G Y h o u m e H kV ho hd v B x I args C as i E J y L;obtain rfl:H=.none:=Dflts.none B s;obtain rfl:kV=.none:=Dflts.noKw B;obtain⟨a,vs,ns,rfl,rfl,j,g,k⟩:=yu F i y;refine enter_call (codeAny_mono (call w s₀ b mg t h o u m e a vs ns G Y ho (fd_plain hd) v x j g k I) λr p M=>?_);obtain⟨rfl,N,O,Q⟩:=M;exact⟨.inl ⟨.bool true,.bool true,[],rfl,λ_=>rfl,.bool true,yF l _,λ_=>⟨List.Pairwise.nil,λ_ U=>(nomatch U)⟩⟩,N,O,Q⟩
end Vq
namespace L2
open PySem PySem.Spec PyProof.Rows
theorem qz:∀{vs:List Value}{ns:List Int},IntsAre vs ns->Vals (ns.map V.int) vs|_,_,.nil=>.nil|_,_,.cons n t h=>.cons ⟨t,rfl⟩ (qz h)
def Only(H:Hp):Prop:=∀b,H b=none\/∃o xs,H b=some (.eG o (.lst xs))
theorem BV{P:Program}{w:World}{K:PySem.W.Frag}{mg J:Str->Option Value}{CX:BL}{k:Nat}{L a:Addr}{fd:FuncData}{x:Str}{sp:Sp}{c:Shared}{vs:List Value}{ns:List Int}(Q:K.In c.heap)(l:c.heap.Ns mainGlobals mg)(f:c.heap.Ns builtinsNs J)(M:∀x:Str,x≠"__name__"->J x=bootBuiltins x)(p:c.heap.NoLimit)(hg:c.gens=#[])(G:c.heap.get? a=some {cls:=.type "list",data:=.seq vs.toArray})(hi:IntsAre vs ns)(U:ns.length<=sizeLine)(hr:iI k callerA)(F:∀base:Heap,K.In base->base.Ns mainGlobals mg->lz P w K mg base CX k L fd [x] sp)(j:∀(s:Shared)(u:Value),BindsTo s fd ⟨[u],[]⟩ [(x,u)])(N:∀H:Hp,Only H->gb K H a (ns.map V.int)->sp [.ref a] H (λv _=>v=.bl true) λ_ _ _=>False)(Tq:∀H e g,CX [] H c (λ_ _ _=>False) e g->False):codeAny (model P w) callerA (.call (.ref L) ⟨[.ref a],[]⟩) (λr g=>r=.ok (.ret (.bool true))/\OldK c.heap g.heap/\g.os=c.os/\AllBare g.gens) c:=by
 have X:=qz hi;have t:=hi.length--from an abstract heap in which nothing but the script may be tracked
 have i:∀H:Hp,Only H->gb K H a (ns.map V.int)->j6 P w H c.heap->(∀b,H b≠none->b=a)->(H a≠none->K.lookup a=none)->codeAny (model P w) callerA (.call (.ref L) ⟨[.ref a],[]⟩) (λr g=>r=.ok (.ret (.bool true))/\OldK c.heap g.heap/\g.os=c.os/\AllBare g.gens) c:=by
  intro H Y hS hok Z hK;have ym:∀{b:Addr}{o:Obj},c.heap.get? b=some o->H b=none->(qR c.heap H).get? b=some o:=λe n=>zW e n;have Tp:∀{b:Addr}{o:Obj}{y:Array DictEntry}{A:Nat},c.heap.get? b=some o->o.data=.dict y A->H b=none:=λ{b o y A}e d=>by cases q:H b with|none=>rfl|some u=>have O:b=a:=Z b (by rw[q];simp);subst O;rw[G]at e;cases e;have d':Data.seq vs.toArray _=Data.dict y A:=d;cases d'
  have I:∀{b:Addr}{m:Str->Option Value},c.heap.Ns b m->(qR c.heap H).Ns b m:=λ{b m}⟨o,y,A,e,d,r⟩=>⟨o,y,A,ym e (Tp e d),d,r⟩;have B:K.In (qR c.heap H):=λb o e=>ym (Q b o e) (by cases q:H b with|none=>rfl|some u=>have O:b=a:=Z b (by rw[q];simp);subst O;rw[hK (by rw[q];simp)]at e;cases e);have hM:Mod K mg (qR c.heap H):=⟨B,I l,⟨J,I f,M⟩,let⟨mc,h1,h2⟩:=p;⟨mc,I h1,h2⟩⟩;have e0:Gm P w K mg (qR c.heap H) callerA [] c H:=⟨rfl,hM,λb o e=>G9 e,Nat.le_of_eq (zy _ _),trivial,λb f=>absurd (show b∈([]:List Addr)from f) (by simp),hok,.of_eq hg⟩;refine codeAny_mono ((F _ B (I l)).run callerA [] c H ⟨[.ref a],[]⟩ [.ref a] [.ref a] _ _ hr e0 (j c (.ref a)) (.cons rfl .nil) (N H Y hS)) λr g h=>?_;cases r with|error e=>exact(Tq H e g h).elim|ok fl=>cases fl with|next=>exact False.elim h|brk=>exact False.elim h|cont=>exact False.elim h|ret u=>obtain⟨v,H',os,bare,un,C,r',q⟩:=h;have q':v=.bl true:=q;subst q';obtain rfl:u=Value.bool true:=r';refine⟨rfl,OldK.of_keep λb o e=>?_,os,bare⟩;cases q:H b with|none=>exact un.keep b o e q (by intro z;exact absurd (show b∈([]:List Addr)from z) (by simp)) (by simp)|some u=>
        rcases Y b with z|⟨ob,xs,z⟩;.rw[q]at z;cases z
        .have z2:=un.rW b ob _ z;obtain⟨e1,_⟩:=hok b _ z;obtain⟨e2,_⟩:=C b _ z2;rw[e]at e1;cases e1;exact e2
 cases hk:K.lookup a with|some o=>--the script is one of the module's own objects
   have e:=Q a o hk;rw[G]at e;cases e;refine i (λ_=>none) (λ_=>.inl rfl) (.inr ⟨_,vs.toArray,_,hk,rfl,rfl,rfl,by rw[size_toArray,t];exact U,by simpa using X⟩) (λb u z=>by have E:(none:Option HO)=some u:=z;cases E) (λb z=>absurd rfl z) λz=>absurd rfl z|none=>
   refine i (λb=>if b=a then some (.eG {cls:=.type "list",data:=.seq vs.toArray} (.lst (ns.map V.int)))else none) (λb=>?_) (.inl (.inr ⟨{cls:=.type "list",data:=.seq vs.toArray},if_pos rfl⟩)) (λb u z=>?_) (λb z=>?_) λ_=>hk
   . by_cases f:b=a;.exact .inr ⟨_,_,if_pos f⟩
     .exact .inl (if_neg f)
   . by_cases f:b=a;.have E:=(if_pos f).symm.trans z;cases E;subst f;exact⟨G,by rw[length_map];exact U,vs,_,X,G⟩
     .have E:=(if_neg f).symm.trans z;cases E
   . by_cases f:b=a;.exact f
     .exact absurd (if_neg f) z
theorem Hb{l:PySem.W.OpenLaw}{n k:Nat}{q:Program}{i:List Str}{I:(Str->Option Value)->Heap->Prop}{C:World->Heap->Prop}{d:DefRec}{K:Params->PySem.W.Frag}{CX:World->BL}{sp:World->Sp}{x:Str}(J:l.most=some n)(t:n<=sizeLine)(y:d.params.defaults=[])(hr:iI k callerA)(L:∀(w:World)(h:Heap),C w h->(K w.params).In h)(F:∀(w:World)(mg:Str->Option Value)(r:Addr)(h:Heap),(K w.params).In h->h.Ns mainGlobals mg->mg d.name=some (.ref r)->∃ fd:FuncData,(∀(s:Shared)(u:Value),BindsTo s fd ⟨[u],[]⟩ [(x,u)])/\∀base:Heap,(K w.params).In base->base.Ns mainGlobals mg->lz l.prog w (K w.params) mg base (CX w) k r fd [x] (sp w))(z:∀(w:World)(H:Hp)(a:Addr)(ns:List Int),ns.length<=n->Only H->gb (K w.params) H a (ns.map V.int)->sp w [.ref a] H (λv _=>v=.bl true) λ_ _ _=>False)(M:∀(w:World)(H:Hp)(s:Shared)(e:Value)(A:Shared),CX w [] H s (λ_ _ _=>False) e A->False):PySem.W.WalkO q i I C l.row.toRowW d [] (λf vs=>PySem.call f vs):=by refine Vq.sW J y λw s₀ m mg mb r o pm cd N a vs ns G Y ho hd O B p j c Q=>?_;have E:=L w _ Y;obtain⟨fd,U,X⟩:=F w mg r _ E G.T.g B;exact BV E G.T.g G.T.b G.T.builtins G.T.nolimit Q p j (le_trans c t) hr X U (λH Z hS=>z w H a ns c Z hS) λH e A=>M w H m e A
theorem Cg{l:PySem.W.OpenLaw}{n k:Nat}{q:Program}{b:List Str}{p:(Str->Option Value)->Heap->Prop}{m:World->Heap->Prop}{d:DefRec}{K:Params->PySem.W.Frag}{CX:BL}{sp:PySem.W.Frag->Sp}{x:Str}(r:l.most=some n)(c:n<=sizeLine)(g:d.params.defaults=[])(hr:iI k callerA)(t:∀(w:World)(h:Heap),m w h->(K w.params).In h)(F:∀(w:World)(mg:Str->Option Value)(o:Addr)(h:Heap),(K w.params).In h->h.Ns mainGlobals mg->mg d.name=some (.ref o)->∃ fd:FuncData,(∀(s:Shared)(u:Value),BindsTo s fd ⟨[u],[]⟩ [(x,u)])/\∀base:Heap,(K w.params).In base->base.Ns mainGlobals mg->lz l.prog w (K w.params) mg base CX k o fd [x] (sp (K w.params)))(i:∀(K:PySem.W.Frag)(H:Hp)(a:Addr)(ns:List Int),ns.length<=n->Only H->gb K H a (ns.map V.int)->sp K [.ref a] H (λv _=>v=.bl true) λ_ _ _=>False)(y:∀(H:Hp)(s:Shared)(e:Value)(j:Shared),CX [] H s (λ_ _ _=>False) e j->False):PySem.W.WalkO q b p m l.row.toRowW d [] (λf vs=>PySem.call f vs):=Hb (K:=K) (CX:=λ_=>CX) (sp:=λw=>sp (K w.params)) r c g hr t F (λw H a ns h1 z A=>i (K w.params) H a ns h1 z A) λ_ H s e j=>y H s e j
end L2
namespace L2
open PySem PySem.Spec PyProof.Rows
noncomputable def gQ(s:Stmt):Arguments:=match s with|.FunctionDef _ a _ _ _ _ _ _ _ _=>a|_=>{posonlyargs:=[],args:=[],vararg:=none,kwonlyargs:=[],kw_defaults:=[],kwarg:=none,defaults:=[]}
noncomputable def eE(s:Stmt):List Stmt:=match s with|.FunctionDef _ _ b _ _ _ _ _ _ _=>b|_=>[]
noncomputable def aH(s:Stmt):Scope:=match s with|.FunctionDef _ _ _ _ _ _ a _ _ _=>a|_=>{kind:=.function,names:=[],isGenerator:=false,isCoroutine:=false}
abbrev Af:BL:=λ_ _ _ _ _ _=>False
abbrev E0:XK:=λ_ _ _=>False
theorem QM{X:Cx}:Passes Af X E0:=λ_ _ _ _ _ _ _ h=>h.elim
structure lF(K:PySem.W.Frag)(x qual:Str)(st:Stmt)(f:Addr)(fd:FuncData):Prop where
 ex:∃(oc:Value)(od:Option Addr)(kV doc pm:Value)(an:Option Addr)(cdv ct:Value)(osl:Array (Option Value)),fd=PySem.W.fnOf x qual (gQ st) (eE st) (aH st) .none kV doc pm an cdv ct/\K.lookup f=some ⟨oc,od,.func fd,osl⟩/\PySem.W.codeIn K cdv qual=true
 kp:keepIn K (.ref f)=true
section
variable{P:Program}{w:World}{K:PySem.W.Frag}{mg:Str->Option Value}{base:Heap}
theorem lF.ok{x qual:Str}{st:Stmt}{f:Addr}{fd:FuncData}{N ps:List Str}{k:Nat}{sp:Sp}(F:lF K x qual st f fd)(S:aY N ps (aH st))(len:∀vs H Q E,sp vs H Q E->vs.length=ps.length)(a:∀(cdv:Value)(A:Around)(outer:List Env)(s:Shared)(H:Hp)(vs:List V)(Q:VK)(E:XK),iI k (A.deeper (envOfC qual (aH st) s.heap.objs.size f cdv))->sp vs H Q E->∃t,yc (vG Af P w K mg base N qual (aH st) f cdv A outer s H E).Qh (eE st) t/\t {nx:=λ_ e=>Q .non e,rt:=Q} (start N vs) H):lz P w K mg base Af (k+1) f fd ps sp:=by obtain⟨j,l,kV,g,m,n,cdv,ct,i,rfl,lk,b⟩:=F.ex;refine Qp lk b S len λA outer s H vs Q E hr c=>?_;obtain⟨t,h,q⟩:=a cdv A outer s H vs Q E hr c;exact⟨t,h.Qh,q⟩
theorem lF.binds{x qual:Str}{st:Stmt}{f:Addr}{fd:FuncData}{ps:List Str}(F:lF K x qual st f fd)(h:∀(kV a b:Value)(c:Option Addr)(cdv ct:Value)(e:List Value),e.length=ps.length->bindArgs (PySem.W.fnOf x qual (gQ st) (eE st) (aH st) .none kV a b c cdv ct) ⟨e,[]⟩=pure (ps.zip e)):Binds K fd ps []:=by obtain⟨j,k,kV,a,b,c,cdv,ct,g,rfl,lk,i⟩:=F.ex;exact .all (h kV a b c cdv ct)
theorem Kw{x qual:Str}{st:Stmt}{f:Addr}{h:Value}{i e:Option Addr}{b:Array (Option Value)}{kV a g cdv ct:Value}(l:K.lookup f=some ⟨h,i,.func (PySem.W.fnOf x qual (gQ st) (eE st) (aH st) .none kV a g e cdv ct),b⟩)(c:PySem.W.codeIn K cdv qual=true)(k:keepIn K (.ref f)=true):lF K x qual st f (PySem.W.fnOf x qual (gQ st) (eE st) (aH st) .none kV a g e cdv ct):=⟨⟨h,i,kV,a,g,e,cdv,ct,b,rfl,l,c⟩,k⟩
end
def aK(H a:Hp):Prop:=∀b o,H b=some o->a b=some o
theorem aK.refl(H:Hp):aK H H:=λ_ _ h=>h
theorem aK.trans{H e f:Hp}(a:aK H e)(b:aK e f):aK H f:=λc o h=>b c o (a c o h)
theorem aK.seq{K:PySem.W.Frag}{H b:Hp}{a:Addr}{xs:List V}(e:aK H b)(h:gb K H a xs):gb K b a xs:=by
 rcases h with(h|⟨o,h⟩)|h;.exact .inl (.inl (e _ _ h))
 .exact .inl (.inr ⟨o,e _ _ h⟩)
 .exact .inr h
end L2
end
section
namespace HH
open PySem
inductive Dc where|k(kvs:List (Int×Int))|t(kvs:List (List Int×Int))|s(ks:List (List Int))deriving DecidableEq
inductive D where|non|bl(b:Bool)|int(i:Int)|str(s:Str)|tup(ds:List D)|lst(ds:List D)|cX(m:Dc)|dv(ks:List Int)(ds:List D)deriving Inhabited
mutual
noncomputable def jb:D->D->Bool|.non,.non=>true|.bl a,.bl b=>a==b|.bl a,.int i=>(if a then(1:Int)else 0)==i|.int i,.bl a=>i==(if a then(1:Int)else 0)|.int i,.int j=>i==j|.str a,.str b=>a==b|.tup xs,.tup ys=>gD xs ys|.lst xs,.lst ys=>gD xs ys|.cX a,.cX b=>decide (a=b)|.dv a xs,.dv b ys=>decide (a=b)&&gD xs ys|_,_=>false
noncomputable def gD:List D->List D->Bool|[],[]=>true|x::xs,y::ys=>jb x y&&gD xs ys|_,_=>false
end
theorem jw:gD [] []=true:=rfl
theorem gK{x y:D}{xs ys:List D}:gD (x::xs) (y::ys)=(jb x y&&gD xs ys):=rfl
theorem m9{y:D}{ys:List D}:gD [] (y::ys)=false:=rfl
theorem m5{x:D}{xs:List D}:gD (x::xs) []=false:=rfl
theorem Zv{i j}:jb (.int i) (.int j)=(i==j):=(rfl)
theorem ZV{x y}:jb (.tup x) (.tup y)=gD x y:=(rfl)
theorem Uo{x y}:jb (.lst x) (.lst y)=gD x y:=(rfl)
noncomputable def gO:Nat->D->Bool|_,.non=>true|_,.bl _=>true|_,.int _=>true|_,.str _=>true|0,.tup _=>false|0,.lst _=>false|_,.cX _=>false|_,.dv _ _=>false|n+1,.tup a=>a.all (gO n)|n+1,.lst a=>a.all (gO n)
theorem bA{n:Nat}{a:List D}:gO (n+1) (.tup a)=a.all (gO n):=rfl
theorem bh{n:Nat}{a:List D}:gO (n+1) (.lst a)=a.all (gO n):=rfl
theorem bC{n:Nat}{m:Dc}:gO n (.cX m)=false:=by cases n<;>rfl
theorem bB{n:Nat}{k:List Int}{a:List D}:gO n (.dv k a)=false:=by cases n<;>rfl
theorem bF{a:List D}:gO 0 (.tup a)=false:=rfl
theorem bz{a:List D}:gO 0 (.lst a)=false:=rfl
inductive Sl where|aU|val(b:Bool)(d:D)|own(b:Bool)(ds:List D)|lent(ds:List D)|gY(m:Dc)|hold(rows:List (List D))|qD(kvs:List (Int×D))deriving Inhabited
inductive R where|val(d:D)|own(ds:List D)deriving Inhabited
noncomputable def R.d:R->D|.val d=>d|.own a=>.lst a
inductive Res(α:Type)where|ok(a:α)(ρ:List Sl)|exc(k:Nat)(ρ:List Sl)|stuck deriving Inhabited
noncomputable def Res.bind{b c:Type}(f:b->List Sl->Res c):Res b->Res c|.ok a ρ=>f a ρ|.exc _ _=>.stuck|.stuck=>.stuck
noncomputable def lift{b:Type}(o:Option b)(ρ:List Sl):Res b:=match o with|some a=>.ok a ρ|none=>.stuck
inductive Op where|add|sub|mul|fdiv|mod|pow|shl|shr|band|YD|din|YF|inR|YG|sin|uM deriving DecidableEq
inductive Cm where|eq|ne|lt|le|gt|ge|M8|uN|inn|Tr|isT|Tt|leT|geT deriving DecidableEq
inductive Ty where|int|bool|str|tuple|list|none deriving DecidableEq
inductive Ur where|len|list|tuple|min2|max2|sum|all|sorted|abs|int|Dz|DG|qF deriving DecidableEq
inductive P where|var(i:Nat)|con(d:D)|bin(o:Op)(a b:P)|neg(a:P)|not(a:P)|and(a b:P)|or(a b:P)|cmp(o:Cm)(a b:P)|chain(o o':Cm)(a b c:P)|YH(c a b:P)|tup(as:List P)|lst(as:List P)|idx(a i:P)|slice(a lo hi:P)|call(f:Nat)(as:List P)|blt(b:Ur)(as:List P)|inst(ts:List Ty)(a:P)|comp(src:P)(n:Nat)(is:List Nat)(one:Bool)(test:Option P)(elt:P)|mV(a b:P)|PB(a:P)|zip(a b:P)|vw(x:Nat)deriving Inhabited
noncomputable abbrev lim:Nat:=16777216
noncomputable def nY:D->D->Option R|.int i,.int j=>some (.val (.int (i+j)))|.lst xs,.lst ys=>if xs.length+ys.length<=lim then some (.own (xs++ys))else none|.tup xs,.tup ys=>if xs.length+ys.length<=lim then some (.val (.tup (xs++ys)))else none|.str x,.str y=>if x.length+y.length<=lim then some (.val (.str (x++y)))else none|_,_=>none
noncomputable def nU:D->D->Option R|.int i,.int j=>if((-18446744073709551616<i/\i<18446744073709551616)\/(-18446744073709551616<j/\j<18446744073709551616))then some (.val (.int (i*j)))else none|.lst xs,.int k=>if 0<=k/\0<xs.length/\xs.length*k.toNat<=lim then some (.own (replicate k.toNat xs).flatten)else none|.tup xs,.int k=>if 0<=k/\0<xs.length/\xs.length*k.toNat<=lim then some (.val (.tup (replicate k.toNat xs).flatten))else none|_,_=>none
noncomputable def sI:D->D->Option R|.int i,.int j=>some (.val (.int (i-j)))|_,_=>none
noncomputable def nJ:D->D->Option R|.int i,.int j=>if 0<j/\j<1606938044258990275541962092341162602522202993782792835301376 then some (.val (.int (i/j)))else none|_,_=>none
noncomputable def sJ:D->D->Option R|.int i,.int j=>if 0<j then some (.val (.int (i%j)))else none|_,_=>none
noncomputable def uv:D->D->Option R|.int i,.int j=>if 0<=j/\j<=1000/\i.natAbs<18446744073709551616 then some (.val (.int (i^j.toNat)))else none|_,_=>none
noncomputable def Br:D->D->Option R|.int i,.int j=>if 0<=j/\j<=1000/\i.natAbs<18446744073709551616 then some (.val (.int (i*2^j.toNat)))else none|_,_=>none
noncomputable def Dq:D->D->Option R|.int i,.int j=>if 0<=j then some (.val (.int (i/2^j.toNat)))else none|_,_=>none
noncomputable def vy:D->D->Option R|.int i,.int j=>some (.val (.int (Builtin.bitAnd i j)))|_,_=>none
noncomputable def flat:D->Bool|.tup _=>false|.lst _=>false|.cX _=>false|.dv _ _=>false|_=>true
noncomputable def items:D->Option (List D)|.lst a=>some a|.tup a=>some a|_=>none
noncomputable def Lb:D->Option (List D)|.tup a=>some a|_=>none
noncomputable def Cu(x y:D):Option Bool:=if gO 8 x&&gO 8 y then some (jb x y)else none
noncomputable def vW(x y:D):Option Bool:=if gO 8 x&&gO 8 y then some (!jb x y)else none
noncomputable def Eb(f:Int->Int->Bool):D->D->Option Bool|.int i,.int j=>some (f i j)|_,_=>none
noncomputable def gV:D->Bool|.non=>true|_=>false
noncomputable def N7(neg:Bool)(x:D):D->Option Bool|.non=>some (if neg then !gV x else gV x)|_=>none
noncomputable def Rt(neg:Bool)(x y:D):Option Bool:=(items y).bind λys=>if(flat x&&ys.all flat)=true then some (if neg then !(ys.any λy=>jb y x)else ys.any λy=>jb y x)else none
noncomputable def Z1(neg:Bool):D->D->Option Bool|.bl b,.bl true=>some (if neg then !b else b)|.bl b,.bl false=>some (if neg then b else !b)|_,_=>none
noncomputable def aQ:List Int->List Int->Bool|[],_::_=>true|i::is,j::js=>decide (i<j)||(decide (i=j)&&aQ is js)|_,[]=>false
noncomputable def cJ:D->Int|.int i=>i|_=>0
noncomputable def bw:D->List Int|.int i=>[i]|.tup a=>a.map cJ|_=>[]
noncomputable def cI:D->Bool|.int _=>true|_=>false
noncomputable def Dc.get:Dc->D->Option (Option Int)|.k a,.int i=>some ((a.find? λb=>decide (b.1=i)).map (·.2))|_,_=>none
noncomputable def putD{κ:Type}[DecidableEq κ](a:List (κ×Int))(k:κ)(v:Int):List (κ×Int):=if(a.any λb=>decide (b.1=k))=true then a.map (λb=>if b.1=k then(b.1,v)else b)else a++[(k,v)]
noncomputable def Dc.put:Dc->D->Int->Option Dc|.k a,.int i,v=>if a.length<lim then some (.k (putD a i v))else none|_,_,_=>none
noncomputable def Xh(a:List (Int×D))(k:Int):Option D:=(a.find? λp=>decide (p.1=k)).map (·.2)
noncomputable def vput(a:List (Int×D))(k:Int)(d:D):List (Int×D):=if(a.any λp=>decide (p.1=k))=true then a.map (λp=>if p.1=k then(p.1,d)else p)else a++[(k,d)]
noncomputable def RX(a:Bool):D->D->Option R|.int i,.int j=>some (.val (.bl (a !=decide (0<=i/\i<j))))|_,_=>none
noncomputable def gZ:D->Bool|.tup (x::xs)=>(x::xs).all cI|_=>false
noncomputable def pM(b:Bool):D->D->Option R|.tup a,.cX (.s ks)=>if a.all cI=true then some (.val (.bl (b !=ks.contains (a.map cJ))))else none|_,_=>none
noncomputable def stK(ks:List (List Int))(k:List Int):List (List Int):=if ks.contains k=true then ks else ks++[k]
noncomputable def Pa:D->Option (List Int)|.tup [.tup a,.bl true]=>if gZ (.tup a)=true then some (a.map cJ)else none|_=>none
noncomputable def Qv(neg:Bool):D->D->Option R|.int k,.dv ks _=>some (.val (.bl (if neg then !ks.contains k else ks.contains k)))|_,_=>none
noncomputable def RW:D->D->Option R|.cX m,k=>(m.get k).bind λo=>o.map λv=>.val (.int v)|.dv ks a,.int k=>(Xh (ks.zip a) k).map .val|_,_=>none
noncomputable def pH:Op->D->D->Option R|.add=>nY|.mul=>nU|.sub=>sI|.fdiv=>nJ|.mod=>sJ|.pow=>uv|.shl=>Br|.shr=>Dq|.band=>vy|.YD=>RW|.din=>Qv false|.YF=>Qv true|.inR=>RX false|.YG=>RX true|.sin=>pM false|.uM=>pM true
noncomputable def QG:D->D->Option Bool|.int i,.int j=>some (decide (i<j))|.tup xs,.tup ys=>if(xs.all cI&&ys.all cI)=true then some (aQ (xs.map cJ) (ys.map cJ))else none|_,_=>none
noncomputable def Yh:D->D->Option Bool|.int i,.int j=>some (decide (i<=j))|.tup xs,.tup ys=>if(xs.all cI&&ys.all cI)=true then some (!aQ (ys.map cJ) (xs.map cJ))else none|_,_=>none
noncomputable def W8:D->D->Option Bool|.tup xs,.tup ys=>if(xs.all cI&&ys.all cI)=true then some (!aQ (xs.map cJ) (ys.map cJ))else none|_,_=>none
noncomputable def cm:Cm->D->D->Option Bool|.eq=>Cu|.ne=>vW|.lt=>QG|.le=>Eb λi j=>decide (i<=j)|.leT=>Yh|.geT=>W8|.gt=>Eb λi j=>decide (j<i)|.ge=>Eb λi j=>decide (j<=i)|.M8=>N7 false|.uN=>N7 true|.inn=>Rt false|.Tr=>Rt true|.isT=>Z1 false|.Tt=>Z1 true
noncomputable def lX(o:Cm)(x y:D):Option R:=(cm o x y).map λk=>.val (.bl k)
noncomputable def lW(n:Nat)(i:Int):Option Nat:=if 0<=i then(if i<n then some i.toNat else none)else if-(n:Int)<=i then some (i+n).toNat else none
noncomputable def at'{a:Type}(xs:List a)(i:Int):Option a:=(lW xs.length i).bind λj=>xs[j]?
noncomputable def cM(n d:Nat):Option Int->Nat|none=>d|some i=>if 0<=i then min i.toNat n else(i+n).toNat
noncomputable def cut{a:Type}(xs:List a)(lo hi:Option Int):List a:=(xs.drop (cM xs.length 0 lo)).take (cM xs.length xs.length hi-cM xs.length 0 lo)
noncomputable def o9:D->Option Int|.int i=>some i|_=>none
noncomputable def uU:D->Option Bool|.bl b=>some b|_=>none
noncomputable def dl2(k e:Int)(x y:D):Option R:=(o9 x).bind λi=>(o9 y).bind λj=>if i=k then none else some (.val (.dv [k,i] [.int e,.int j]))
noncomputable def lixR:D->D->Option R|.lst a,.int i=>(a.mapM o9).bind λns=>if i∈ns/\ns.length<=1000 then some (.val (.int (ns.idxOf i)))else none|_,_=>none
noncomputable def vd(x y:D):Option R:=(items x).bind λa=>(o9 y).bind λi=>(at' a i).map .val
noncomputable def Ca(x:D):Option R:=(o9 x).map λi=>.val (.int (-i))
noncomputable def zm:P->Bool|.con .non=>true|_=>false
noncomputable def part(p:P)(d:D):Option (Option Int):=if zm p then some none else(o9 d).map some
noncomputable def zP:D->Option (Option Int)->Option (Option Int)->Option R|.lst xs,some lo,some hi=>some (.own (cut xs lo hi))|.tup xs,some lo,some hi=>some (.val (.tup (cut xs lo hi)))|_,_,_=>none
noncomputable def cg:Ty->D->Bool|.int,.int _=>true|.int,.bl _=>true|.bool,.bl _=>true|.str,.str _=>true|.tuple,.tup _=>true|.list,.lst _=>true|.none,.non=>true|_,_=>false
noncomputable def sortable(ds:List D):Bool:=decide (ds.length<=16777216)&&(ds.all cI||ds.all gZ)
noncomputable def qm(c:List D):List D:=c.mergeSort λa b=>!aQ (bw b) (bw a)
noncomputable def ordP:D->Bool|.tup [.int _,.tup a]=>a.all cI|_=>false
noncomputable def flP:D->D|.tup [.int h,.tup a]=>.tup (.int h::a)|d=>d
noncomputable def ufP:D->D|.tup (.int h::a)=>.tup [.int h,.tup a]|d=>d
noncomputable def oX:D->Option (List D)|.lst a=>some a|_=>none
noncomputable def bI(p:Int×Int):D:=.tup [.int p.1,.int p.2]
noncomputable def blt:Ur->List D->Option R|.len,[x]=>(items x).map λa=>.val (.int a.length)|.list,[x]=>(items x).map λa=>.own a|.tuple,[x]=>(items x).map λa=>.val (.tup a)|.min2,[.int i,.int j]=>some (.val (.int (if j<i then j else i)))|.max2,[.int i,.int j]=>some (.val (.int (if i<j then j else i)))|.sum,[x]=>((items x).bind λa=>a.mapM o9).map λns=>.val (.int ns.sum)|.all,[x]=>((oX x).bind λa=>a.mapM uU).map λbs=>.val (.bl (bs.all id))|.sorted,[x]=>(oX x).bind λa=>if sortable a then some (.own (qm a))else none|.abs,[.int i]=>some (.val (.int (if i<0 then-i else i)))|.int,[.int i]=>some (.val (.int i))|.int,[.bl b]=>some (.val (.int (if b then 1 else 0)))|.Dz,[.lst a]=>some (.own a.reverse)|.DG,[.cX (.s ks)]=>some (.val (.int ks.length))|.qF,[.lst a]=>if a.length<lim then(a.mapM Pa).map λks=>.val (.cX (.s (ks.foldl stK [])))else none|_,_=>none
noncomputable def pk(ρ:List Sl)(i:Nat):Option D:=match ρ[i]?with|some (.val _ d)=>some d|some (.own _ a)=>some (.lst a)|some (.lent a)=>some (.lst a)|_=>none
noncomputable def R0(ρ:List Sl)(i:Nat):Option (List D):=match pk ρ i with|some (.lst a)=>some a|_=>none
noncomputable abbrev Ev:=List Sl->Res R
noncomputable def isVar:P->Option Nat|.var i=>some i|_=>none
noncomputable def fP(i:Option Nat)(e:Ev)(ρ:List Sl):Res D:=match i with|some i=>lift (pk ρ i) ρ|none=>(e ρ).bind λr ρ=>.ok r.d ρ
noncomputable def gj(i:Option Nat)(e:Ev)(j:Option Nat)(f:Ev)(ρ:List Sl):Res (D×D):=match i with|some i=>(lift (pk ρ i) ρ).bind λ_ ρ=>(fP j f ρ).bind λy ρ=>(lift (pk ρ i) ρ).bind λx ρ=>.ok (x,y) ρ|none=>(fP none e ρ).bind λx ρ=>(fP j f ρ).bind λy ρ=>.ok (x,y) ρ
noncomputable def iw(e:Ev)(ρ:List Sl):Res Bool:=(e ρ).bind λr ρ=>lift (uU r.d) ρ
inductive Arg where|dat(d:D)|tmp(ds:List D)|dR(i:Nat)
noncomputable def qe:R->Arg|.val d=>.dat d|.own a=>.tmp a
noncomputable def bK(ρ:List Sl):List Arg->List Nat->Option (List Sl)|[],_=>some []|.dat d::r,a=>(bK ρ r a).map λs=>.val false d::s|.tmp b::r,a=>(bK ρ r a).map λs=>.own false b::s|.dR i::r,a=>match ρ[i]?with|some (.val _ d)=>(bK ρ r a).map λs=>.val false d::s|some (.own _ b)=>if a.contains i then none else(bK ρ r (i::a)).map λs=>.own true b::s|some (.lent b)=>if a.contains i then none else(bK ρ r (i::a)).map λs=>.lent b::s|_=>none
theorem u9{ρ:List Sl}{u:List Nat}:bK ρ [] u=some []:=rfl
theorem vX{ρ:List Sl}{d:D}{r:List Arg}{u:List Nat}:bK ρ (.dat d::r) u=(bK ρ r u).map λs=>.val false d::s:=rfl
theorem wu{ρ:List Sl}{d:List D}{r:List Arg}{u:List Nat}:bK ρ (.tmp d::r) u=(bK ρ r u).map λs=>.own false d::s:=rfl
theorem ni{ρ:List Sl}{i:Nat}{r:List Arg}{u:List Nat}:bK ρ (.dR i::r) u=match ρ[i]?with|some (.val _ d)=>(bK ρ r u).map λs=>.val false d::s|some (.own _ a)=>if u.contains i then none else(bK ρ r (i::u)).map λs=>.own true a::s|some (.lent a)=>if u.contains i then none else(bK ρ r (i::u)).map λs=>.lent a::s|_=>none:=rfl
noncomputable def aP(i:Nat):List Arg->List Sl->Option Sl|.dR k::as,s::ss=>if k=i then some s else aP i as ss|.dat _::as,_::ss=>aP i as ss|.tmp _::as,_::ss=>aP i as ss|_,_=>none
noncomputable def dJ:Sl->Option Sl->Sl|.own b _,some (.own _ a)=>.own b a|.own b _,some (.val _ d)=>.val b d|s,_=>s
noncomputable def dG(as:List Arg)(ss:List Sl):Nat->List Sl->List Sl|_,[]=>[]|i,s::ρ=>dJ s (aP i as ss)::dG as ss (i+1) ρ
theorem mZ{as:List Arg}{ss:List Sl}{i:Nat}:dG as ss i []=[]:=rfl
theorem jr{as:List Arg}{ss:List Sl}{i:Nat}{s:Sl}{ρ:List Sl}:dG as ss i (s::ρ)=dJ s (aP i as ss)::dG as ss (i+1) ρ:=rfl
noncomputable abbrev Call:=Nat->List Sl->Res R
noncomputable def m7(c:Call)(f:Nat)(as:List Arg)(ρ:List Sl):Res R:=match bK ρ as []with|none=>.stuck|some args=>match c f args with|.ok r a=>.ok r (dG as a 0 ρ)|.exc _ _=>.stuck|.stuck=>.stuck
noncomputable def put(ρ:List Sl)(i:Nat)(s:Sl):Option (List Sl):=match ρ[i]?with|some .aU=>some (ρ.set i s)|some (.val false _)=>some (ρ.set i s)|some (.own false _)=>some (ρ.set i s)|_=>none
noncomputable def putAll(ρ:List Sl):List Nat->List D->Option (List Sl)|[],[]=>some ρ|i::is,d::a=>(put ρ i (.val false d)).bind λρ=>putAll ρ is a|_,_=>none
theorem iR{ρ:List Sl}:putAll ρ [] []=some ρ:=rfl
theorem gM{ρ:List Sl}{i:Nat}{is:List Nat}{d:D}{a:List D}:putAll ρ (i::is) (d::a)=(put ρ i (.val false d)).bind λρ=>putAll ρ is a:=rfl
theorem kY{ρ:List Sl}{i:Nat}{is:List Nat}:putAll ρ (i::is) []=none:=rfl
theorem kZ{ρ:List Sl}{d:D}{a:List D}:putAll ρ [] (d::a)=none:=rfl
noncomputable def cj(ρ:List Sl)(is:List Nat)(one:Bool)(d:D):Option (List Sl):=match one,is,d with|true,[i],d=>put ρ i (.val false d)|false,is,.tup a=>putAll ρ is a|_,_,_=>none
noncomputable def srcOf(i:Option Nat)(e:Ev)(ρ:List Sl):Res (List D):=match i with
 |some i=>match ρ[i]?with|some (.val _ d)=>lift (items d) ρ|some (.own _ a)=>.ok a (ρ.set i (.lent a))|some (.lent a)=>.ok a ρ|_=>.stuck
 |none=>(e ρ).bind λr ρ=>lift (items r.d) ρ
noncomputable def bH(a:List Sl)(i:Option Nat)(ρ:List Sl):List Sl:=match i with
 |some i=>match a[i]?with|some (.own b c)=>ρ.set i (.own b c)|_=>ρ
 |none=>ρ
noncomputable def srcY(i:Nat)(f:Ev)(ρ:List Sl):Res (List D×List Sl):=(f ρ).bind λr a=>(lift (items r.d) a).bind λc a=>match a[i]?with|some (.val _ d)=>(lift (items d) a).bind λb a=>.ok ((c.zip b).map λp=>D.tup [p.1,p.2],a) a|some (.own _ b)=>.ok ((c.zip b).map λp=>D.tup [p.1,p.2],a) (a.set i (.lent b))|some (.lent b)=>.ok ((c.zip b).map λp=>D.tup [p.1,p.2],a) a|_=>.stuck
noncomputable def turns(is:List Nat)(one:Bool)(a:List Sl->Res Bool)(c:Ev):List D->List D->List Sl->Res (List D)|[],acc,ρ=>.ok acc ρ|d::r,acc,ρ=>match cj ρ is one d with|none=>.stuck|some ρ=>(a ρ).bind λb ρ=>if b then(c ρ).bind λx ρ=>turns is one a c r (acc++[x.d]) ρ else turns is one a c r acc ρ
theorem uX{is:List Nat}{o:Bool}{f:List Sl->Res Bool}{e:Ev}{a:List D}{ρ:List Sl}:turns is o f e [] a ρ=.ok a ρ:=rfl
theorem vh{is:List Nat}{o:Bool}{f:List Sl->Res Bool}{e:Ev}{d:D}{r a:List D}{ρ:List Sl}:turns is o f e (d::r) a ρ=match cj ρ is o d with|none=>.stuck|some ρ=>(f ρ).bind λb ρ=>if b then(e ρ).bind λx ρ=>turns is o f e r (a++[x.d]) ρ else turns is o f e r a ρ:=rfl
mutual
noncomputable def ev(c:Call):P->List Sl->Res R
 |.var i,ρ=>match ρ[i]?with|some (.val _ d)=>.ok (.val d) ρ|some (.own b g)=>.ok (.val (.lst g)) (ρ.set i (.val b (.lst g)))|some (.gY (.k e))=>.ok (.val (.cX (.k e))) (ρ.set i (.val false (.cX (.k e))))|some (.qD e)=>.ok (.val (.dv (e.map (·.1)) (e.map (·.2)))) (ρ.set i (.val false (.dv (e.map (·.1)) (e.map (·.2)))))|_=>.stuck
 |.con d,ρ=>.ok (.val d) ρ|.bin o a b,ρ=>(gj (isVar a) (ev c a) (isVar b) (ev c b) ρ).bind λq ρ=>lift (pH o q.1 q.2) ρ|.neg a,ρ=>(fP (isVar a) (ev c a) ρ).bind λx ρ=>lift (Ca x) ρ|.not a,ρ=>(iw (ev c a) ρ).bind λb ρ=>.ok (.val (.bl (!b))) ρ|.and a b,ρ=>(iw (ev c a) ρ).bind λx ρ=>if x then(iw (ev c b) ρ).bind λy ρ=>.ok (.val (.bl y)) ρ else .ok (.val (.bl false)) ρ|.or a b,ρ=>(iw (ev c a) ρ).bind λx ρ=>if x then .ok (.val (.bl true)) ρ else(iw (ev c b) ρ).bind λy ρ=>.ok (.val (.bl y)) ρ|.cmp o a b,ρ=>(gj (isVar a) (ev c a) (isVar b) (ev c b) ρ).bind λq ρ=>lift (lX o q.1 q.2) ρ|.chain o A a b d,ρ=>(gj (isVar a) (ev c a) (isVar b) (ev c b) ρ).bind λq ρ=>(lift (if flat q.2=true then cm o q.1 q.2 else none) ρ).bind λk ρ=>if k then(fP (isVar d) (ev c d) ρ).bind λz ρ=>lift (lX A q.2 z) ρ else .ok (.val (.bl false)) ρ|.YH t a b,ρ=>(iw (ev c t) ρ).bind λk ρ=>if k then(ev c a ρ).bind λr ρ=>.ok (.val r.d) ρ else(ev c b ρ).bind λr ρ=>.ok (.val r.d) ρ|.tup as,ρ=>(evs c as ρ).bind λg ρ=>.ok (.val (.tup g)) ρ|.lst as,ρ=>(evs c as ρ).bind λg ρ=>.ok (.own g) ρ|.idx a i,ρ=>(gj (isVar a) (ev c a) (isVar i) (ev c i) ρ).bind λq ρ=>lift (vd q.1 q.2) ρ|.slice a l h,ρ=>match isVar a with|some i=>(lift (pk ρ i) ρ).bind λ_ ρ=>(fP (isVar l) (ev c l) ρ).bind λy ρ=>(fP (isVar h) (ev c h) ρ).bind λz ρ=>(lift (pk ρ i) ρ).bind λx ρ=>lift (zP x (part l y) (part h z)) ρ|none=>(fP none (ev c a) ρ).bind λx ρ=>(fP (isVar l) (ev c l) ρ).bind λy ρ=>(fP (isVar h) (ev c h) ρ).bind λz ρ=>lift (zP x (part l y) (part h z)) ρ
 |.call f as,ρ=>(vf c as ρ).bind λxs ρ=>m7 c f xs ρ|.blt b [a],ρ=>(fP (isVar a) (ev c a) ρ).bind λx ρ=>lift (blt b [x]) ρ|.blt b as,ρ=>(evs c as ρ).bind λg ρ=>lift (blt b g) ρ|.inst B a,ρ=>(fP (isVar a) (ev c a) ρ).bind λx ρ=>.ok (.val (.bl (B.any λt=>cg t x))) ρ|.comp src n is one v w,ρ=>(srcOf (isVar src) (ev c src) ρ).bind λg s=>if g.length<=lim then(turns is one (ur c v) (ev c w) g [] (s++replicate n .aU)).bind λxs u=>.ok (.own xs) (bH ρ (isVar src) (u.take s.length))else .stuck|.mV a b,ρ=>(gj (isVar a) (ev c a) (isVar b) (ev c b) ρ).bind λq ρ=>lift ((o9 q.1).bind λi=>(o9 q.2).bind λj=>if-1000000<=i/\i<=1000000000/\j<=1000000000/\-1000000000<=j then some (.val (.lst ((List.range (j-i).toNat).map λ(k:Nat)=>D.int (i+(k:Int)))))else none) ρ|.PB a,ρ=>(ev c a ρ).bind λr ρ=>lift ((items r.d).map λg=>.val (.lst (g.mapIdx λi d=>D.tup [.int (i:Int),d]))) ρ|.zip a b,ρ=>(ev c a ρ).bind λx ρ=>(ev c b ρ).bind λy ρ=>lift ((items x.d).bind λg=>(items y.d).map λC=>.val (.lst ((g.zip C).map λp=>D.tup [p.1,p.2]))) ρ|.vw x,ρ=>match ρ[x]?with|some (.gY m)=>.ok (.val (.cX m)) (ρ.set x (.val false (.cX m)))|some (.qD e)=>.ok (.val (.dv (e.map (·.1)) (e.map (·.2)))) (ρ.set x (.val false (.dv (e.map (·.1)) (e.map (·.2)))))|some (.own b g)=>.ok (.val (.lst g)) (ρ.set x (.val b (.lst g)))|some (.val _ d)=>.ok (.val d) ρ|_=>.stuck
noncomputable def evs(c:Call):List P->List Sl->Res (List D)|[],ρ=>.ok [] ρ|a::r,ρ=>(ev c a ρ).bind λx ρ=>(evs c r ρ).bind λxs ρ=>.ok (x.d::xs) ρ
noncomputable def vf(c:Call):List P->List Sl->Res (List Arg)|[],ρ=>.ok [] ρ|a::r,ρ=>match isVar a with|some i=>(lift (pk ρ i) ρ).bind λ_ ρ=>(vf c r ρ).bind λxs ρ=>.ok (.dR i::xs) ρ|none=>(ev c a ρ).bind λx ρ=>(vf c r ρ).bind λxs ρ=>.ok (qe x::xs) ρ
noncomputable def ur(c:Call):Option P->List Sl->Res Bool|none,ρ=>.ok true ρ|some t,ρ=>iw (ev c t) ρ
end
theorem CQ{c:Call}{ρ:List Sl}:evs c [] ρ=.ok [] ρ:=rfl
theorem rR{c:Call}{a:P}{r:List P}{ρ:List Sl}:evs c (a::r) ρ=(HH.ev c a ρ).bind λx ρ=>(evs c r ρ).bind λxs ρ=>.ok (x.d::xs) ρ:=rfl
theorem De{c:Call}{ρ:List Sl}:vf c [] ρ=.ok [] ρ:=rfl
theorem vD{c:Call}{a:P}{r:List P}{ρ:List Sl}:vf c (a::r) ρ=match isVar a with|some i=>(lift (pk ρ i) ρ).bind λ_ ρ=>(vf c r ρ).bind λxs ρ=>.ok (.dR i::xs) ρ|none=>(HH.ev c a ρ).bind λx ρ=>(vf c r ρ).bind λxs ρ=>.ok (qe x::xs) ρ:=rfl
theorem E1{c i ρ}:ev c (.var i) ρ=match ρ[i]?with|some (.val _ d)=>.ok (.val d) ρ|some (.own b e)=>.ok (.val (.lst e)) (ρ.set i (.val b (.lst e)))|some (.gY (.k a))=>.ok (.val (.cX (.k a))) (ρ.set i (.val false (.cX (.k a))))|some (.qD a)=>.ok (.val (.dv (a.map (·.1)) (a.map (·.2)))) (ρ.set i (.val false (.dv (a.map (·.1)) (a.map (·.2)))))|_=>.stuck:=(rfl)
theorem E2{c d ρ}:ev c (.con d) ρ=.ok (.val d) ρ:=(rfl)
theorem E3{c o a b ρ}:ev c (.bin o a b) ρ=(gj (isVar a) (ev c a) (isVar b) (ev c b) ρ).bind λe ρ=>lift (pH o e.1 e.2) ρ:=(rfl)
theorem E4{c a ρ}:ev c (.neg a) ρ=(fP (isVar a) (ev c a) ρ).bind λx ρ=>lift (Ca x) ρ:=(rfl)
theorem E5{c a ρ}:ev c (.not a) ρ=(iw (ev c a) ρ).bind λb ρ=>.ok (.val (.bl (!b))) ρ:=(rfl)
theorem E6{c a b ρ}:ev c (.and a b) ρ=(iw (ev c a) ρ).bind λx ρ=>if x then(iw (ev c b) ρ).bind λy ρ=>.ok (.val (.bl y)) ρ else .ok (.val (.bl false)) ρ:=(rfl)
theorem E7{c a b ρ}:ev c (.or a b) ρ=(iw (ev c a) ρ).bind λx ρ=>if x then .ok (.val (.bl true)) ρ else(iw (ev c b) ρ).bind λy ρ=>.ok (.val (.bl y)) ρ:=(rfl)
theorem E8{c o a b ρ}:ev c (.cmp o a b) ρ=(gj (isVar a) (ev c a) (isVar b) (ev c b) ρ).bind λe ρ=>lift (lX o e.1 e.2) ρ:=(rfl)
theorem E9{c o o' a b d ρ}:ev c (.chain o o' a b d) ρ=(gj (isVar a) (ev c a) (isVar b) (ev c b) ρ).bind λe ρ=>(lift (if flat e.2=true then cm o e.1 e.2 else none) ρ).bind λk ρ=>if k then(fP (isVar d) (ev c d) ρ).bind λz ρ=>lift (lX o' e.2 z) ρ else .ok (.val (.bl false)) ρ:=(rfl)
theorem E10{c t a b ρ}:ev c (.YH t a b) ρ=(iw (ev c t) ρ).bind λk ρ=>if k then(ev c a ρ).bind λr ρ=>.ok (.val r.d) ρ else(ev c b ρ).bind λr ρ=>.ok (.val r.d) ρ:=(rfl)
theorem E11{c as ρ}:ev c (.tup as) ρ=(evs c as ρ).bind λa ρ=>.ok (.val (.tup a)) ρ:=(rfl)
theorem E12{c as ρ}:ev c (.lst as) ρ=(evs c as ρ).bind λa ρ=>.ok (.own a) ρ:=(rfl)
theorem E13{c a i ρ}:ev c (.idx a i) ρ=(gj (isVar a) (ev c a) (isVar i) (ev c i) ρ).bind λb ρ=>lift (vd b.1 b.2) ρ:=(rfl)
theorem E14{c a l h ρ}:ev c (.slice a l h) ρ=match isVar a with|some i=>(lift (pk ρ i) ρ).bind λ_ ρ=>(fP (isVar l) (ev c l) ρ).bind λy ρ=>(fP (isVar h) (ev c h) ρ).bind λz ρ=>(lift (pk ρ i) ρ).bind λx ρ=>lift (zP x (part l y) (part h z)) ρ|none=>(fP none (ev c a) ρ).bind λx ρ=>(fP (isVar l) (ev c l) ρ).bind λy ρ=>(fP (isVar h) (ev c h) ρ).bind λz ρ=>lift (zP x (part l y) (part h z)) ρ:=(rfl)
theorem E15{c f as ρ}:ev c (.call f as) ρ=(vf c as ρ).bind λxs ρ=>m7 c f xs ρ:=(rfl)
theorem E16{c b a ρ}:ev c (.blt b [a]) ρ=(fP (isVar a) (ev c a) ρ).bind λx ρ=>lift (blt b [x]) ρ:=(rfl)
theorem E17{c b x y r ρ}:ev c (.blt b (x::y::r)) ρ=(evs c (x::y::r) ρ).bind λa ρ=>lift (blt b a) ρ:=(rfl)
theorem Qj{c b ρ}:ev c (.blt b []) ρ=(evs c [] ρ).bind λa ρ=>lift (blt b a) ρ:=(rfl)
theorem E18{c ts a ρ}:ev c (.inst ts a) ρ=(fP (isVar a) (ev c a) ρ).bind λx ρ=>.ok (.val (.bl (ts.any λt=>cg t x))) ρ:=(rfl)
theorem E19{c src n is one test elt ρ}:ev c (.comp src n is one test elt) ρ=(srcOf (isVar src) (ev c src) ρ).bind λe a=>if e.length<=lim then(turns is one (ur c test) (ev c elt) e [] (a++replicate n .aU)).bind λxs b=>.ok (.own xs) (bH ρ (isVar src) (b.take a.length))else .stuck:=(rfl)
theorem E20{c a b ρ}:ev c (.mV a b) ρ=(gj (isVar a) (ev c a) (isVar b) (ev c b) ρ).bind λe ρ=>lift ((o9 e.1).bind λi=>(o9 e.2).bind λj=>if-1000000<=i/\i<=1000000000/\j<=1000000000/\-1000000000<=j then some (.val (.lst ((List.range (j-i).toNat).map λ(k:Nat)=>D.int (i+(k:Int)))))else none) ρ:=(rfl)
theorem E21{c a ρ}:ev c (.PB a) ρ=(ev c a ρ).bind λr ρ=>lift ((items r.d).map λb=>.val (.lst (b.mapIdx λi d=>D.tup [.int (i:Int),d]))) ρ:=(rfl)
theorem E22{c a b ρ}:ev c (.zip a b) ρ=(ev c a ρ).bind λx ρ=>(ev c b ρ).bind λy ρ=>lift ((items x.d).bind λe=>(items y.d).map λf=>.val (.lst ((e.zip f).map λp=>D.tup [p.1,p.2]))) ρ:=(rfl)
theorem E23{c x ρ}:ev c (.vw x) ρ=match ρ[x]?with|some (.gY m)=>.ok (.val (.cX m)) (ρ.set x (.val false (.cX m)))|some (.qD a)=>.ok (.val (.dv (a.map (·.1)) (a.map (·.2)))) (ρ.set x (.val false (.dv (a.map (·.1)) (a.map (·.2)))))|some (.own b e)=>.ok (.val (.lst e)) (ρ.set x (.val b (.lst e)))|some (.val _ d)=>.ok (.val d) ρ|_=>.stuck:=(rfl)
noncomputable def pckA(c:Call)(f p x t:Nat)(ρ:List Sl):Res R:=match pk ρ x with|some (.lst (_::_))=>ev c (.call f [.var p,.var x,.var t]) ρ|some (.lst [])=>ev c (.call f [.var p,.lst [.con (.int 0)],.var t]) ρ|_=>.stuck
inductive S where|pass|brk|cont|bad|expr(e:P)|asg(i:Nat)(e:P)|Hx(i:List Nat)(e:P)|Hy(x:Nat)(i e:P)|app(x:Nat)(e:P)|ret(e:P)|Tu|ifs(c:P)(a b:List S)|fJ(src:P)(i:List Nat)(one:Bool)(body:List S)|aug(x:Nat)(sub:Bool)(e:P)|DK(x:Nat)|zK(x k:Nat)deriving Inhabited
inductive Fl where|next|brk|cont|ret(r:R)deriving Inhabited
noncomputable def O7:Nat->D->Bool|_,.non=>true|_,.bl _=>true|_,.int _=>true|_,.str _=>true|k+1,.tup a=>a.all (O7 k)|_,_=>false
noncomputable def tldF(c:Call)(x y f g a:Nat)(ρ:List Sl):Res Fl:=match ρ[a]?with|some (.val _ d)=>if O7 3 d=true/\a≠x then(lift (put ρ x .aU) ρ).bind λb _=>match c f [.val false d]with|.ok (.val (.tup [.int z,.lst e,.tup h])) _=>if e.all cI=true/\h.all cI=true/\e.length<1000 then match c g [.val false d,.val false (.tup [.int z,.lst e,.tup h])]with|.ok (.val (.bl true)) _=>(lift (put b y (.val false (.tup [.int z,.lst e,.tup h]))) b).bind λi _=>.ok .next i|.ok (.val (.bl false)) _=>.ok (.ret (.val (.bl false))) b|_=>.stuck else .stuck|_=>.stuck else .stuck|_=>.stuck
noncomputable def lfs:Sl->Bool|.aU=>true|.val _ d=>O7 9 d|_=>false
noncomputable def ZL:D->Bool|.bl _=>true|.int _=>true|.non=>true|_=>false
noncomputable def wR:Sl->Sl|.val b d=>if O7 9 d=true then .val b d else .aU|_=>.aU
noncomputable def vlS:Sl->Bool|.aU=>true|.val _ _=>true|_=>false
noncomputable def lckS:Sl->Sl|.val b d=>if O7 9 d=true then .val b d else .val true d|s=>s
noncomputable def Qk:Sl->Sl->Sl|.val b d,t=>if O7 9 d=true then wR t else .val b d|_,t=>wR t
noncomputable def Tf(a b:List Sl):List Sl:=List.zipWith Qk a b
noncomputable def R8:D->Bool
 |.lst a=>decide (a.length<1000)&&a.all λr=>match r with|.lst is=>is.all cI&&decide (3<=is.length)|_=>false
 |_=>false
noncomputable def wrkT(b:List Sl)(x o v:Nat)(c:Fl)(a:List Sl):Res Fl:=match c with
 |.ret (.val d)=>if ZL d=true then .ok (.ret (.val d)) (Tf b a)else .stuck|.next=>match a[v]?,a[x]?with|some (.val _ (.int i)),some (.val true d)=>if(i≠0\/R8 d=true)/\o≠x/\o≠v then .ok .next (((Tf b a).set o .aU).set x .aU)else .stuck|_,_=>.stuck
 |_=>.stuck
noncomputable def fshT(y a b:Nat)(g:Fl)(ρ:List Sl):Res Fl:=match g with
 |.ret (.val d)=>if ZL d=true then .ok (.ret (.val d)) (ρ.map wR)else .stuck|.next=>match ρ[a]?,ρ[b]?with|some (.val false (.lst c)),some (.val false (.lst e))=>if c.all cI=true/\e.all cI=true/\c.length<1000/\0<e.length/\a≠y/\b≠y then(lift (put (ρ.map wR) y (.val false (.tup [.lst c,.lst e]))) ρ).bind λf _=>.ok .next f else .stuck|_,_=>.stuck
 |_=>.stuck
noncomputable def uV:R->Sl|.val d=>.val false d|.own a=>.own false a
noncomputable def jW(is:List Nat)(one:Bool)(body:List Sl->Res Fl):List D->List Sl->Res Fl|[],ρ=>.ok .next ρ|d::r,ρ=>match cj ρ is one d with|none=>.stuck|some ρ=>(body ρ).bind λa ρ=>match a with|.next=>jW is one body r ρ|.cont=>jW is one body r ρ|.brk=>.ok .next ρ|.ret r=>.ok (.ret r) ρ
theorem J9{is:List Nat}{o:Bool}{b:List Sl->Res Fl}{ρ:List Sl}:jW is o b [] ρ=.ok .next ρ:=rfl
theorem Dp{is:List Nat}{o:Bool}{b:List Sl->Res Fl}{d:D}{r:List D}{ρ:List Sl}:jW is o b (d::r) ρ=match cj ρ is o d with|none=>.stuck|some ρ=>(b ρ).bind λa ρ=>match a with|.next=>jW is o b r ρ|.cont=>jW is o b r ρ|.brk=>.ok .next ρ|.ret r=>.ok (.ret r) ρ:=rfl
noncomputable def vg(a:List Sl->Res Bool)(body:List Sl->Res Fl):Nat->List Sl->Res Fl|0,_=>.stuck|n+1,ρ=>(a ρ).bind λb ρ=>if b then(body ρ).bind λc ρ=>match c with|.next=>vg a body n ρ|.cont=>vg a body n ρ|.brk=>.ok .next ρ|.ret r=>.ok (.ret r) ρ else .ok .next ρ
theorem W4{f:List Sl->Res Bool}{b:List Sl->Res Fl}{ρ:List Sl}:vg f b 0 ρ=.stuck:=rfl
theorem Ka{f:List Sl->Res Bool}{b:List Sl->Res Fl}{n:Nat}{ρ:List Sl}:vg f b (n+1) ρ=(f ρ).bind λx ρ=>if x then(b ρ).bind λa ρ=>match a with|.next=>vg f b n ρ|.cont=>vg f b n ρ|.brk=>.ok .next ρ|.ret r=>.ok (.ret r) ρ else .ok .next ρ:=rfl
noncomputable def Jt(is:List Nat)(one:Bool)(a:Ev):List D->List (List D)->List Sl->Res (List (List D))|[],acc,ρ=>.ok acc ρ|d::r,acc,ρ=>match cj ρ is one d with|none=>.stuck|some ρ=>(a ρ).bind λx ρ=>match x with|.own b=>Jt is one a r (acc++[b]) ρ|.val _=>.stuck
noncomputable def rowAt(a:List (List D))(k:Int):Option (List D):=(lW a.length k).bind λr=>a[r]?
noncomputable def Wz(a:List (List D))(k:Int)(f:List D->Option (List D)):Option (List (List D)):=(lW a.length k).bind λr=>(a[r]?).bind λb=>(f b).map λc=>a.set r c
noncomputable def setAt(l:Int)(d:D)(a:List D):Option (List D):=(lW a.length l).map λm=>a.set m d
noncomputable def wM(ρ:List Sl)(x:Nat):Option (List (List D)):=match ρ[x]?with|some (.hold a)=>some a|_=>none
noncomputable def rowK(ρ:List Sl)(x:Nat)(k:D):Option (List D):=(wM ρ x).bind λa=>(o9 k).bind λk=>rowAt a k
noncomputable def WY(ρ:List Sl)(x:Nat)(o:Option (List (List D))):Res Fl:=match o with|some a=>.ok .next (ρ.set x (.hold a))|none=>.stuck
noncomputable def rowOne(x r:Nat)(c e f:List Sl->Res D)(ρ:List Sl):Res Fl:=(e ρ).bind λk ρ=>(lift ((wM ρ x).bind λa=>(a[r]?).bind λb=>(o9 k).bind λk=>(at' b k).bind o9) ρ).bind λu ρ=>(f ρ).bind λl ρ=>(lift ((wM ρ x).bind λa=>(a[r]?).bind λb=>(o9 l).bind λl=>(at' b l).bind o9) ρ).bind λv ρ=>(c ρ).bind λj ρ=>WY ρ x ((wM ρ x).bind λa=>(a[r]?).bind λb=>(o9 j).bind λj=>(setAt j (.int (u+v)) b).map λg=>a.set r g)
noncomputable def Kc(x y:Nat)(a b c:List Sl->Res D):Nat->Nat->List Sl->Res Fl|0,_,ρ=>.ok .next ρ|m+1,r,ρ=>(lift (put ρ y .aU) ρ).bind λρ _=>(rowOne x r a b c ρ).bind λ_ ρ=>Kc x y a b c m (r+1) ρ
noncomputable def MN(is:List Nat)(one:Bool)(body:List Sl->Res Fl)(b:List Sl->Option (Nat×List Sl)):List D->List Sl->Option (Nat×List Sl)|[],_=>none|d::r,ρ=>match cj ρ is one d with|none=>none|some ρ=>match b ρ with|some x=>some x|none=>match body ρ with|.ok .next a=>MN is one body b r a|.ok .cont a=>MN is one body b r a|_=>none
noncomputable def QK(a:List Sl->Res Bool)(body:List Sl->Res Fl)(e:List Sl->Option (Nat×List Sl)):Nat->List Sl->Option (Nat×List Sl)|0,_=>none|n+1,ρ=>match a ρ with
   |.ok true c=>match e c with|some x=>some x|none=>match body c with|.ok .next b=>QK a body e n b|.ok .cont b=>QK a body e n b|_=>none
   |_=>none
noncomputable def Jw:P->P|.idx a _=>a|.blt .sum [.comp s _ _ _ _ _]=>s|e=>e
noncomputable def arg0:P->P|.call _ (a::_)=>a|e=>e
noncomputable def xf(c:Call)(e:P)(ρ:List Sl):Option (Nat×List Sl):=match Jw e with
 |.call f as=>match vf c as ρ with
   |.ok xs b=>match bK b xs []with
     |some args=>match c f args with|.exc k a=>some (k,dG xs a 0 b)|_=>none
     |none=>none
   |_=>none
 |_=>none
mutual
noncomputable def ex(c:Call)(n:Nat):S->List Sl->Res Fl
 |.pass,ρ=>.ok .next ρ|.brk,ρ=>.ok .brk ρ|.cont,ρ=>.ok .cont ρ|.bad,_=>.stuck|.expr e,ρ=>(ev c e ρ).bind λ_ ρ=>.ok .next ρ|.asg i e,ρ=>(ev c e ρ).bind λr ρ=>(lift (put ρ i (uV r)) ρ).bind λg _=>.ok .next g|.Hx is e,ρ=>(ev c e ρ).bind λr ρ=>match r.d with|.tup f=>(lift (putAll ρ is f) ρ).bind λg _=>.ok .next g|_=>.stuck
 |.Hy x i e,ρ=>(ev c e ρ).bind λr ρ=>(lift (pk ρ x) ρ).bind λ_ ρ=>(fP (isVar i) (ev c i) ρ).bind λk ρ=>match ρ[x]?,k with
   |some (.own b f),.int k=>match lW f.length k with|some j=>.ok .next (ρ.set x (.own b (f.set j r.d)))|none=>.stuck
   |_,_=>.stuck
 |.app x e,ρ=>(lift (R0 ρ x) ρ).bind λ_ ρ=>(ev c e ρ).bind λr ρ=>match ρ[x]?with|some (.own b f)=>if f.length<lim then .ok .next (ρ.set x (.own b (f++[r.d])))else .stuck|_=>.stuck
 |.ret e,ρ=>match isVar e with
   |some i=>match ρ[i]?with|some (.own false f)=>.ok (.ret (.own f)) (ρ.set i .aU)|_=>(ev c e ρ).bind λr ρ=>.ok (.ret r) ρ
   |none=>(ev c e ρ).bind λr ρ=>.ok (.ret r) ρ
 |.Tu,ρ=>.ok (.ret (.val .non)) ρ|.ifs t a b,ρ=>(iw (ev c t) ρ).bind λk ρ=>if k then je c n a ρ else je c n b ρ|.fJ src is one body,ρ=>(srcOf (isVar src) (ev c src) ρ).bind λf h=>(jW is one (je c n body) f h).bind λm l=>.ok m (bH ρ (isVar src) l)|.aug x sub e,ρ=>(lift (pk ρ x) ρ).bind λa ρ=>(fP (isVar e) (ev c e) ρ).bind λb ρ=>match a,b with|.int i,.int j=>(lift (put ρ x (.val false (.int (if sub then i-j else i+j)))) ρ).bind λg _=>.ok .next g|_,_=>.stuck
 |.DK x,ρ=>match ρ[x]?with|some .aU=>.ok .next (ρ.set x (.gY (.s [])))|_=>.stuck
 |.zK x k,ρ=>match ρ[x]?,ρ[k]?with|some (.gY (.s ks)),some (.val _ (.tup f))=>if gZ (.tup f)=true/\ks.length<lim then .ok .next (ρ.set x (.gY (.s (stK ks (f.map cJ)))))else .stuck|_,_=>.stuck
noncomputable def je(c:Call)(n:Nat):List S->List Sl->Res Fl|[],ρ=>.ok .next ρ|s::r,ρ=>(ex c n s ρ).bind λfl ρ=>match fl with|.next=>je c n r ρ|fl=>.ok fl ρ
noncomputable def exX(c:Call)(n:Nat):S->List Sl->Option (Nat×List Sl)
 |.ifs t a b,ρ=>match iw (ev c t) ρ with|.ok x f=>if x then BK c n a f else BK c n b f|_=>none
 |.fJ src is one body,ρ=>match xf c src ρ with|some x=>some x|none=>match srcOf (isVar src) (ev c src) ρ with|.ok g f=>(MN is one (je c n body) (BK c n body) g f).map λx=>(x.1,bH ρ (isVar src) x.2)|_=>none
 |.ret e,ρ=>xf c e ρ|.asg _ e,ρ=>xf c e ρ|.expr e,ρ=>xf c e ρ|_,_=>none
noncomputable def BK(c:Call)(n:Nat):List S->List Sl->Option (Nat×List Sl)|[],_=>none|s::r,ρ=>match exX c n s ρ with|some x=>some x|none=>match ex c n s ρ with|.ok .next a=>BK c n r a|_=>none
end
theorem X1{c n ρ}:ex c n (.pass) ρ=.ok .next ρ:=(rfl)
theorem X2{c n ρ}:ex c n (.brk) ρ=.ok .brk ρ:=(rfl)
theorem X3{c n ρ}:ex c n (.cont) ρ=.ok .cont ρ:=(rfl)
theorem X4{c n ρ}:ex c n (.bad) ρ=.stuck:=(rfl)
theorem X5{c n e ρ}:ex c n (.expr e) ρ=(ev c e ρ).bind λ_ ρ=>.ok .next ρ:=(rfl)
theorem X6{c n i e ρ}:ex c n (.asg i e) ρ=(ev c e ρ).bind λr ρ=>(lift (put ρ i (uV r)) ρ).bind λa _=>.ok .next a:=(rfl)
theorem X7{c n is e ρ}:ex c n (.Hx is e) ρ=(ev c e ρ).bind λr ρ=>match r.d with|.tup b=>(lift (putAll ρ is b) ρ).bind λa _=>.ok .next a|_=>.stuck:=(rfl)
theorem X8{c n x i e ρ}:ex c n (.Hy x i e) ρ=(ev c e ρ).bind λr ρ=>(lift (pk ρ x) ρ).bind λ_ ρ=>(fP (isVar i) (ev c i) ρ).bind λk ρ=>match ρ[x]?,k with
 |some (.own b a),.int k=>match lW a.length k with|some j=>.ok .next (ρ.set x (.own b (a.set j r.d)))|none=>.stuck
 |_,_=>.stuck:=(rfl)
theorem X9{c n x e ρ}:ex c n (.app x e) ρ=(lift (R0 ρ x) ρ).bind λ_ ρ=>(ev c e ρ).bind λr ρ=>match ρ[x]?with|some (.own b a)=>if a.length<lim then .ok .next (ρ.set x (.own b (a++[r.d])))else .stuck|_=>.stuck:=(rfl)
theorem Vk{c n e ρ}:ex c n (.ret e) ρ=match isVar e with
 |some i=>match ρ[i]?with|some (.own false a)=>.ok (.ret (.own a)) (ρ.set i .aU)|_=>(ev c e ρ).bind λr ρ=>.ok (.ret r) ρ
 |none=>(ev c e ρ).bind λr ρ=>.ok (.ret r) ρ:=(rfl)
theorem ZS{c n ρ}:ex c n (.Tu) ρ=.ok (.ret (.val .non)) ρ:=(rfl)
theorem Wi{c n t a b ρ}:ex c n (.ifs t a b) ρ=(iw (ev c t) ρ).bind λk ρ=>if k then je c n a ρ else je c n b ρ:=(rfl)
theorem Yv{c n src is one body ρ}:ex c n (.fJ src is one body) ρ=(srcOf (isVar src) (ev c src) ρ).bind λe a=>(jW is one (je c n body) e a).bind λf b=>.ok f (bH ρ (isVar src) b):=(rfl)
theorem WD{c n x sub e ρ}:ex c n (.aug x sub e) ρ=(lift (pk ρ x) ρ).bind λa ρ=>(fP (isVar e) (ev c e) ρ).bind λb ρ=>match a,b with|.int i,.int j=>(lift (put ρ x (.val false (.int (if sub then i-j else i+j)))) ρ).bind λf _=>.ok .next f|_,_=>.stuck:=(rfl)
theorem X15{c n x ρ}:ex c n (.DK x) ρ=match ρ[x]?with|some .aU=>.ok .next (ρ.set x (.gY (.s [])))|_=>.stuck:=(rfl)
theorem X16{c n x k ρ}:ex c n (.zK x k) ρ=match ρ[x]?,ρ[k]?with|some (.gY (.s ks)),some (.val _ (.tup a))=>if gZ (.tup a)=true/\ks.length<lim then .ok .next (ρ.set x (.gY (.s (stK ks (a.map cJ)))))else .stuck|_,_=>.stuck:=(rfl)
structure Fd where
 np:Nat
 nn:Nat
 body:List S deriving Inhabited
noncomputable abbrev Tab:=Nat->Option Fd
noncomputable def enter(c:Call)(n:Nat)(d:Fd)(args:List Sl):Res R:=if args.length=d.np/\d.np<=d.nn then match je c n d.body (args++replicate (d.nn-d.np) .aU)with|.ok .next ρ=>.ok (.val .non) (ρ.take d.np)|.ok (.ret r) ρ=>.ok r (ρ.take d.np)|_=>match BK c n d.body (args++replicate (d.nn-d.np) .aU)with|some (k,ρ)=>.exc k (ρ.take d.np)|none=>.stuck else .stuck
noncomputable def run(Γ:Tab)(w:Nat):Nat->Call|0,_,_=>.stuck|n+1,f,args=>match Γ f with|some d=>enter (run Γ w n) w d args|none=>.stuck
end HH
end
section
namespace HH
open PySem L2
variable{ρ:List Sl}{σ:St}{v:V}
noncomputable def Dc.ho:Dc->HO|.k a=>.dK (a.map λp=>(Sum.inl p.1,V.int p.2))|.t a=>.dT (a.map λp=>(p.1.map Sum.inl,V.int p.2))|.s ks=>.dT (ks.map λk=>(k.map Sum.inl,V.bl true))
noncomputable def Ak(ks:List Int)(vs:List V):HO:=.dK ((ks.zip vs).map λp=>(Sum.inl p.1,p.2))
section
variable(K:PySem.W.Frag)
mutual
def Rep(F:Hp):V->D->Prop|v,.non=>v=.non|v,.bl b=>v=.bl b|v,.int i=>v=.int i|v,.str x=>v=.str x|v,.tup c=>∃a xs,v=.ref a/\jc K F a xs/\aF F xs c|v,.lst c=>∃a xs,v=.ref a/\gb K F a xs/\aF F xs c|v,.cX m=>∃a o,v=.ref a/\F a=some (.eG o m.ho)|v,.dv ks c=>∃a o vs,v=.ref a/\F a=some (.eG o (Ak ks vs))/\aF F vs c/\ks.length=c.length
def aF(F:Hp):List V->List D->Prop|vs,[]=>vs=[]|vs,d::a=>∃v r,vs=v::r/\Rep F v d/\aF F r a
end
end
section
variable{K:PySem.W.Frag}{F F' H H':Hp}
theorem aK.eZ{a:Addr}{xs:List V}(e:aK H H')(h:jc K H a xs):jc K H' a xs:=by
 rcases h with(h|⟨o,h⟩)|h;.exact .inl (.inl (e _ _ h))
 .exact .inl (.inr ⟨o,e _ _ h⟩)
 .exact .inr h
mutual
theorem Rep.mono(e:aK F F'):∀{d:D}{v:V},Rep K F v d->Rep K F' v d|.non,_,h=>by rw[Rep]at h ⊢;exact h|.bl _,_,h=>by rw[Rep]at h ⊢;exact h|.int _,_,h=>by rw[Rep]at h ⊢;exact h|.str _,_,h=>by rw[Rep]at h ⊢;exact h|.tup b,_,h=>by rw[Rep]at h ⊢;obtain⟨a,xs,rfl,hs,r⟩:=h;exact⟨a,xs,rfl,aK.eZ e hs,aF.mono e r⟩|.lst b,_,h=>by rw[Rep]at h ⊢;obtain⟨a,xs,rfl,hs,r⟩:=h;exact⟨a,xs,rfl,e.seq hs,aF.mono e r⟩|.cX m,_,h=>by rw[Rep]at h ⊢;obtain⟨a,o,rfl,hs⟩:=h;exact⟨a,o,rfl,e _ _ hs⟩|.dv ks b,_,h=>by rw[Rep]at h ⊢;obtain⟨a,o,vs,rfl,hs,r,c⟩:=h;exact⟨a,o,vs,rfl,e _ _ hs,aF.mono e r,c⟩theorem aF.mono(e:aK F F'):∀{a:List D}{vs:List V},aF K F vs a->aF K F' vs a|[],_,h=>by rw[aF]at h ⊢;exact h|d::a,_,h=>by rw[aF]at h ⊢;obtain⟨v,r,rfl,h1,b⟩:=h;exact⟨v,r,rfl,Rep.mono e h1,aF.mono e b⟩end
theorem aF.nil:aF K F [] []:=by rw[aF]
theorem aF.cons{v:V}{d:D}{vs:List V}{a:List D}(h:Rep K F v d)(t:aF K F vs a):aF K F (v::vs) (d::a):=by rw[aF];exact⟨v,vs,rfl,h,t⟩
theorem aF.cz{vs:List V}{d:D}{a:List D}(h:aF K F vs (d::a)):∃v r,vs=v::r/\Rep K F v d/\aF K F r a:=by rw[aF]at h;exact h
theorem aF.eV{vs:List V}(h:aF K F vs []):vs=[]:=by rw[aF]at h;exact h
theorem aF.length:∀{a:List D}{vs:List V},aF K F vs a->vs.length=a.length|[],_,h=>by rw[h.eV];rfl|d::a,_,h=>by obtain⟨v,r,rfl,_,t⟩:=h.cz;simp[aF.length t]
theorem aF.get:∀{a:List D}{vs:List V}{i:Nat}{d:D},aF K F vs a->a[i]?=some d->∃v,vs[i]?=some v/\Rep K F v d|[],_,_,_,h,e=>by simp at e|d::a,_,0,_,h,e=>by obtain⟨v,r,rfl,h1,t⟩:=h.cz;simp at e;subst e;exact⟨v,rfl,h1⟩|d::a,_,i+1,_,h,e=>by obtain⟨v,r,rfl,_,t⟩:=h.cz;simp at e;obtain⟨w,b,c⟩:=t.get e;exact⟨w,by simpa using b,c⟩
theorem aF.append:∀{a b:List D}{vs c:List V},aF K F vs a->aF K F c b->aF K F (vs++c) (a++b)|[],_,_,_,h,h'=>by rw[h.eV];exact h'|d::a,_,_,_,h,h'=>by obtain⟨v,r,rfl,h1,t⟩:=h.cz;exact .cons h1 (t.append h')
theorem aF.set{v:V}{d:D}(hr:Rep K F v d):∀{a:List D}{vs:List V}(i:Nat),aF K F vs a->aF K F (vs.set i v) (a.set i d)|[],_,_,h=>by rw[h.eV];exact .nil|_::_,_,0,h=>by obtain⟨w,r,rfl,h1,t⟩:=h.cz;exact .cons hr t|_::_,_,i+1,h=>by obtain⟨w,r,rfl,h1,t⟩:=h.cz;exact .cons h1 (aF.set hr i t)
theorem aF.take:∀{a:List D}{vs:List V}(n:Nat),aF K F vs a->aF K F (vs.take n) (a.take n)|[],_,n,h=>by rw[h.eV];simpa using aF.nil|_::_,_,0,h=>.nil|_::_,_,n+1,h=>by obtain⟨w,r,rfl,h1,t⟩:=h.cz;exact .cons h1 (t.take n)
theorem aF.drop:∀{a:List D}{vs:List V}(n:Nat),aF K F vs a->aF K F (vs.drop n) (a.drop n)|[],_,n,h=>by rw[h.eV];simpa using aF.nil|_::_,_,0,h=>h|_::_,_,n+1,h=>by obtain⟨w,r,rfl,h1,t⟩:=h.cz;exact t.drop n
theorem aF.rep{a:List D}{vs:List V}(h:aF K F vs a):∀n,aF K F (replicate n vs).flatten (replicate n a).flatten|0=>by simpa using aF.nil|n+1=>by simpa[replicate_succ]using h.append (aF.rep h n)
inductive Oc where|l(ds:List D)|d(m:Dc)|v(kvs:List (Int×D))
noncomputable def lst?:Sl->Option Oc|.own _ a=>some (.l a)|.lent a=>some (.l a)|.gY m=>some (.d m)|.qD b=>some (.v b)|_=>none
def p6(K:PySem.W.Frag)(F:Hp)(o:HO):Oc->Prop|.l b=>∃xs,o=.lst xs/\aF K F xs b|.d m=>o=m.ho|.v a=>∃vs,o=Ak (a.map (·.1)) vs/\aF K F vs (a.map (·.2))
theorem p6.mono{o:HO}{x:Oc}(e:aK F F')(h:p6 K F o x):p6 K F' o x:=by cases x with|l c=>obtain⟨xs,a,h⟩:=h;exact⟨xs,a,h.mono e⟩|d m=>exact h|v b=>obtain⟨xs,a,h⟩:=h;exact⟨xs,a,h.mono e⟩
def bu(ρ:List Sl)(σ:St)(i:Nat)(a:Addr):Prop:=(∃s b,ρ[i]?=some s/\lst? s=some b)/\σ[i]?=some (some (V.ref a))
def Own(ρ:List Sl)(σ:St)(a:Addr):Prop:=∃i,bu ρ σ i a
structure GS(K:PySem.W.Frag)(F:Hp)(ρ:List Sl)(σ:St)(H:Hp):Prop where
 sub:aK F H
 len:ρ.length=σ.length
 val:∀(i:Nat)(b:Bool)(d:D),ρ[i]?=some (Sl.val b d)->∃v:V,σ[i]?=some (some v)/\Rep K F v d
 own:∀(i:Nat)(s:Sl)(ds:Oc),ρ[i]?=some s->lst? s=some ds->∃(a:Addr)(xs:HO),σ[i]?=some (some (V.ref a))/\H a=some xs/\F a=none/\p6 K F xs ds
 dis:∀(i j:Nat)(a:Addr),bu ρ σ i a->bu ρ σ j a->i=j
theorem GS.qH(g:GS K F ρ σ H)(i:Nat)(s:Sl)(b:List D)(e:ρ[i]?=some s)(c:lst? s=some (.l b)):∃(a:Addr)(xs:List V),σ[i]?=some (some (V.ref a))/\H a=some (.lst xs)/\F a=none/\aF K F xs b:=by obtain⟨a,o,h1,f,h,xs,rfl,j⟩:=g.own i s (.l b) e c;exact⟨a,xs,h1,f,h,j⟩
noncomputable def DW:Sl->Bool|.val b _=>b|.own b _=>b|.lent _=>true|.aU=>false|.gY _=>false|.qD _=>false|.hold _=>true
def jZ:Sl->Sl->Prop|.val true d,s=>s=.val true d|.own true _,s=>(∃a,s=.own true a)\/∃d,s=.val true d|.lent a,s=>s=.lent a|.hold a,s=>s=.hold a|_,_=>True
theorem jZ.refl(s:Sl):jZ s s:=by unfold jZ;split<;>first|rfl|exact .inl ⟨_,rfl⟩|trivial
theorem jZ.DW{s a:Sl}(h:jZ s a)(l:DW s=true):HH.DW a=true:=by cases s with
 |aU=>cases l|gY _=>cases l|qD _=>cases l|val b d=>cases b with|true=>cases h;rfl|false=>cases l
 |own b d=>cases b with|true=>rcases h with⟨_,rfl⟩|⟨_,rfl⟩<;>rfl|false=>cases l
 |lent d=>cases h;rfl|hold d=>cases h;rfl
theorem jZ.trans{s c a:Sl}(l:HH.DW s=true)(h:jZ s c)(h':jZ c a):jZ s a:=by cases s with
 |aU=>cases l|gY _=>cases l|qD _=>cases l|val b d=>cases b with|true=>cases h;exact h'|false=>cases l
 |own b d=>cases b with
   | true => rcases h with⟨_,rfl⟩|⟨d,rfl⟩;.exact h'
             .exact .inr ⟨d,h'⟩|false=>cases l
 |lent d=>cases h;exact h'|hold d=>cases h;exact h'
noncomputable def nt:Option HO->Option HO|some (.tup _)=>none|some (.eG _ (.tup _))=>none|o=>o
theorem jQ{o:Option HO}(h:o=none):nt o=none:=by rw[h];rfl
theorem Cr{H:Hp}{b:Addr}{xs:List V}(h:H b=some (.lst xs))(z:nt (H b)=none):False:=by rw[h]at z;cases z
theorem Aj{o:HO}{x:Oc}(h:p6 K F o x)(z:nt (some o)=none):False:=by cases x with|l b=>obtain⟨xs,rfl,_⟩:=h;cases z|d m=>cases m<;>(cases(show o=_ from h);cases z)|v a=>obtain⟨xs,rfl,_⟩:=h;cases z
structure bV(K:PySem.W.Frag)(F:Hp)(ρ:List Sl)(σ:St)(H:Hp)(F':Hp)(ρ':List Sl)(σ':St)(H':Hp):Prop where
 gs:GS K F' ρ' σ' H'
 cW:aK F F'
 zR:∀b,F b=none->F' b≠none->Own ρ σ b\/nt (H b)=none
 keep:∀b o,H b=some o->¬ Own ρ σ b->H' b=some o
 zL:∀b,Own ρ' σ' b->Own ρ σ b\/H b=none
 len:ρ'.length=ρ.length
 lk:∀(i:Nat)(s:Sl),ρ[i]?=some s->DW s=true->σ'[i]?=σ[i]?/\∃s',ρ'[i]?=some s'/\jZ s s'
theorem bV.refl{ρ:List Sl}{σ:St}(g:GS K F ρ σ H):bV K F ρ σ H F ρ σ H:=⟨g,aK.refl _,λb h h'=>absurd h h',λ_ _ h _=>h,λ_ h=>.inl h,rfl,λi s h _=>⟨rfl,s,h,.refl s⟩⟩
theorem bV.trans{m r p t:Hp}{ρ f j:List Sl}{σ g k:St}(a:bV K F ρ σ H m f g p)(b:bV K m f g p r j k t):bV K F ρ σ H r j k t:=by
 have back:∀c,Own f g c\/p c=none->Own ρ σ c\/H c=none:=λc h=>by
  rcases h with h|h;.exact a.zL c h
  . by_cases ho:Own ρ σ c;.exact .inl ho
    .right;cases e:H c with|none=>rfl|some o=>rw[a.keep c o e ho]at h;cases h
 refine⟨b.gs,a.cW.trans b.cW,λc h h'=>?_,λc o h n=>?_,λc h=>back c (b.zL c h),b.len.trans a.len,λi s h l=>?_⟩
 . by_cases e:m c=none
   . by_cases ho:Own ρ σ c;.exact .inl ho
     . rcases b.zR c e h' with z|z;.exact(back c (.inl z)).imp id jQ
       .right;cases q:H c with|none=>rfl|some o=>rw[a.keep c o q ho]at z;exact z
   .exact a.zR c h e
 . refine b.keep c o (a.keep c o h n) λh'=>?_;rcases a.zL c h' with h'|h';.exact n h'
   .rw[h]at h';cases h'
 .obtain⟨w,s1,h1,u⟩:=a.lk i s h l;obtain⟨x,s2,y,A⟩:=b.lk i s1 h1 (u.DW l);exact⟨x.trans w,s2,y,.trans l u A⟩
def di(K:PySem.W.Frag)(F H:Hp)(v:V)(d:D):Prop:=Rep K F v d\/∃a xs b,v=.ref a/\H a=some (.lst xs)/\aF K F xs b/\d=.lst b
def cF(K:PySem.W.Frag)(F':Hp)(b:List Sl)(c:St)(H':Hp)(ρ:List Sl)(σ:St)(H:Hp)(v:V):R->Prop|.val d=>Rep K F' v d|.own e=>∃a xs,v=.ref a/\H' a=some (.lst xs)/\F' a=none/\aF K F' xs e/\¬ Own b c a/\(Own ρ σ a\/H a=none)
theorem aK.cY{F:Hp}{a:Addr}{o:HO}(h:F a=none):aK F (upd F a o):=λb u e=>by
 have:b≠a:=by rintro rfl;rw[h]at e;cases e
 rw[aC this];exact e
theorem bV.eG{c:List Sl}{f:St}{r:R}(s:bV K F ρ σ H F' c f H')(h:cF K F' c f H' ρ σ H v r):∃g,bV K F ρ σ H g c f H'/\aK F' g/\Rep K g v r.d:=by cases r with|val d=>exact⟨F',s,.refl _,h⟩|own w=>
   obtain⟨a,xs,rfl,h1,x,y,z,A⟩:=h;have k:aK F' (upd F' a (.lst xs)):=aK.cY x;refine⟨upd F' a (.lst xs),⟨⟨λb o e=>?_,s.gs.len,λi b d e=>?_,λi q l e t=>?_,s.gs.dis⟩,s.cW.trans k,λb n u=>?_,s.keep,s.zL,s.len,s.lk⟩,k,?_⟩
   . by_cases j:b=a;.subst j;rw[aR]at e;cases e;exact h1
     .rw[aC j]at e;exact s.gs.sub b o e
   .obtain⟨v,m,p⟩:=s.gs.val i b d e;exact⟨v,m,p.mono k⟩
   . obtain⟨b,ys,m,p,B,C⟩:=s.gs.own i q l e t;have j:b≠a:=by rintro rfl;exact z ⟨i,⟨q,l,e,t⟩,m⟩
     exact⟨b,ys,m,p,by rw[aC j];exact B,C.mono k⟩
   . by_cases j:b=a;.subst j;exact A.imp id jQ
     .rw[aC j]at u;exact s.zR b n u
   .show Rep K _ _ (.lst w);rw[Rep];exact⟨a,xs,rfl,gb.of aR,y.mono k⟩
theorem GS.pk{ρ:List Sl}{σ:St}{i:Nat}{d:D}(g:GS K F ρ σ H)(e:HH.pk ρ i=some d):∃v:V,σ[i]?=some (some v)/\di K F H v d:=by
 unfold HH.pk at e;split at e;.rename_i b d' h;cases e;obtain⟨v,h1,c⟩:=g.val i b d h;exact⟨v,h1,.inl c⟩
 .rename_i b f h;cases e;obtain⟨a,xs,h1,c,k,j⟩:=g.qH i _ f h rfl;exact⟨.ref a,h1,.inr ⟨a,xs,f,rfl,c,j,rfl⟩⟩
 .rename_i f h;cases e;obtain⟨a,xs,h1,c,k,j⟩:=g.qH i _ f h rfl;exact⟨.ref a,h1,.inr ⟨a,xs,f,rfl,c,j,rfl⟩⟩
 .cases e
structure Ext(F H F' H':Hp):Prop where
 hs:aK H H'
 fs:aK F F'
 sub:aK F' H'
 gr:∀b,F b=none->F' b≠none->nt (H b)=none
theorem Ext.refl(h:aK F H):Ext F H F H:=⟨.refl _,.refl _,h,λ_ a b=>absurd a b⟩
theorem Ext.stp(g:GS K F ρ σ H)(e:Ext F H F' H'):bV K F ρ σ H F' ρ σ H':=by
 refine⟨⟨e.sub,g.len,λi b d h=>?_,λi s j h h'=>?_,g.dis⟩,e.fs,λb n k=>.inr (e.gr b n k),λb o h _=>e.hs b o h,λ_ h=>.inl h,rfl,λi s h _=>⟨rfl,s,h,.refl s⟩⟩;.obtain⟨v,h1,c⟩:=g.val i b d h;exact⟨v,h1,c.mono e.fs⟩
 .obtain⟨a,xs,h1,c,l,f⟩:=g.own i s j h h';refine⟨a,xs,h1,e.hs _ _ c,?_,f.mono e.fs⟩;cases q:F' a with|none=>rfl|some o=>have:=e.gr a l (by rw[q];simp);rw[c]at this;exact(Aj f this).elim
def cA(K:PySem.W.Frag)(F' H' H:Hp)(v:V):R->Prop|.val d=>Rep K F' v d|.own b=>∃a xs,v=.ref a/\H' a=some (.lst xs)/\F' a=none/\aF K F' xs b/\H a=none
theorem cA.pK{r:R}(g:GS K F ρ σ H)(h:cA K F' H' H v r):cF K F' ρ σ H' ρ σ H v r:=by cases r with|val d=>exact h|own p=>obtain⟨a,xs,rfl,h1,l,m,f⟩:=h;refine⟨a,xs,rfl,h1,l,m,?_,.inr f⟩;rintro⟨i,⟨s,c,e,n⟩,o⟩;obtain⟨b,ys,j,k,_⟩:=g.own i s c e n;rw[o]at j;cases j;rw[f]at k;cases k
theorem cF.later{m j k l:Hp}{c f:List Sl}{g i:St}{r:R}(a:bV K F ρ σ H m c g j)(h:cF K k f i l c g j v r):cF K k f i l ρ σ H v r:=by cases r with|val d=>exact h|own s=>
   obtain⟨b,xs,rfl,h1,n,p,q,h5⟩:=h;refine⟨b,xs,rfl,h1,n,p,q,?_⟩;rcases h5 with h5|h5;.exact a.zL b h5
   . by_cases ho:Own ρ σ b;.exact .inl ho
     .right;cases e:H b with|none=>rfl|some o=>rw[a.keep b o e ho]at h5;cases h5
end
end HH
end
section
namespace HH
open PySem L2 PySem.Spec PyProof.Rows
variable{ρ' ρ ρ₀:List Sl}{es:List Expr}{K:PySem.W.Frag}{F H H₀:Hp}{σ:L2.St}{i n:Nat}{ds:List D}{x:Str}{v:V}{vs:List V}{op:CmpOp}{p':Pos}{as:List Arg}
theorem ao{c e:Type}{x:Res c}{f:c->List Sl->Res e}{b:e}(h:x.bind f=.ok b ρ'):∃a ρ,x=.ok a ρ/\f a ρ=.ok b ρ':=by cases x with|ok a ρ=>exact⟨a,ρ,rfl,h⟩|exc _ _=>cases h|stuck=>cases h
theorem aJ{c:Type}{o:Option c}{a:c}(h:lift o ρ=.ok a ρ'):o=some a/\ρ=ρ':=by cases o with|none=>cases h|some b=>cases h;exact⟨rfl,rfl⟩
theorem map_some{c e:Type}{o:Option c}{f:c->e}{b:e}(h:o.map f=some b):∃a,o=some a/\f a=b:=by cases o with|none=>cases h|some a=>cases h;exact⟨a,rfl,rfl⟩
theorem fB{c e:Type}{o:Option c}{f:c->Option e}{b:e}(h:o.bind f=some b):∃a,o=some a/\f a=some b:=by cases o with|none=>cases h|some a=>exact⟨a,rfl,h⟩
theorem bL{e:Type}{c:Prop}[Decidable c]{a b:e}(h:(if c then some a else none)=some b):c/\a=b:=by
 split at h;.rename_i hc;cases h;exact⟨hc,rfl⟩
 .cases h
section
variable{X:Cx}{c:Call}{e a b:Expr}{p pa pb:P}{pos:Pos}
theorem gh{t t':TE}(h:PE X e t)(i:∀σ H Q,t' σ H Q->t σ H Q):PE X e t':=λf s σ H Q I q=>h f s σ H Q I (i σ H Q q)
theorem tH{t t':TT}(h:PT X e t)(i:∀σ H Q,t' σ H Q->t σ H Q):PT X e t':=λf s σ H Q I q=>h f s σ H Q I (i σ H Q q)
theorem Ik{t t':TT}(h:PW X e t)(i:∀σ H Q,t' σ H Q->t σ H Q):PW X e t':=λg f s σ H Q I q=>h g f s σ H Q I (i σ H Q q)
theorem tK{t t':TA}(h:PA X es t)(i:∀σ H Q,t' σ H Q->t σ H Q):PA X es t':=λpos f s σ H Q I q=>h pos f s σ H Q I (i σ H Q q)
inductive zB(K:PySem.W.Frag)(f:Ev)(σ:L2.St)(H:Hp)(Q:VK):Prop where|mk(F:Hp)(ρ:List Sl)(r:R)(ρ':List Sl)(g:GS K F ρ σ H)(e:f ρ=.ok r ρ')(k:∀v F' H',bV K F ρ σ H F' ρ' σ H'->cF K F' ρ' σ H' ρ σ H v r->Q v H')
inductive IW(K:PySem.W.Frag)(f:List Sl->Res Bool)(σ:L2.St)(H:Hp)(Q:Bool->Hp->Prop):Prop where|mk(F:Hp)(ρ:List Sl)(b:Bool)(ρ':List Sl)(g:GS K F ρ σ H)(e:f ρ=.ok b ρ')(k:∀F' H',bV K F ρ σ H F' ρ' σ H'->Q b H')
inductive W7(K:PySem.W.Frag)(f:List Sl->Res (List D))(σ:L2.St)(H:Hp)(Q:List V->Hp->Prop):Prop where|mk(F:Hp)(ρ:List Sl)(ds:List D)(ρ':List Sl)(g:GS K F ρ σ H)(e:f ρ=.ok ds ρ')(k:∀vs F' H',bV K F ρ σ H F' ρ' σ H'->aF K F' vs ds->Q vs H')
structure SX(X:Cx)(c:Call)(e:Expr)(p:P):Prop where ev:PE X e (zB X.K (HH.ev c p))var:∀i,isVar p=some i->PE X e (Ri i)
def SA(X:Cx)(c:Call)(es:List Expr)(ps:List P):Prop:=PA X es (W7 X.K (evs c ps))/\ps.length=es.length
theorem SX.fP(h:SX X c e p):∃t,PE X e t/\∀{σ:L2.St}{H F:Hp}{ρ ρ':List Sl}{d:D}{Q:VK},GS X.K F ρ σ H->fP (isVar p) (HH.ev c p) ρ=.ok d ρ'->(∀v j f,bV X.K F ρ σ H j ρ' σ f->di X.K j f v d->Q v f)->t σ H Q:=by cases hv:isVar p with|none=>refine⟨_,h.ev,λ{σ H F ρ ρ' d Q}g e k=>?_⟩;obtain⟨r,q,l,m⟩:=ao e;cases m;refine⟨F,ρ,r,_,g,l,λv j f s u=>?_⟩;obtain⟨o,w,_,y⟩:=s.eG u;exact k v o f w (.inl y)|some i=>refine⟨_,h.var i hv,λ{σ H F ρ ρ' d Q}g e k=>?_⟩;obtain⟨l,m⟩:=aJ e;subst m;obtain⟨v,h1,z⟩:=g.pk l;exact⟨v,h1,k v F H (.refl g) z⟩
theorem SX.gj(I:SX X c a pa)(N:SX X c b pb):∃J h,PE X a J/\PE X b h/\∀{σ:L2.St}{H F:Hp}{ρ ρ':List Sl}{j:D×D}{R:V->V->Hp->Prop},GS X.K F ρ σ H->gj (isVar pa) (HH.ev c pa) (isVar pb) (HH.ev c pb) ρ=.ok j ρ'->(∀v u w l,bV X.K F ρ σ H w ρ' σ l->di X.K w l v j.1->di X.K w l u j.2->R v u l)->J σ H λx z=>h σ z λy A=>R x y A:=by obtain⟨h,m,o⟩:=N.fP;cases hv:isVar pa with|none=>refine⟨_,h,I.ev,m,λ{σ H F ρ ρ' j R}g e k=>?_⟩;obtain⟨x,B,q,e⟩:=ao e;obtain⟨y,C,f,e⟩:=ao e;cases e;obtain⟨r,L,q,E⟩:=ao q;cases E;refine⟨F,ρ,r,_,g,q,λv w l s O=>?_⟩;obtain⟨M,s1,_,Q⟩:=s.eG O;refine o s1.gs f λu U A s2 G=>?_;exact k v u U A (s1.trans s2) (.inl (Q.mono s2.cW)) G|some i=>refine⟨_,h,I.var i hv,m,λ{σ H F ρ ρ' j R}g e k=>?_⟩;obtain⟨x0,W,E,e⟩:=ao e;obtain⟨Y,Z⟩:=aJ E;subst Z;obtain⟨y,B,q,e⟩:=ao e;obtain⟨x,C,f,e⟩:=ao e;cases e;have zz:=aJ f;clear f;obtain⟨f,e3⟩:=zz;subst e3;obtain⟨v,h1,_⟩:=g.pk Y;refine⟨v,h1,o g q λu M z s1 G=>?_⟩;obtain⟨v',t,pv⟩:=s1.gs.pk f;rw[h1]at t;cases t;exact k v u M z s1 pv G
inductive rD(K:PySem.W.Frag)(f:D->D->Option R)(x y:V)(H:Hp)(Q:VK):Prop where|mk(F:Hp)(d e:D)(r:R)(sm:aK F H)(px:di K F H x d)(py:di K F H y e)(he:f d e=some r)(k:∀v F' H',Ext F H F' H'->cA K F' H' H v r->Q v H')
inductive ZF(K:PySem.W.Frag)(f:D->Option R)(x:V)(H:Hp)(Q:VK):Prop where|mk(F:Hp)(d:D)(r:R)(sm:aK F H)(px:di K F H x d)(he:f d=some r)(k:∀v F' H',Ext F H F' H'->cA K F' H' H v r->Q v H')
theorem m6{E:Expr}{f:D->D->Option R}{q:P}(t:∀{m o},PE X a m->PE X b o->PE X E (Mx (rD X.K f) m o))(y:SX X c a pa)(z:SX X c b pb)(A:∀ρ,HH.ev c q ρ=(HH.gj (isVar pa) (HH.ev c pa) (isVar pb) (HH.ev c pb) ρ).bind λj ρ=>lift (f j.1 j.2) ρ)(B:isVar q=none):SX X c E q:=by obtain⟨m,o,h1,C,G⟩:=y.gj z;refine⟨gh (t h1 C) ?_,λi h=>by rw[B]at h;cases h⟩;rintro σ H Q⟨F,ρ,r,ρ',g,e,k⟩;rw[A]at e;obtain⟨j,I,J,l⟩:=ao e;have L:=aJ l;clear l;obtain⟨l,M⟩:=L;subst M;refine G g J λv u N H' s O U=>⟨N,j.1,j.2,r,s.gs.sub,O,U,l,λw W Y x Z=>?_⟩;exact k w W Y (s.trans (x.stp s.gs)) (.later s (Z.pK s.gs))
theorem Bm{E:Expr}{f:D->Option R}{q:P}(m:∀{l},PE X a l->PE X E (Wb (ZF X.K f) l))(o:SX X c a pa)(t:∀ρ,HH.ev c q ρ=(HH.fP (isVar pa) (HH.ev c pa) ρ).bind λx ρ=>lift (f x) ρ)(u:isVar q=none):SX X c E q:=by obtain⟨l,h1,y⟩:=o.fP;refine⟨gh (m h1) ?_,λi h=>by rw[u]at h;cases h⟩;rintro σ H Q⟨F,ρ,r,ρ',g,e,k⟩;rw[t]at e;obtain⟨x,z,A,j⟩:=ao e;have B:=aJ j;clear j;obtain⟨j,C⟩:=B;subst C;refine y g A λv G N s I=>⟨G,x,r,s.gs.sub,I,j,λw J L x M=>?_⟩;exact k w J L (s.trans (x.stp s.gs)) (.later s (M.pK s.gs))
theorem GS.freeze{b:Bool}(g:GS K F ρ σ H)(e:ρ[i]?=some (.own b ds)):∃v A,σ[i]?=some (some v)/\bV K F ρ σ H A (ρ.set i (.val b (.lst ds))) σ H/\Rep K A v (.lst ds):=by
 obtain⟨a,xs,h1,E,G,I⟩:=g.qH i _ ds e rfl;have hi:i<ρ.length:=(gW e).1;have y:aK F (upd F a (.lst xs)):=aK.cY G;have B:Rep K (upd F a (.lst xs)) (.ref a) (.lst ds):=by rw[Rep];exact⟨a,xs,rfl,gb.of aR,I.mono y⟩
 have J:Own ρ σ a:=⟨i,⟨_,_,e,rfl⟩,h1⟩;have r:∀j x,bu (ρ.set i (.val b (.lst ds))) σ j x->bu ρ σ j x/\j≠i:=λj x⟨⟨s,h,m,u⟩,z⟩=>by
  by_cases f:j=i;.subst f;rw[getElem?_set_self hi]at m;cases m;cases u
  .rw[fL f]at m;exact⟨⟨⟨s,h,m,u⟩,z⟩,f⟩
 refine⟨.ref a,upd F a (.lst xs),h1,⟨⟨λx o q=>?_,by simpa using g.len,λj L d q=>?_,λj s h q w=>?_,λj k x q w=>g.dis j k x (r j x q).1 (r k x w).1⟩,y,λx n C=>?_,λ_ _ q _=>q,λx⟨j,q⟩=>.inl ⟨j,(r j x q).1⟩,by simp,λj s q l=>⟨rfl,?_⟩⟩,B⟩
 . by_cases t:x=a;.subst t;rw[aR]at q;cases q;exact E
   .rw[aC t]at q;exact g.sub x o q
 . by_cases f:j=i;.subst f;rw[getElem?_set_self hi]at q;cases q;exact⟨_,h1,B⟩
   .rw[fL f]at q;obtain⟨v,m,u⟩:=g.val j L d q;exact⟨v,m,u.mono y⟩
 . by_cases f:j=i;.subst f;rw[getElem?_set_self hi]at q;cases q;cases w
   . rw[fL f]at q;obtain⟨x,ys,m,u,z,M⟩:=g.own j s h q w;have t:x≠a:=by rintro rfl;exact f (g.dis j i x ⟨⟨s,h,q,w⟩,m⟩ ⟨⟨_,_,e,rfl⟩,h1⟩)
     exact⟨x,ys,m,u,by rw[aC t];exact z,M.mono y⟩
 . by_cases t:x=a;.subst t;exact .inl J
   .rw[aC t]at C;exact absurd n C
 . by_cases f:j=i;.subst f;rw[e]at q;cases q;refine⟨_,getElem?_set_self hi,?_⟩;cases b with|true=>exact .inr ⟨_,rfl⟩|false=>cases l
   .exact⟨s,by rw[fL f];exact q,.refl s⟩
theorem GS.wZ{m:Dc}(g:GS K F ρ σ H)(e:ρ[i]?=some (.gY m)):∃a,σ[i]?=some (some (.ref a))/\H a=some m.ho/\∀u,bV K F ρ σ H (upd F a (.eG u m.ho)) (ρ.set i (.val false (.cX m))) σ (upd H a (.eG u m.ho))/\Rep K (upd F a (.eG u m.ho)) (.ref a) (.cX m):=by
 obtain⟨a,I,h1,J,L,M⟩:=g.own i _ _ e rfl;cases(show I=m.ho from M);have hi:i<ρ.length:=(gW e).1;refine⟨a,h1,J,λu=>?_⟩;have A:aK F (upd F a (.eG u m.ho)):=aK.cY L;have C:Rep K (upd F a (.eG u m.ho)) (.ref a) (.cX m):=by rw[Rep];exact⟨a,u,rfl,aR⟩
 have E:Own ρ σ a:=⟨i,⟨_,_,e,rfl⟩,h1⟩;have w:∀j x,bu (ρ.set i (.val false (.cX m))) σ j x->bu ρ σ j x/\j≠i:=λj x⟨⟨s,r,t,y⟩,B⟩=>by
  by_cases f:j=i;.subst f;rw[getElem?_set_self hi]at t;cases t;cases y
  .rw[fL f]at t;exact⟨⟨⟨s,r,t,y⟩,B⟩,f⟩
 refine⟨⟨⟨λx o q=>?_,by simpa using g.len,λj N d q=>?_,λj s r q z=>?_,λj k x q z=>g.dis j k x (w j x q).1 (w k x z).1⟩,A,λx n G=>?_,λx o q n=>?_,λx⟨j,q⟩=>.inl ⟨j,(w j x q).1⟩,by simp,λj s q l=>⟨rfl,?_⟩⟩,C⟩
 . by_cases h:x=a;.subst h;rw[aR]at q ⊢;exact q
   .rw[aC h]at q ⊢;exact g.sub x o q
 . by_cases f:j=i;.subst f;rw[getElem?_set_self hi]at q;cases q;exact⟨_,h1,C⟩
   .rw[fL f]at q;obtain⟨v,t,y⟩:=g.val j N d q;exact⟨v,t,y.mono A⟩
 . by_cases f:j=i;.subst f;rw[getElem?_set_self hi]at q;cases q;cases z
   . rw[fL f]at q;obtain⟨x,ys,t,y,B,O⟩:=g.own j s r q z;have h:x≠a:=by rintro rfl;exact f (g.dis j i x ⟨⟨s,r,q,z⟩,t⟩ ⟨⟨_,_,e,rfl⟩,h1⟩)
     exact⟨x,ys,t,by rw[aC h];exact y,by rw[aC h];exact B,O.mono A⟩
 . by_cases h:x=a;.subst h;exact .inl E
   .rw[aC h]at G;exact absurd n G
 . have h:x≠a:=by rintro rfl;exact n E
   rw[aC h];exact q
 . by_cases f:j=i;.subst f;rw[e]at q;cases q;cases l
   .exact⟨s,by rw[fL f];exact q,.refl s⟩
theorem GS.wX{f:List (Int×D)}(g:GS K F ρ σ H)(e:ρ[i]?=some (.qD f)):∃a vs,σ[i]?=some (some (.ref a))/\H a=some (Ak (f.map (·.1)) vs)/\∀u,bV K F ρ σ H (upd F a (.eG u (Ak (f.map (·.1)) vs))) (ρ.set i (.val false (.dv (f.map (·.1)) (f.map (·.2))))) σ (upd H a (.eG u (Ak (f.map (·.1)) vs)))/\Rep K (upd F a (.eG u (Ak (f.map (·.1)) vs))) (.ref a) (.dv (f.map (·.1)) (f.map (·.2))):=by
 obtain⟨a,Q,h1,I,J,L⟩:=g.own i _ _ e rfl;obtain⟨vs,rfl,M⟩:=L;have hi:i<ρ.length:=(gW e).1;refine⟨a,vs,h1,I,λu=>?_⟩;have A:aK F (upd F a (.eG u (Ak (f.map (·.1)) vs))):=aK.cY J;have C:Rep K (upd F a (.eG u (Ak (f.map (·.1)) vs))) (.ref a) (.dv (f.map (·.1)) (f.map (·.2))):=by rw[Rep];exact⟨a,u,vs,rfl,aR,M.mono A,by simp⟩
 have E:Own ρ σ a:=⟨i,⟨_,_,e,rfl⟩,h1⟩;have w:∀j x,bu (ρ.set i (.val false (.dv (f.map (·.1)) (f.map (·.2))))) σ j x->bu ρ σ j x/\j≠i:=λj x⟨⟨s,r,t,y⟩,B⟩=>by
  by_cases h:j=i;.subst h;rw[getElem?_set_self hi]at t;cases t;cases y
  .rw[fL h]at t;exact⟨⟨⟨s,r,t,y⟩,B⟩,h⟩
 refine⟨⟨⟨λx o q=>?_,by simpa using g.len,λj N d q=>?_,λj s r q z=>?_,λj k x q z=>g.dis j k x (w j x q).1 (w k x z).1⟩,A,λx n G=>?_,λx o q n=>?_,λx⟨j,q⟩=>.inl ⟨j,(w j x q).1⟩,by simp,λj s q l=>⟨rfl,?_⟩⟩,C⟩
 . by_cases m:x=a;.subst m;rw[aR]at q ⊢;exact q
   .rw[aC m]at q ⊢;exact g.sub x o q
 . by_cases h:j=i;.subst h;rw[getElem?_set_self hi]at q;cases q;exact⟨_,h1,C⟩
   .rw[fL h]at q;obtain⟨v,t,y⟩:=g.val j N d q;exact⟨v,t,y.mono A⟩
 . by_cases h:j=i;.subst h;rw[getElem?_set_self hi]at q;cases q;cases z
   . rw[fL h]at q;obtain⟨x,ys,t,y,B,O⟩:=g.own j s r q z;have m:x≠a:=by rintro rfl;exact h (g.dis j i x ⟨⟨s,r,q,z⟩,t⟩ ⟨⟨_,_,e,rfl⟩,h1⟩)
     exact⟨x,ys,t,by rw[aC m];exact y,by rw[aC m];exact B,O.mono A⟩
 . by_cases m:x=a;.subst m;exact .inl E
   .rw[aC m]at G;exact absurd n G
 . have m:x≠a:=by rintro rfl;exact n E
   rw[aC m];exact q
 . by_cases h:j=i;.subst h;rw[e]at q;cases q;cases l
   .exact⟨s,by rw[fL h];exact q,.refl s⟩
theorem Inv.GD{X:Cx}{f:List (Addr×Obj)}{s:Shared}{a:Addr}{g:List (Key×V)}(I:L2.Inv X f σ H s)(h:H a=some (.dK g)):∃o,L2.Inv X f σ (upd H a (.eG o (.dK g))) s:=by obtain⟨k,l,vs,r,j⟩:=(show bT X.prog X.w H s.heap a (.dK g)from I.hok a _ h);obtain⟨o,ho,_⟩:=j.typeIs;exact⟨o,I.write (h':=s.heap) (t':=s.toks) (by rw[h];exact trivial) (.inl rfl) (λb u _ e=>e) ⟨o,ho⟩ ⟨ho,k,l,vs,r,j⟩⟩
theorem JB(A:X.N[i]?=some x)(B:Be X.env.scope x)(hd:(x==("__debug__":Str))=false:=by decide)(t:(x==("__classdict__":Str))=false:=by decide):SX X c (.Name x pos) (.var i):=by
 have h:=lB (X:=X) (pos:=pos) A B hd t;refine⟨?_,λj C=>by cases C;exact h⟩;rintro f s σ H Q I⟨F,ρ,r,ρ',g,e,k⟩;rw[HH.E1]at e;split at e;.rename_i b d q;cases e;obtain⟨v,h1,l⟩:=g.val i b d q;exact h f s σ H Q I ⟨v,h1,k v F H (.refl g) l⟩
 .rename_i b ds q;cases e;obtain⟨v,E,h1,l,m⟩:=g.freeze q;exact h f s σ H Q I ⟨v,h1,k v E H l m⟩
 .rename_i w q;cases e;obtain⟨a,h1,l,m⟩:=g.wZ q;refine cT (h f s σ H (λv y=>v=.ref a/\y=H) I ⟨.ref a,h1,rfl,rfl⟩) λu s1⟨v,H1,I1,r1,e1,e2⟩=>?_;subst e1 e2;obtain⟨o,z⟩:=Inv.GD I1 l;exact⟨.ref a,_,z,r1,k _ _ _ (m o).1 (m o).2⟩
 .rename_i w q;cases e;obtain⟨a,vs,h1,l,m⟩:=g.wX q;refine cT (h f s σ H (λv y=>v=.ref a/\y=H) I ⟨.ref a,h1,rfl,rfl⟩) λu s1⟨v,H1,I1,r1,e1,e2⟩=>?_;subst e1 e2;obtain⟨o,z⟩:=Inv.GD I1 l;exact⟨.ref a,_,z,r1,k _ _ _ (m o).1 (m o).2⟩
 .cases e
theorem v8{d:D}(h:PE X e (tC v))(hr:∀F,Rep X.K F v d):SX X c e (.con d):=⟨gh h λσ H Q⟨F,ρ,r,ρ',g,e,k⟩=>by rw[HH.E2]at e;cases e;exact k v F H (.refl g) (hr F),λi h=>by cases h⟩
theorem aa{i j}:SX X c (.Constant (.int i) j pos) (.con (.int i)):=v8 Cq λF=>by rw[Rep]
theorem jk{i j}:SX X c (.Constant (.bool i) j pos) (.con (.bl i)):=v8 HR λF=>by rw[Rep]
theorem eY{j}:SX X c (.Constant .none j pos) (.con .non):=v8 Jx λF=>by rw[Rep]
theorem di.int{K:PySem.W.Frag}{F H:Hp}{v:V}{i:Int}(h:di K F H v (.int i)):v=.int i:=by
 rcases h with h|⟨_,_,_,_,_,_,h⟩;.rw[Rep]at h;exact h
 .cases h
theorem di.bl{K:PySem.W.Frag}{F H:Hp}{v:V}{i:Bool}(h:di K F H v (.bl i)):v=.bl i:=by
 rcases h with h|⟨_,_,_,_,_,_,h⟩;.rw[Rep]at h;exact h
 .cases h
theorem di.str{K:PySem.W.Frag}{F H:Hp}{v:V}{i:Str}(h:di K F H v (.str i)):v=.str i:=by
 rcases h with h|⟨_,_,_,_,_,_,h⟩;.rw[Rep]at h;exact h
 .cases h
theorem di.non{K:PySem.W.Frag}{F H:Hp}{v:V}(h:di K F H v .non):v=.non:=by
 rcases h with h|⟨_,_,_,_,_,_,h⟩;.rw[Rep]at h;exact h
 .cases h
theorem di.tup{K:PySem.W.Frag}{F H:Hp}{v:V}{ds:List D}(s:aK F H)(h:di K F H v (.tup ds)):∃a xs,v=.ref a/\jc K H a xs/\aF K F xs ds/\Rep K F v (.tup ds):=by
 rcases h with h|⟨_,_,_,_,_,_,h⟩;.have h':=h;rw[Rep]at h;obtain⟨a,xs,rfl,h1,f⟩:=h;exact⟨a,xs,rfl,aK.eZ s h1,f,h'⟩
 .cases h
theorem di.lst{K:PySem.W.Frag}{F H:Hp}{v:V}{ds:List D}(s:aK F H)(h:di K F H v (.lst ds)):∃a xs,v=.ref a/\gb K H a xs/\aF K F xs ds:=by
 rcases h with h|⟨a,xs,es,h1,f,g,h⟩;.rw[Rep]at h;obtain⟨a,xs,rfl,h1,f⟩:=h;exact⟨a,xs,rfl,s.seq h1,f⟩
 .cases h;exact⟨a,xs,h1,gb.of f,g⟩
theorem di.cX{m:Dc}(s:aK F H)(h:di K F H v (.cX m)):∃a o,v=.ref a/\H a=some (.eG o m.ho):=by
 rcases h with h|⟨_,_,_,_,_,_,h⟩;.rw[Rep]at h;obtain⟨a,o,rfl,h⟩:=h;exact⟨a,o,rfl,s _ _ h⟩
 .cases h
theorem CK{X:Cx}{f:List (Addr×Obj)}{s:Shared}{a:Addr}{l:Obj}{m:Dc}(I:L2.Inv X f σ H s)(h:H a=some (.eG l m.ho)):∃o,s.heap.get? a=some o/\o.cls=.type "dict":=by have z:=(show bT X.prog X.w H s.heap a (.eG l m.ho)from I.hok a _ h).2;cases m with|k g=>obtain⟨_,_,vs,_,d2⟩:=(show bT X.prog X.w H s.heap a (.dK _)from z);exact d2.typeIs|t g=>obtain⟨_,_,xs,_,o,es,q,h1,j,_⟩:=(show bT X.prog X.w H s.heap a (.dT _)from z);exact⟨o,h1,j.1⟩|s g=>obtain⟨_,_,xs,_,o,es,q,h1,j,_⟩:=(show bT X.prog X.w H s.heap a (.dT _)from z);exact⟨o,h1,j.1⟩
theorem di.dv{ks:List Int}(s:aK F H)(h:di K F H v (.dv ks ds)):∃a o vs,v=.ref a/\H a=some (.eG o (Ak ks vs))/\aF K F vs ds/\ks.length=ds.length:=by
 rcases h with h|⟨_,_,_,_,_,_,h⟩;.rw[Rep]at h;obtain⟨a,o,vs,rfl,h,h1,f⟩:=h;exact⟨a,o,vs,rfl,s _ _ h,h1,f⟩
 .cases h
theorem Ce{X:Cx}{f:List (Addr×Obj)}{s:Shared}{a:Addr}{g:Obj}{ks:List Int}(I:L2.Inv X f σ H s)(h:H a=some (.eG g (Ak ks vs))):∃o,s.heap.get? a=some o/\o.cls=.type "dict":=by have z:=(show bT X.prog X.w H s.heap a (.eG g (Ak ks vs))from I.hok a _ h).2;obtain⟨_,_,vs,_,d2⟩:=(show bT X.prog X.w H s.heap a (.dK _)from z);exact d2.typeIs
theorem di.items{d:D}(s:aK F H)(h:di K F H v d)(e:items d=some ds):∃a xs,v=.ref a/\(gb K H a xs\/jc K H a xs)/\aF K F xs ds:=by cases d with|tup es=>cases e;obtain⟨a,xs,h1,f,g,_⟩:=h.tup s;exact⟨a,xs,h1,.inr f,g⟩|lst es=>cases e;obtain⟨a,xs,h1,f,g⟩:=h.lst s;exact⟨a,xs,h1,.inl f,g⟩|_=>cases e
theorem cA.dw{Q:VK}{d:D}(s:aK F H)(r:Rep K F v d)(k:∀v g f,Ext F H g f->cA K g f H v (.val d)->Q v f):Q v H:=k v F H (.refl s) r
theorem cV(i:Int):Rep K F (.int i) (.int i):=by rw[Rep]
theorem fj(i:Bool):Rep K F (.bl i) (.bl i):=by rw[Rep]
theorem My(i:Str):Rep K F (.str i) (.str i):=by rw[Rep]
theorem Mw:Rep K F .non .non:=by rw[Rep]
theorem vQ{Q:VK}{xs:List V}{p:Addr}(s:aK F H)(r:aF K F xs ds)(f:H p=none)(k:∀v h g,Ext F H h g->cA K h g H v (.own ds)->Q v g):Q (.ref p) (upd H p (.lst xs)):=by
 have j:F p=none:=by cases q:F p with|none=>rfl|some o=>rw[s p o q]at f;cases f
 exact k _ F _ ⟨aK.cY f,.refl _,s.trans (aK.cY f),λ_ a b=>absurd a b⟩ ⟨p,xs,rfl,aR,j,r,f⟩
theorem yS{Q:VK}{xs:List V}{p:Addr}(s:aK F H)(r:aF K F xs ds)(g:H p=none)(k:∀v j h,Ext F H j h->cA K j h H v (.val (.tup ds))->Q v h):Q (.ref p) (upd H p (.tup xs)):=by
 have t:F p=none:=by cases q:F p with|none=>rfl|some o=>rw[s p o q]at g;cases g
 have l:aK F (upd F p (.tup xs)):=aK.cY t;refine k _ (upd F p (.tup xs)) _ ⟨aK.cY g,l,λb o e=>?_,λb n m=>?_⟩ ?_
 . by_cases f:b=p;.subst f;rw[aR]at e ⊢;exact e
   .rw[aC f]at e ⊢;exact s b o e
 . by_cases f:b=p;.subst f;exact jQ g
   .rw[aC f]at m;exact absurd n m
 .show Rep K _ _ (.tup ds);rw[Rep];exact⟨p,xs,rfl,jc.of aR,r.mono l⟩
end
theorem pL(k:Int)(t:Tok)(l:Addr)(a:Array Value)(n:Nat)(b:Option Addr)(c:Array (Option Value)):Meets (Builtin.«int.__rmul__» ⟨[.int k t,.ref l],[]⟩) (λ_ R s=>s.heap.get? l=some ⟨.type "list",b,.seq a n,c⟩/\R (.ok (.ret Value.notImplemented)) s):=.of_wp λprog w A R s h=>by obtain⟨e,g,d,f,os⟩:=s;obtain⟨j,h⟩:=h;wp_walk;exact⟨_,rfl,h⟩
theorem yq(l:Addr)(a:Array Value)(n:Nat)(b:Option Addr)(c:Array (Option Value))(k:Int)(t:Tok)(h0:¬(!Builtin.List.listFitsIndex k)=true)(h1:¬a.size*k.toNat>(2^63-1)/8)(e:¬listTooLong (a.size*k.toNat)=true):Meets (Builtin.«list.__mul__» ⟨[.ref l,.int k t],[]⟩) (λ_ R s=>s.heap.get? l=some ⟨.type "list",b,.seq a n,c⟩/\R (.ok (.ret (Value.ref s.heap.objs.size))) {s with heap:=s.heap.push {cls:=.type "list",data:=.seq (foldl (·++·) #[] (replicate (if a.isEmpty=true then 0 else k.toNat) a))}}):=.of_wp λprog w A R s h=>by obtain⟨m,g,d,o,os⟩:=s;obtain⟨f,h⟩:=h;have j:=AutoListH.joined_fits e;wp_walk using wpAny_loadPart' f;refine wpAny_ite_false (decide_eq_false (Nat.not_lt.mpr j)) ?_;wp_walk;exact⟨_,rfl,h⟩
section
variable{X:Cx}{c:Call}{e a b d:Expr}{p pa pb pd:P}{pos:Pos}
theorem Gu:dZ X (binaryOp .Add) (λx y H Q=>∃l b xs o,x=.ref l/\y=.ref b/\gb X.K H l xs/\gb X.K H b o/\xs.length+o.length<=sizeLine/\∀p,H p=none->Q (.ref p) (upd H p (.lst (xs++o)))):=by
 intro z s σ H x y v u Q I E G h;obtain⟨l,b,xs,o,rfl,rfl,J,L,A,q⟩:=h;cases E;cases G;obtain⟨g,r,M,_⟩:=I.list J;obtain⟨f,B,N,_⟩:=I.list L;obtain⟨⟨cls,O,data,U⟩,ho,hc,n,hd⟩:=id M.isList;obtain⟨⟨C,t,data2,w⟩,j,k,W,m⟩:=id N.isList;simp only at hc hd k m;subst hc hd k m;have e:g.toArray++f.toArray=(g++f).toArray:=by simp
 refine concat_meets ⟨_,ho,rfl⟩ ⟨_,j,rfl⟩ noFill_list_add seq_list_add PySem.F.slot_list_add PySem.F.entry_list_add (PySem.F.args_list_add_2 _ _) (list_addW l b g.toArray f.toArray n W O t U w (by simp only[size_toArray];rw[<-r.length,<-B.length];exact A)) ⟨ho,j,?_⟩;rw[e];exact⟨.ref _,_,I.J4 (t':=s.toks) (r.append B) (by rw[length_append];exact A),rfl,q _ I.fresh⟩
theorem Ba:dZ X (binaryOp .Add) (λx y H Q=>∃a b ys,x=.ref a/\y=.ref b/\jc X.K H a []/\jc X.K H b ys/\Q (.ref b) H):=by intro r s σ H x y v u Q I w z h;obtain⟨a,b,ys,rfl,rfl,A,B,q⟩:=h;cases w;cases z;obtain⟨l,C,E,_⟩:=I.tuple A;obtain⟨f,O,G,_⟩:=I.tuple B;obtain⟨⟨cls,J,data,L⟩,ho,hc,n,hd⟩:=id E;obtain⟨⟨t,m,data2,o⟩,g,j,M,k⟩:=id G;simp only at hc hd j k;subst hc hd j k;have N:l=[]:=C.mD.mpr rfl;subst N;exact concat_meets ⟨_,ho,rfl⟩ ⟨_,g,rfl⟩ noFill_tuple_add seq_tuple_add slot_tuple_add entry_tuple_add (args_tuple_add_2 _ _) (tuple_addW0 a b _ f.toArray n M J m L o (by simp)) ⟨ho,g,⟨.ref b,H,I,rfl,q⟩⟩
theorem aq:dZ X (binaryOp .Add) (rD X.K (pH .add)):=by
 rintro f s σ H x y v u Q I h j⟨F,d,e,r,g,q,t,he,k⟩;replace he:nY d e=some r:=he;unfold nY at he;split at he;.cases he;rw[q.int]at h;rw[t.int]at j;exact Ky f s σ H _ _ v u Q I h j ⟨_,_,rfl,rfl,cA.dw g (cV _) k⟩
 .rename_i xs ys;obtain⟨o,he⟩:=bL he;subst he;obtain⟨a,vs,rfl,w,l⟩:=q.lst g;obtain⟨b,z,rfl,A,m⟩:=t.lst g;exact Gu f s σ H _ _ v u Q I h j ⟨a,b,vs,z,rfl,rfl,w,A,by rw[l.length,m.length];exact o,λp B=>vQ g (l.append m) B k⟩
 . rename_i xs ys;obtain⟨o,he⟩:=bL he;subst he;obtain⟨a,vs,rfl,w,l,E⟩:=q.tup g;obtain⟨b,z,rfl,A,m,G⟩:=t.tup g;by_cases h0:vs=[]
   . subst h0;have C:xs=[]:=by have:=l.length;exact List.eq_nil_of_length_eq_zero this.symm
     subst C;exact Ba f s σ H _ _ v u Q I h j ⟨a,b,z,rfl,rfl,w,A,cA.dw g G k⟩
   . refine Hj f s σ H _ _ v u Q I h j ⟨a,b,vs,z,rfl,rfl,w,A,h0,by rw[l.length,m.length];exact o,λe=>?_,λ_ p B=>yS g (l.append m) B k⟩;subst e;have C:ys=[]:=by have:=m.length;exact List.eq_nil_of_length_eq_zero this.symm
     subst C;rw[append_nil]at k;exact cA.dw g E k
 .rename_i x1 J;obtain⟨o,he⟩:=bL he;subst he;rw[q.str]at h;rw[t.str]at j;exact uW f s σ H _ _ v u Q I h j ⟨_,_,rfl,rfl,o,cA.dw g (My _) k⟩
 .cases he
theorem cQ:dZ X (binaryOp .Sub) (rD X.K (pH .sub)):=by
 rintro f s σ H x y v u Q I g h⟨F,d,e,r,j,l,m,he,k⟩;replace he:sI d e=some r:=he;unfold sI at he;split at he;.cases he;rw[l.int]at g;rw[m.int]at h;exact KJ f s σ H _ _ v u Q I g h ⟨_,_,rfl,rfl,cA.dw j (cV _) k⟩
 .cases he
theorem Ew:dZ X (binaryOp .Mult) (λx y H Q=>∃l k xs,x=.ref l/\y=.int k/\gb X.K H l xs/\-(2^63)<=k/\k<2^63/\xs.length*k.toNat<=sizeLine/\∀p,H p=none->Q (.ref p) (upd H p (.lst (replicate k.toNat xs).flatten))):=by
 intro o s σ H x y v u Q I B C h;obtain⟨l,k,xs,rfl,rfl,E,h1,G,w,q⟩:=h;cases B;obtain⟨t,rfl⟩:=C;obtain⟨f,r,J,_⟩:=I.list E;obtain⟨⟨cls,z,data,A⟩,ho,hc,n,hd⟩:=id J.isList;simp only at hc hd;subst hc hd;have g:f.toArray.size*k.toNat<=sizeLine:=by rw[size_toArray,<-r.length];exact w
 have L:¬ f.toArray.size*k.toNat>(2^63-1)/8:=by
  have:(sizeLine:Nat)<=(2^63-1)/8:=by decide
  omega
 have j:foldl (·++·) #[] (replicate (if f.toArray.isEmpty=true then 0 else k.toNat) f.toArray)=(replicate k.toNat f).flatten.toArray:=by
  have f0:∀m:Nat,foldl (·++·) #[] (replicate m f.toArray)=(replicate m f).flatten.toArray:=λm=>by have:=foldl_rep f m [];rw[nil_append]at this;exact this
  rw[f0];cases f with|nil=>simp|cons a r'=>rw[if_neg (by simp)]
 refine wpAny_binaryOp_repeat_ref (T:="list") (U:="int") (by decide) ⟨_,ho,rfl⟩ (λM=>typeIs_int M k t) noFill_list_mul F.fills_int_mul F.slot_int_rmul repeat_list F.slot_int_index.lookup ?_;refine call_meets F.slot_int_rmul (typeIs_int s k t) F.entry_int_rmul (F.args_int_rmul_2 _ _) (pL k t l f.toArray n z A) ⟨ho,rfl,⟨_,ho,rfl⟩,?_⟩;refine call_meets F.slot_list_mul ⟨_,ho,rfl⟩ F.entry_list_mul (F.args_list_mul_2 _ _) (yq l f.toArray n z A k t (by rw[fitsIndex_both h1 G];exact Bool.false_ne_true) L (by rw[Ab g];exact Bool.false_ne_true)) ⟨ho,?_⟩;rw[j];exact⟨.ref _,_,I.J4 (t':=s.toks) (r.rep k.toNat) (by rw[len_rep,Nat.mul_comm];exact w),rfl,q _ I.fresh⟩
theorem lq:fillsNumberSlot (.type "tuple") "mul"=pure false:=PySem.fillsNumberSlot_seq (id:="tuple.__mul__") (r:=some (.builtin "tuple.__rmul__")) slot_tuple_mul.lookup (by decide+kernel) PySem.F.slot_tuple_rmul.lookup (by decide+kernel)
theorem qQ:seqRepeat? (.type "tuple")=pure (some (.builtin "tuple.__mul__")):=by unfold seqRepeat?;rw[PySem.seqSlot_of (T:="tuple") (name:="__mul__") (id:="tuple.__mul__") slot_tuple_mul.lookup (by decide+kernel),PySem.seqSlot_of (T:="tuple") (name:="__rmul__") (id:="tuple.__rmul__") PySem.F.slot_tuple_rmul.lookup (by decide+kernel)];rfl
theorem nP(k:Int)(t:Tok)(l:Addr)(f:Array Value)(n:Nat)(j:Option Addr)(m:Array (Option Value)):Meets (Builtin.«int.__rmul__» ⟨[.int k t,.ref l],[]⟩) (λ_ R s=>s.heap.get? l=some ⟨.type "tuple",j,.seq f n,m⟩/\R (.ok (.ret Value.notImplemented)) s):=.of_wp λprog w A R s h=>by obtain⟨o,g,d,q,os⟩:=s;obtain⟨r,h⟩:=h;wp_walk;exact⟨_,rfl,h⟩
theorem wk(l:Addr)(f:Array Value)(n:Nat)(u:Option Addr)(y:Array (Option Value))(k:Int)(t:Tok)(h0:0<=k)(h1:k<2^63)(r:f.size*k.toNat<=sizeLine)(z:0<f.size):Meets (Builtin.«tuple.__mul__» ⟨[.ref l,.int k t],[]⟩) (λ_ R s=>s.heap.get? l=some ⟨.type "tuple",u,.seq f n,y⟩/\(k=1->R (.ok (.ret (Value.ref l))) s)/\(k≠1->R (.ok (.ret (Value.ref s.heap.objs.size))) {s with heap:=s.heap.push {cls:=.type "tuple",data:=.seq (foldl (·++·) #[] (replicate k.toNat f))}})):=.of_wp λprog w A R s h=>by
  obtain⟨B,g,d,L,os⟩:=s;obtain⟨o,C,E⟩:=h;have j:f.isEmpty=false:=by cases e:f.isEmpty with|false=>rfl|true=>rw[Array.isEmpty_iff_size_eq_zero]at e;omega
  show wpAny _ _ (asIndex (.int k t)>>=_) _ _ _;wp_walk using wpAny_loadPart' o;have G:IsTup B l f:=⟨_,o,rfl,n,rfl⟩;rw[if_neg (by simp;omega)];refine wpAny_bind (PyProof.Rows.tupleItemsOf_ G ?_);try dsimp only
  by_cases m:k=1;.rw[if_pos (by simp[m])];wp_walk using wpAny_loadPart' o;exact⟨_,rfl,C m⟩
  . have q:=E m;rw[if_neg (by simp[j,m])];by_cases I:k=0;.subst I;rw[if_pos (by simp)];unfold tupleExact;refine wpAny_bind (wpAny_newObj_type ?_);exact wpAny_pure ⟨_,rfl,q⟩
    . have M:(f.size:Int)*k<=sizeLine:=by
       have:((f.size*k.toNat:Nat):Int)<=(sizeLine:Nat):=by exact_mod_cast r
       rw[Int.natCast_mul,show((k.toNat:Nat):Int)=k by omega]at this;exact this
      have J:(sizeLine:Int)<=(2^63-1)/8:=by decide
      rw[if_neg (by simp[j];omega),if_neg (by omega),if_neg (by simp[Builtin.Tuple.tupleTooMany];omega)];unfold tupleExact;refine wpAny_bind (wpAny_newObj_type ?_ ?_);.exact wpAny_pure ⟨_,rfl,q⟩
      .have:=foldl_rep f.toList k.toNat [];rw[nil_append,show f.toList.toArray=f by simp]at this;show(foldl (·++·) #[] (replicate k.toNat f)).size<=sizeLine;rw[show(#[]:Array Value)=([]:List Value).toArray from rfl,this,size_toArray,len_rep,length_toList,Nat.mul_comm];exact r
theorem Eo:dZ X (binaryOp .Mult) (λx y H Q=>∃l k xs,x=.ref l/\y=.int k/\jc X.K H l xs/\0<xs.length/\0<=k/\k<2^63/\xs.length*k.toNat<=sizeLine/\(k=1->Q (.ref l) H)/\(k≠1->∀p,H p=none->Q (.ref p) (upd H p (.tup (replicate k.toNat xs).flatten)))):=by
 intro w s σ H x y v u Q I C E h;obtain⟨l,k,xs,rfl,rfl,G,m,h1,J,z,L,M⟩:=h;cases C;obtain⟨t,rfl⟩:=E;obtain⟨f,r,N,_⟩:=I.tuple G;obtain⟨⟨cls,A,data,B⟩,ho,hc,n,hd⟩:=id N;simp only at hc hd;subst hc hd;have g:f.toArray.size*k.toNat<=sizeLine:=by rw[size_toArray,<-r.length];exact z
 have j:foldl (·++·) #[] (replicate k.toNat f.toArray)=(replicate k.toNat f).flatten.toArray:=by have:=foldl_rep f k.toNat [];rw[nil_append]at this;exact this
 refine wpAny_binaryOp_repeat_ref (T:="tuple") (U:="int") (by decide) ⟨_,ho,rfl⟩ (λO=>typeIs_int O k t) lq F.fills_int_mul F.slot_int_rmul qQ F.slot_int_index.lookup ?_;refine call_meets F.slot_int_rmul (typeIs_int s k t) F.entry_int_rmul (F.args_int_rmul_2 _ _) (nP k t l f.toArray n A B) ⟨ho,rfl,⟨_,ho,rfl⟩,?_⟩;refine call_meets slot_tuple_mul ⟨_,ho,rfl⟩ PySem.F.entry_tuple_mul (PySem.F.args_tuple_mul_2 _ _) (wk l f.toArray n A B k t h1 J g (by rw[size_toArray,<-r.length];exact m)) ⟨ho,λe=>⟨.ref l,H,I,rfl,L e⟩,λe=>?_⟩;rw[j];refine⟨.ref s.heap.objs.size,_,I.laid (t':=s.toks) (o:=.tup (replicate k.toNat xs).flatten) (λb W q=>iG q) (cH) ?_,rfl,M e _ (I.hok.fresh (cH))⟩;exact⟨by rw[len_rep,Nat.mul_comm];exact z,_,r.rep k.toNat,IsTup.new _ _⟩
theorem cR:dZ X (binaryOp .Mult) (rD X.K (pH .mul)):=by
 rintro f s σ H x y v u Q I m g⟨F,d,e,r,h,q,t,he,k⟩;replace he:nU d e=some r:=he;unfold nU at he;split at he;.obtain⟨hc,he⟩:=bL he;subst he;rw[q.int]at m;rw[t.int]at g;exact Jy f s σ H _ _ v u Q I m g ⟨_,_,rfl,rfl,hc,cA.dw h (cV _) k⟩
 . rename_i xs i;obtain⟨⟨h1,o,l⟩,he⟩:=bL he;subst he;obtain⟨a,vs,rfl,w,j⟩:=q.lst h;rw[t.int]at g;have z:i<2^63:=by have A:=Nat.le_mul_of_pos_left i.toNat o;have C:i.toNat<=16777216:=le_trans A l;omega
   exact Ew f s σ H _ _ v u Q I m g ⟨a,i,vs,rfl,rfl,w,by omega,z,by rw[j.length];exact l,λp B=>vQ h (j.rep i.toNat) B k⟩
 . rename_i xs i;obtain⟨⟨h1,o,l⟩,he⟩:=bL he;subst he;obtain⟨a,vs,rfl,w,j,E⟩:=q.tup h;rw[t.int]at g;have z:i<2^63:=by have A:=Nat.le_mul_of_pos_left i.toNat o;have C:i.toNat<=16777216:=le_trans A l;omega
   refine Eo f s σ H _ _ v u Q I m g ⟨a,i,vs,rfl,rfl,w,by rw[j.length];exact o,h1,z,by rw[j.length];exact l,λe=>?_,λe p B=>yS h (j.rep i.toNat) B k⟩;subst e;refine cA.dw h ?_ k;have G:(replicate (1:Int).toNat xs).flatten=xs:=by simp
   rw[G];exact E
 .cases he
theorem uw:dZ X (binaryOp .FloorDiv) (rD X.K (pH .fdiv)):=by
 rintro f s σ H x y v u Q I g h⟨F,d,e,r,l,m,o,he,k⟩;replace he:nJ d e=some r:=he;unfold nJ at he;split at he
 . rename_i i j;obtain⟨⟨h1,w⟩,he⟩:=bL he;subst he;rw[m.int]at g;rw[o.int]at h;obtain⟨t,rfl⟩:=g;obtain⟨t',rfl⟩:=h;have q:j.natAbs.log2<9000:=by
    have:j.natAbs<2^200:=by
     have:(2:Nat)^200=1606938044258990275541962092341162602522202993782792835301376:=by decide
     omega
    have z:=(Nat.log2_lt (by omega)).mpr this;omega
   exact floordiv_int (by omega) (by rw[Int.fdiv_eq_ediv_of_nonneg i (by omega)];exact⟨.int _,H,I.tok _,⟨_,rfl⟩,cA.dw l (cV _) k⟩) (.inl (PyProof.noPylong_of_log2 q))
 .cases he
theorem dD:dZ X (binaryOp .Mod) (rD X.K (pH .mod)):=by
 rintro f s σ H x y v u Q I g h⟨F,d,e,r,j,l,m,he,k⟩;replace he:sJ d e=some r:=he;unfold sJ at he;split at he;.obtain⟨h1,he⟩:=bL he;subst he;rw[l.int]at g;rw[m.int]at h;exact MF f s σ H _ _ v u Q I g h ⟨_,_,rfl,rfl,h1,cA.dw j (cV _) k⟩
 .cases he
theorem fV:dZ X (binaryOp .Pow) (rD X.K (pH .pow)):=by
 rintro f s σ H x y v u Q I g h⟨F,d,e,r,j,l,m,he,k⟩;replace he:uv d e=some r:=he;unfold uv at he;split at he;.obtain⟨⟨h1,q,o⟩,he⟩:=bL he;subst he;rw[l.int]at g;rw[m.int]at h;exact La f s σ H _ _ v u Q I g h ⟨_,_,rfl,rfl,⟨h1,by omega,o⟩,cA.dw j (cV _) k⟩
 .cases he
theorem aj{o:Op}{op:Operator}(ho:dZ X (binaryOp op) (rD X.K (pH o)))(f:SX X c a pa)(g:SX X c b pb):SX X c (.BinOp a op b pos) (.bin o pa pb):=m6 (λh1 h=>S8 ho h1 h) f g (λρ=>rfl) rfl
theorem rT(j:SX X c a pa):SX X c (.UnaryOp .USub a pos) (.neg pa):=by refine Bm (f:=Ca) (λh1=>HX ?_ h1) j (λρ=>rfl) rfl;rintro g s σ H x v Q I h⟨F,d,r,l,m,he,k⟩;unfold Ca at he;obtain⟨i,o,q⟩:=map_some he;subst q;cases d<;>cases o;rw[m.int]at h;exact CG g s σ H _ v Q I h ⟨_,rfl,cA.dw l (cV _) k⟩
theorem xJ{f:Int->Int->Bool}(ho:dZ X (compareOp op) (Ec λi j=>.bl (f i j))):dZ X (compareOp op) (rD X.K λx y=>(Eb f x y).map λk=>.val (.bl k)):=by
 rintro g s σ H x y v u Q I l m⟨F,d,e,r,o,q,w,he,k⟩;obtain⟨t,h,z⟩:=map_some (show(Eb f d e).map _=some r from he);subst z;unfold Eb at h;split at h;.cases h;rw[q.int]at l;rw[w.int]at m;exact ho g s σ H _ _ v u Q I l m ⟨_,_,rfl,rfl,cA.dw o (fj _) k⟩
 .cases h
theorem vp{f:Int->Int->Bool}(ho:dZ X (compareOp op) (Ec λi j=>.bl (f i j))){o:Cm}(hc:cm o=Eb f):dZ X (compareOp op) (rD X.K (lX o)):=by
 have e:lX o=λx y=>(Eb f x y).map λk=>.val (.bl k):=by funext x y;unfold lX;rw[hc]
 rw[e];exact xJ ho
theorem M5:dZ X (compareOp .Lt) (rD X.K λx y=>(Eb (λi j=>decide (i<j)) x y).map λk=>.val (.bl k)):=xJ Qf
theorem wg:dZ X (compareOp .LtE) (rD X.K (lX .le)):=vp Qu rfl
theorem oG:dZ X (compareOp .Gt) (rD X.K (lX .gt)):=vp QS rfl
theorem LQ:dZ X (compareOp .GtE) (rD X.K (lX .ge)):=vp Q9 rfl
theorem pY{d:D}(h:di K F H v d):decide (v=.non)=gV d:=by cases d with
 |non=>rw[h.non];rfl|bl _=>rw[h.bl];rfl|int _=>rw[h.int];rfl|str _=>rw[h.str];rfl|tup _=>
   rcases h with h|⟨a,_,_,rfl,_⟩;.rw[Rep]at h;obtain⟨a,_,rfl,_⟩:=h;rfl
   .rfl|lst _=>
   rcases h with h|⟨a,_,_,rfl,_⟩;.rw[Rep]at h;obtain⟨a,_,rfl,_⟩:=h;rfl
   .rfl|cX _=>
   rcases h with h|⟨a,_,_,rfl,_⟩;.rw[Rep]at h;obtain⟨a,_,rfl,_⟩:=h;rfl
   .rfl|dv _ _=>
   rcases h with h|⟨a,_,_,rfl,_⟩;.rw[Rep]at h;obtain⟨a,_,_,rfl,_⟩:=h;rfl
   .rfl
theorem vL:dZ X (compareOp .Is) (rD X.K (lX .M8)):=by
 rintro f s σ H x y v u Q I h j⟨F,d,e,r,l,m,o,he,k⟩;obtain⟨t,g,q⟩:=map_some (show(N7 false d e).map _=some r from he);subst q;unfold N7 at g;split at g;.cases g;exact MP f s σ H x y v u Q I h j ⟨o.non,by rw[pY m];exact cA.dw l (fj _) k⟩
 .cases g
theorem mK:dZ X (compareOp .IsNot) (rD X.K (lX .uN)):=by
 rintro f s σ H x y v u Q I h j⟨F,d,e,r,l,m,o,he,k⟩;obtain⟨t,g,q⟩:=map_some (show(N7 true d e).map _=some r from he);subst q;unfold N7 at g;split at g;.cases g;exact Hs f s σ H x y v u Q I h j ⟨o.non,by rw[pY m];exact cA.dw l (fj _) k⟩
 .cases g
theorem jA{o:Cm}(ho:dZ X (compareOp op) (rD X.K (lX o)))(f:SX X c a pa)(g:SX X c b pb)(h:behindInMarks op b=false):SX X c (.Compare a [op] [b] pos) (.cmp o pa pb):=m6 (λh1 j=>qL ho h1 j h) f g (λρ=>rfl) rfl
end
section
variable{X:Cx}{c:Call}{e a b d:Expr}{p pa pb pd:P}{pos:Pos}{rest:List Expr}
theorem jT{x:D}{k:Bool}(h:uU x=some k):x=.bl k:=by cases x<;>cases h;rfl
theorem iM{x:D}{k:Int}(h:o9 x=some k):x=.int k:=by cases x<;>cases h;rfl
theorem cF.bool{g j:Hp}{f:L2.St}{r:R}{k:Bool}(h:cF K g ρ' f j ρ σ H v r)(e:r.d=.bl k):v=.bl k:=by cases r with|val d=>cases(show d=.bl k from e);have h:Rep K g v (.bl k):=h;rw[Rep]at h;exact h|own ds=>cases e
def ST(X:Cx)(c:Call)(e:Expr)(p:P):Prop:=PT X e (IW X.K (iw (HH.ev c p)))
def SW(X:Cx)(c:Call)(e:Expr)(p:P):Prop:=PW X e (IW X.K (iw (HH.ev c p)))
theorem SW.st(h:SW X c e p):ST X c e p:=PW.pt h
theorem lC{t:TE}{Q:Bool->Hp->Prop}(hi:∀Q,zB X.K (HH.ev c p) σ H Q->t σ H Q)(h:IW X.K (iw (HH.ev c p)) σ H Q):t σ H λx l=>∃k,x=.bl k/\Q k l:=by obtain⟨F,ρ,k,ρ',g,e,q⟩:=h;obtain⟨r,j,m,f⟩:=ao e;have o:=aJ f;clear f;obtain⟨f,u⟩:=o;subst u;exact hi _ ⟨F,ρ,r,j,g,m,λv w y s z=>⟨k,z.bool (jT f),q w y s⟩⟩
theorem fY(h:SX X c e p)(he:∀f,isTrue e X.env f=(do let v<-f;standAt e.pos;holding [v] (truthy v)):=by intro _;rfl):ST X c e p:=tH (J5 h.ev he) λσ H Q q=>lC (λ_ z=>z) q
theorem bU{o:Cm}(ho:dZ X (compareOp op) (rD X.K (lX o)))(j:SX X c a pa)(l:SX X c b pb)(m:behindInMarks op b=false):ST X c (.Compare a [op] [b] pos) (.cmp o pa pb):=by obtain⟨y,A,h1,B,C⟩:=j.gj l;refine tH (xP ho h1 B m) λσ H Q q=>lC (t:=Mx (rD X.K (lX o)) y A) (λQ z=>?_) q;obtain⟨F,ρ,r,ρ',g,e,k⟩:=z;rw[HH.E8]at e;obtain⟨h,E,G,f⟩:=ao e;have I:=aJ f;clear f;obtain⟨f,J⟩:=I;subst J;refine C g G λv u L Y s M N=>⟨L,h.1,h.2,r,s.gs.sub,M,N,f,λw O U x W=>?_⟩;exact k w O U (s.trans (x.stp s.gs)) (.later s (W.pK s.gs))
theorem lg(l:ST X c a pa):ST X c (.UnaryOp .Not a pos) (.not pa):=by
 refine tH (Ml l) ?_;rintro σ H Q⟨F,ρ,k,ρ',g,e,q⟩;unfold iw at e;rw[HH.E5]at e;obtain⟨r,m,o,f⟩:=ao e;obtain⟨h,t,u,w⟩:=ao o;cases w;have y:=aJ f;clear f;obtain⟨f,z⟩:=y;subst z;have f:(!h)=k:=by cases f;rfl
 exact⟨F,ρ,h,_,g,u,λA j s=>by show Q (!h) j;rw[f];exact q A j s⟩
theorem GZ(ρ:List Sl):iw (HH.ev c (.and pa pb)) ρ=(iw (HH.ev c pa) ρ).bind λx ρ=>if x then iw (HH.ev c pb) ρ else .ok false ρ:=by unfold iw;rw[HH.E6];unfold iw;cases HH.ev c pa ρ with|exc _ _=>rfl|stuck=>rfl|ok r f=>simp only[Res.bind];cases h:uU r.d with|none=>rfl|some k=>cases k with|false=>rfl|true=>simp only[lift,if_true];cases HH.ev c pb f with|exc _ _=>rfl|stuck=>rfl|ok g j=>simp only[Res.bind];cases h2:uU g.d with|none=>rfl|some l=>rfl
theorem K8(ρ:List Sl):iw (HH.ev c (.or pa pb)) ρ=(iw (HH.ev c pa) ρ).bind λx ρ=>if x then .ok true ρ else iw (HH.ev c pb) ρ:=by unfold iw;rw[HH.E7];unfold iw;cases HH.ev c pa ρ with|exc _ _=>rfl|stuck=>rfl|ok r f=>simp only[Res.bind];cases h:uU r.d with|none=>rfl|some k=>cases k with|true=>rfl|false=>simp only[lift,false_eq_true,if_false];cases HH.ev c pb f with|exc _ _=>rfl|stuck=>rfl|ok g j=>simp only[Res.bind];cases h2:uU g.d with|none=>rfl|some l=>rfl
theorem jF(f:ST X c a pa):SW X c (.BoolOp .And [a] pos) pa:=Ga f
theorem j7(f:ST X c a pa):SW X c (.BoolOp .Or [a] pos) pa:=Mg f
theorem jC(j:ST X c a pa)(l:SW X c (.BoolOp .And (b::rest) pos) pb):SW X c (.BoolOp .And (a::b::rest) pos) (.and pa pb):=by refine Ik (M3 j l) ?_;rintro σ H Q⟨F,ρ,k,ρ',g,e,q⟩;rw[GZ]at e;obtain⟨x,f,m,e⟩:=ao e;refine⟨F,ρ,x,f,g,m,λh o s1=>?_⟩;cases x with|true=>rw[if_pos rfl]at e ⊢;exact⟨h,f,k,ρ',s1.gs,e,λr s s2=>q r s (s1.trans s2)⟩|false=>rw[if_neg Bool.false_ne_true]at e ⊢;cases e;exact q h o s1
theorem jj(j:ST X c a pa)(l:SW X c (.BoolOp .Or (b::rest) pos) pb):SW X c (.BoolOp .Or (a::b::rest) pos) (.or pa pb):=by refine Ik (R9 j l) ?_;rintro σ H Q⟨F,ρ,k,ρ',g,e,q⟩;rw[K8]at e;obtain⟨x,f,m,e⟩:=ao e;refine⟨F,ρ,x,f,g,m,λh o s1=>?_⟩;cases x with|true=>rw[if_pos rfl]at e ⊢;cases e;exact q h o s1|false=>rw[if_neg Bool.false_ne_true]at e ⊢;exact⟨h,f,k,ρ',s1.gs,e,λr s s2=>q r s (s1.trans s2)⟩
theorem mG{op}(f:SX X c a pa):PE X (.BoolOp op [a] pos) (zB X.K (HH.ev c pa)):=K4 f.ev
theorem Dk(q:SX X c a pa)(s:PE X (.BoolOp .And (b::rest) pos) (zB X.K (HH.ev c pb))):SX X c (.BoolOp .And (a::b::rest) pos) (.and pa pb):=by refine⟨gh (J8 q.ev s) ?_,λi h=>by cases h⟩;rintro σ H Q⟨F,ρ,r,ρ',g,e,k⟩;rw[HH.E6]at e;obtain⟨x,f,t,e⟩:=ao e;refine lC (c:=c) (λ_ z=>z) (Q:=λx j=>if x=true then zB X.K (HH.ev c pb) σ j Q else Q (.bl false) j) ⟨F,ρ,x,f,g,t,λm j s1=>?_⟩;cases x with|true=>rw[if_pos rfl]at e ⊢;obtain⟨y,u,w,A⟩:=ao e;cases A;obtain⟨B,C,E,l⟩:=ao w;have G:=aJ l;clear l;obtain⟨l,I⟩:=G;subst I;refine⟨m,f,B,_,s1.gs,E,λv o J s2 L=>?_⟩;rw[L.bool (jT l)];exact k _ o J (s1.trans s2) (show Rep X.K o _ _ from fj _)|false=>rw[if_neg Bool.false_ne_true]at e ⊢;cases e;exact k _ m j s1 (show Rep X.K m _ _ from fj _)
theorem Cp(q:SX X c a pa)(s:PE X (.BoolOp .Or (b::rest) pos) (zB X.K (HH.ev c pb))):SX X c (.BoolOp .Or (a::b::rest) pos) (.or pa pb):=by refine⟨gh (Bf q.ev s) ?_,λi h=>by cases h⟩;rintro σ H Q⟨F,ρ,r,ρ',g,e,k⟩;rw[HH.E7]at e;obtain⟨x,f,t,e⟩:=ao e;refine lC (c:=c) (λ_ z=>z) (Q:=λx j=>if x=true then Q (.bl true) j else zB X.K (HH.ev c pb) σ j Q) ⟨F,ρ,x,f,g,t,λm j s1=>?_⟩;cases x with|true=>rw[if_pos rfl]at e ⊢;cases e;exact k _ m j s1 (show Rep X.K m _ _ from fj _)|false=>rw[if_neg Bool.false_ne_true]at e ⊢;obtain⟨y,u,w,A⟩:=ao e;cases A;obtain⟨B,C,E,l⟩:=ao w;have G:=aJ l;clear l;obtain⟨l,I⟩:=G;subst I;refine⟨m,f,B,_,s1.gs,E,λv o J s2 L=>?_⟩;rw[L.bool (jT l)];exact k _ o J (s1.trans s2) (show Rep X.K o _ _ from fj _)
theorem rG:∀{ps:List P}{ρ ρ':List Sl}{ds:List D},evs c ps ρ=.ok ds ρ'->ds.length=ps.length|[],_,_,_,h=>by rw[CQ]at h;cases h;rfl|p::ps,_,_,_,h=>by rw[rR]at h;obtain⟨r,f,_,h⟩:=ao h;obtain⟨xs,g,j,h⟩:=ao h;cases h;simp[rG j]
theorem aG:SA X c [] []:=⟨tK iD λσ H Q⟨F,ρ,ds,ρ',g,e,k⟩=>by rw[CQ]at e;cases e;exact k [] F H (.refl g) .nil,rfl⟩
theorem mL{ps:List P}(h:SX X c a pa)(hr:SA X c es ps)(hs:starEach (a::es) X.env=(false,eval a X.env)::starEach es X.env:=by rfl):SA X c (a::es) (pa::ps):=by refine⟨tK (dq h.ev hr.1 hs) ?_,by simp[hr.2]⟩;rintro σ H Q⟨F,ρ,ds,ρ',g,e,k⟩;rw[rR]at e;obtain⟨r,f,j,e⟩:=ao e;obtain⟨xs,l,m,e⟩:=ao e;cases e;refine⟨F,ρ,r,f,g,j,λv z A s o=>?_⟩;obtain⟨q,s1,_,t⟩:=s.eG o;refine⟨q,f,xs,_,s1.gs,m,λvs u w s2 y=>?_⟩;exact k _ u w (s1.trans s2) (.cons (t.mono s2.cW) y)
theorem Ext.FT{h j:Hp}{Q:VK}{xs:List V}(s:bV K j ρ σ h F ρ' σ H)(r:aF K F xs ds)(k:∀v g f,bV K j ρ σ h g ρ' σ f->cF K g ρ' σ f ρ σ h v (.val (.tup ds))->Q v f)(p:Addr)(l:H p=none):Q (.ref p) (upd H p (.tup xs)):=yS s.gs.sub r l λv g f x m=>k v g f (s.trans (x.stp s.gs)) m
theorem bj{ps:List P}{x1}(h:SA X c es ps)(l:ps.length<=sizeLine:=by decide):SX X c (.Tuple es x1 pos) (.tup ps):=by refine⟨gh (K9 h.1) ?_,λi h=>by cases h⟩;rintro σ H Q⟨F,ρ,r,ρ',g,e,k⟩;rw[HH.E11]at e;obtain⟨ds,m,f,e⟩:=ao e;cases e;exact⟨F,ρ,ds,_,g,f,λvs q t s j=>⟨by rw[j.length,rG f];exact l,λp o=>Ext.FT s j k p o⟩⟩
theorem cL{ps:List P}(h:SA X c es ps)(l:ps.length<=sizeLine:=by decide):SX X c (.List es pos) (.lst ps):=by refine⟨gh (Ku h.1) ?_,λi h=>by cases h⟩;rintro σ H Q⟨F,ρ,r,ρ',g,e,k⟩;rw[HH.E12]at e;obtain⟨ds,m,f,e⟩:=ao e;cases e;exact⟨F,ρ,ds,_,g,f,λvs w y s j=>⟨by rw[j.length,rG f];exact l,λp o=>vQ s.gs.sub j o λv q t x u=>k v q t (s.trans (x.stp s.gs)) (.later s (u.pK s.gs))⟩⟩
theorem Kg{i:Int}{d:D}(h:at' ds i=some d):∃j,L2.lW ds.length i=some j/\ds[j]?=some d:=fB h
theorem WM:Vi X (rD X.K vd):=by
 rintro f slice g s σ H x y v u Q I o l⟨F,d,e,r,m,A,B,he,k⟩hs;unfold vd at he;obtain⟨ds,C,he⟩:=fB he;obtain⟨i,E,he⟩:=fB he;obtain⟨z,G,he⟩:=map_some he;subst he;cases iM E;rw[B.int]at l;obtain⟨p,xs,rfl,hq,q⟩:=A.items m C;obtain⟨j,h1,J⟩:=Kg G;obtain⟨w,L,t⟩:=q.get J;have h:NZ xs i=some w:=by unfold NZ;rw[q.length,h1];exact L
 rcases hq with hq|hq;.exact Gd f slice g s σ H _ _ v u Q I o l ⟨p,xs,i,w,rfl,rfl,hq,h,cA.dw m t k⟩ hs
 .exact JW f slice g s σ H _ _ v u Q I o l ⟨p,xs,i,w,rfl,rfl,hq,h,cA.dw m t k⟩ hs
theorem aM(g:SX X c a pa)(h:SX X c b pb)(hs:wW b:=by intro _ _;rfl):SX X c (.Subscript a b pos) (.idx pa pb):=m6 (f:=vd) (λh1 j=>Rq WM h1 j hs) g h (λρ=>rfl) rfl
def El(K:PySem.W.Frag)(f:D->Option R):List V->Hp->VK->Prop:=λxs H Q=>∃x,xs=[x]/\ZF K f x H Q
theorem lN{E:Expr}{f:D->Option R}{q:P}(l:∀{t},PA X [a] t->PE X E (U7 (El X.K f) t))(m:SX X c a pa)(o:∀ρ,HH.ev c q ρ=(HH.fP (isVar pa) (HH.ev c pa) ρ).bind λx ρ=>lift (f x) ρ)(u:isVar q=none)(hs:starEach [a] X.env=(false,eval a X.env)::starEach [] X.env:=by rfl):SX X c E q:=by obtain⟨N,h1,y⟩:=m.fP;refine⟨gh (l (dq h1 iD hs)) ?_,λi h=>by rw[u]at h;cases h⟩;rintro σ H Q⟨F,ρ,r,ρ',g,e,k⟩;rw[o]at e;obtain⟨x,z,A,j⟩:=ao e;have B:=aJ j;clear j;obtain⟨j,C⟩:=B;subst C;refine y g A λv G O s I=>⟨v,rfl,G,x,r,s.gs.sub,I,j,λw J L x M=>?_⟩;exact k w J L (s.trans (x.stp s.gs)) (.later s (M.pK s.gs))
theorem Rw:dm X (.builtin "len") (El X.K λx=>blt .len [x]):=by rintro f s σ H xs h Q I r⟨x,j,F,d,r',g,l,he,k⟩;obtain⟨ds,m,he⟩:=map_some (show(items d).map _=some r' from he);subst he;obtain⟨p,ys,rfl,o,q⟩:=l.items g m;exact qN f s σ H xs h Q I r ⟨p,ys,j,o,by rw[q.length];exact cA.dw g (cV _) k⟩
theorem Kr:dm X (.type "list") (El X.K λx=>blt .list [x]):=by rintro f s σ H xs h Q I r⟨x,j,F,d,r',g,m,he,k⟩;obtain⟨ds,o,he⟩:=map_some (show(items d).map _=some r' from he);subst he;obtain⟨p,ys,rfl,q,t⟩:=m.items g o;exact qZ f s σ H xs h Q I r ⟨p,ys,j,q,λl u=>vQ g t u k⟩
theorem Fo:dm X (.type "tuple") (El X.K λx=>blt .tuple [x]):=by rintro f s σ H xs m Q I r⟨x,o,F,d,r',g,q,he,k⟩;obtain⟨ds,h,he⟩:=map_some (show(items d).map _=some r' from he);subst he;cases d with|tup es=>cases h;obtain⟨a,ys,rfl,j,t,rt⟩:=q.tup g;exact ji f s σ H xs m Q I r ⟨a,ys,o,.inr ⟨j,cA.dw g rt k⟩⟩|lst es=>cases h;obtain⟨a,ys,rfl,j,t⟩:=q.lst g;exact ji f s σ H xs m Q I r ⟨a,ys,o,.inl ⟨j,λl u=>yS g t u k⟩⟩|_=>cases h
theorem iH(f:x="len")(g:Gl X x)(j:X.mg x=none)(k:SX X c a pa)(hs:starEach [a] X.env=(false,eval a X.env)::starEach [] X.env:=by rfl):SX X c (.Call (.Name x p') [a] [] pos) (.blt .len [pa]):=by subst f;exact lN (λh=>dW Rw g j PySem.boot_len h (he:=hs)) k (λρ=>rfl) rfl hs
theorem GK(f:x="list")(g:Gl X x)(j:X.mg x=none)(k:SX X c a pa)(hs:starEach [a] X.env=(false,eval a X.env)::starEach [] X.env:=by rfl):SX X c (.Call (.Name x p') [a] [] pos) (.blt .list [pa]):=by subst f;exact lN (λh=>kh Kr g j (by decide+kernel) h (he:=hs)) k (λρ=>rfl) rfl hs
theorem iB(f:x="tuple")(g:Gl X x)(j:X.mg x=none)(k:SX X c a pa)(hs:starEach [a] X.env=(false,eval a X.env)::starEach [] X.env:=by rfl):SX X c (.Call (.Name x p') [a] [] pos) (.blt .tuple [pa]):=by subst f;exact lN (λh=>kh Fo g j (by decide+kernel) h (he:=hs)) k (λρ=>rfl) rfl hs
end
def GR(K:PySem.W.Frag)(np:Nat)(f:List Sl->Res R):Sp:=λvs H Q _=>vs.length=np/\∃F args r a,GS K F args (vs.map some) H/\f args=.ok r a/\∀v e b c,bV K F args (vs.map some) H e a b c->cF K e a b c args (vs.map some) H v r->Q v c
section
variable{K:PySem.W.Frag}
def u6(K:PySem.W.Frag)(F:Hp)(ρ:List Sl)(σ:L2.St)(H:Hp)(ρ₀:List Sl)(H₀:Hp)(v:V):Arg->Prop|.dat d=>Rep K F v d|.tmp ds=>∃x xs,v=.ref x/\H x=some (.lst xs)/\F x=none/\aF K F xs ds/\¬ Own ρ σ x/\(Own ρ₀ σ x\/H₀ x=none)|.dR i=>σ[i]?=some (some v)
structure tV(K:PySem.W.Frag)(F:Hp)(ρ:List Sl)(σ:L2.St)(H:Hp)(ρ₀:List Sl)(H₀:Hp)(as:List Arg)(vs:List V):Prop where
 len:as.length=vs.length
 one:∀(j:Nat)(a:Arg)(v:V),as[j]?=some a->vs[j]?=some v->u6 K F ρ σ H ρ₀ H₀ v a
 dis:∀(j k:Nat)(ds es:List D)(x:Addr),as[j]?=some (.tmp ds)->as[k]?=some (.tmp es)->vs[j]?=some (.ref x)->vs[k]?=some (.ref x)->j=k
theorem u6.later{b f:Hp}{a:Arg}(s:bV K F ρ σ H b ρ' σ f)(h:u6 K F ρ σ H ρ₀ H₀ v a):u6 K b ρ' σ f ρ₀ H₀ v a:=by cases a with|dat d=>exact Rep.mono s.cW h|dR i=>exact h|tmp ds=>
   obtain⟨x,xs,h1,c,g,j,e,k⟩:=h;refine⟨x,xs,h1,s.keep x _ c e,?_,j.mono s.cW,λo=>?_,k⟩;.cases q:b x with|none=>rfl|some o=>
       rcases s.zR x g (by rw[q];simp)with z|z;.exact absurd z e
       .exact(Cr c z).elim
   . rcases s.zL x o with z|z;.exact e z
     .rw[c]at z;cases z
theorem tV.nil:tV K F ρ σ H ρ₀ H₀ [] []:=⟨rfl,λj a v h=>by simp at h,λj k ds es x h=>by simp at h⟩
theorem tV.cons{F H H₀:Hp}{ρ ρ₀:List Sl}{σ:L2.St}{a:Arg}{v:V}{as:List Arg}{vs:List V}(h:u6 K F ρ σ H ρ₀ H₀ v a)(t:tV K F ρ σ H ρ₀ H₀ as vs)(hd:∀ds x,a=.tmp ds->v=.ref x->∀(k:Nat)es,as[k]?=some (.tmp es)->vs[k]?≠some (.ref x)):tV K F ρ σ H ρ₀ H₀ (a::as) (v::vs):=by
 refine⟨by simp[t.len],λj b u h1 c=>?_,λj k ds es x h1 c e f=>?_⟩;.cases j with|zero=>simp at h1 c;subst h1;subst c;exact h|succ j=>exact t.one j b u (by simpa using h1) (by simpa using c)
 .cases j with
   |zero=>cases k with|zero=>rfl|succ k=>simp at h1 e;exact absurd (by simpa using f) (hd ds x h1 e k es (by simpa using c))
   |succ j=>cases k with|zero=>simp at c f;exact absurd (by simpa using e) (hd es x c f j ds (by simpa using h1))|succ k=>rw[t.dis j k ds es x (by simpa using h1) (by simpa using c) (by simpa using e) (by simpa using f)]
def Am(ρ:List Sl):Arg->Sl->Prop|.dat d,s=>s=.val false d|.tmp ds,s=>s=.own false ds|.dR i,s=>(∃b d,ρ[i]?=some (.val b d)/\s=.val false d)\/(∃b ds,ρ[i]?=some (.own b ds)/\s=.own true ds)\/∃ds,ρ[i]?=some (.lent ds)/\s=.lent ds
theorem oE{ρ:List Sl}:∀{as:List Arg}{c:List Nat}{args:List Sl},bK ρ as c=some args->args.length=as.length/\(∀(j:Nat)(a:Arg)(s:Sl),as[j]?=some a->args[j]?=some s->Am ρ a s)/\(∀(j:Nat)(i:Nat)(s:Sl)ds,as[j]?=some (.dR i)->args[j]?=some s->lst? s=some ds->i∉c)/\(∀(j k:Nat)(i:Nat)(s t:Sl)ds es,as[j]?=some (.dR i)->as[k]?=some (.dR i)->args[j]?=some s->args[k]?=some t->lst? s=some ds->lst? t=some es->j=k)
 |[],c,args,h=>by rw[u9]at h;cases h;exact⟨rfl,λj a s h=>by simp at h,λj i s ds h=>by simp at h,λj k i s t ds es h=>by simp at h⟩|a::as,c,args,h=>by--the YL slot,the YM
   have A:∃s0 r u,args=s0::r/\bK ρ as u=some r/\Am ρ a s0/\((∃i ds,a=.dR i/\lst? s0=some ds/\u=i::c/\i∉c)\/((∀i ds,a=.dR i->lst? s0≠some ds)/\u=c)):=by cases a with|dat d=>rw[vX]at h;obtain⟨r,g,l⟩:=map_some h;exact⟨_,r,c,l.symm,g,rfl,.inr ⟨λi ds z=>(by cases z),rfl⟩⟩|tmp d=>rw[wu]at h;obtain⟨r,g,l⟩:=map_some h;exact⟨_,r,c,l.symm,g,rfl,.inr ⟨λi ds z=>(by cases z),rfl⟩⟩|dR i=>
      rw[ni]at h;split at h;.rename_i b d q;obtain⟨r,g,l⟩:=map_some h;exact⟨_,r,c,l.symm,g,.inl ⟨b,d,q,rfl⟩,.inr ⟨λ_ _ _ z=>(by cases z),rfl⟩⟩
      . rename_i b ds q;split at h;.cases h
        .rename_i o;obtain⟨r,g,l⟩:=map_some h;exact⟨_,r,_,l.symm,g,.inr (.inl ⟨b,ds,q,rfl⟩),.inl ⟨i,_,rfl,rfl,rfl,by simpa using o⟩⟩
      . rename_i ds q;split at h;.cases h
        .rename_i o;obtain⟨r,g,l⟩:=map_some h;exact⟨_,r,_,l.symm,g,.inr (.inr ⟨ds,q,rfl⟩),.inl ⟨i,_,rfl,rfl,rfl,by simpa using o⟩⟩
      .cases h
   obtain⟨s0,r,u,rfl,hr,B,o⟩:=A;obtain⟨O,Q,C,U⟩:=oE hr;have sub:∀i,i∉u->i∉c:=λi hi M=>by
    rcases o with⟨_,_,_,_,rfl,_⟩|⟨_,rfl⟩;.exact hi (mem_cons_of_mem _ M)
    .exact hi M
   refine⟨by simp[O],λj b s h1 f=>?_,λj i s ds h1 f p=>?_,λj k i s t ds es h1 f p y E G=>?_⟩;.cases j with|zero=>simp at h1 f;subst h1;subst f;exact B|succ j=>exact Q j b s (by simpa using h1) (by simpa using f)
   .cases j with|zero=>
       simp at h1 f;subst h1;subst f;rcases o with⟨N,_,e,_,_,m⟩|⟨m,_⟩;.cases e;exact m
       .exact absurd p (m i ds rfl)|succ j=>exact sub i (C j i s ds (by simpa using h1) (by simpa using f) p)
   . have W:∀(k:Nat)(t:Sl)es,a=.dR i->lst? s0=some ds->(as[k]?=some (.dR i))->r[k]?=some t->lst? t=some es->False:=λk t es w I J L he=>by
      rcases o with⟨N,_,e,_,rfl,m⟩|⟨m,_⟩;.rw[w]at e;cases e;exact C k i t es J L he mem_cons_self
      .exact m i ds w I
     have X:∀(k:Nat)(t:Sl)es,a=.dR i->lst? s0=some es->(as[k]?=some (.dR i))->r[k]?=some t->lst? t=some ds->False:=λk t es w I J L he=>by
      rcases o with⟨N,_,e,_,rfl,m⟩|⟨m,_⟩;.rw[w]at e;cases e;exact C k i t ds J L he mem_cons_self
      .exact m i es w I
     cases j with
     |zero=>cases k with|zero=>rfl|succ k=>simp at h1 p;subst p;exact(W k t es h1 E (by simpa using f) (by simpa using y) G).elim
     |succ j=>cases k with|zero=>simp at f y;subst y;exact(X j s es f G (by simpa using h1) (by simpa using p) E).elim|succ k=>rw[U j k i s t ds es (by simpa using h1) (by simpa using f) (by simpa using p) (by simpa using y) E G]
theorem tV.get(A:tV K F ρ σ H ρ₀ H₀ as vs){args:List Sl}{j:Nat}{s:Sl}(c:args.length=as.length)(h:args[j]?=some s):∃a v,as[j]?=some a/\vs[j]?=some v/\u6 K F ρ σ H ρ₀ H₀ v a:=by
 have e:j<args.length:=(gW h).1;have h1:j<as.length:=by omega
 have b:j<vs.length:=by rw[<-A.len];exact h1
 exact⟨as[j],vs[j],by simp[h1],by simp[b],A.one j _ _ (by simp[h1]) (by simp[b])⟩
theorem args_gs{args:List Sl}(g:GS K F ρ σ H)(A:tV K F ρ σ H ρ₀ H₀ as vs)(h:bK ρ as []=some args):GS K F args (vs.map some) H:=by
 obtain⟨I,M,l3,l4⟩:=oE h;have N:∀{j:Nat}{v:V},vs[j]?=some v->(vs.map some)[j]?=some (some v):=λe=>by rw[getElem?_map,e];rfl
 have Y:∀{j:Nat}{v:V},(vs.map some)[j]?=some (some v)->vs[j]?=some v:=λ{j v}e=>by rw[getElem?_map]at e;cases q:vs[j]?with|none=>rw[q]at e;cases e|some w=>rw[q]at e;cases e;rfl
 refine⟨g.sub,by rw[I,A.len,length_map],λj b d e=>?_,λj s ds e J=>?_,λj k x⟨⟨s,ds,e1,e2⟩,O⟩⟨⟨t,es,f1,f2⟩,f3⟩=>?_⟩;.obtain⟨a,v,h1,u,m⟩:=A.get I e;have B:=M j a _ h1 e;refine⟨v,N u,?_⟩;cases a with|dat d'=>cases B;exact m|tmp ds=>cases B|dR i=>
     rcases B with⟨Q,d',r,c⟩|⟨_,_,_,c⟩|⟨_,_,c⟩;.cases c;obtain⟨w,f,p⟩:=g.val i Q d r;have m:σ[i]?=some (some v):=m;rw[m]at f;cases f;exact p
     .cases c
     .cases c
 .obtain⟨a,v,h1,u,m⟩:=A.get I e;have B:=M j a _ h1 e;cases a with|dat d'=>cases B;cases J|tmp es=>cases B;cases J;obtain⟨x,xs,rfl,c,f,p,_⟩:=m;exact⟨x,_,N u,c,f,xs,rfl,p⟩|dR i=>
     have m:σ[i]?=some (some v):=m;rcases B with⟨Q,d',r,c⟩|⟨Q,es,r,c⟩|⟨es,r,c⟩;.cases c;cases J
     .cases c;cases J;obtain⟨x,xs,f,p⟩:=g.own i _ _ r rfl;rw[m]at f;cases f;exact⟨x,xs,N u,p⟩
     .cases c;cases J;obtain⟨x,xs,f,p⟩:=g.own i _ _ r rfl;rw[m]at f;cases f;exact⟨x,xs,N u,p⟩
 . obtain⟨a,v,h1,u,m⟩:=A.get I e1;obtain⟨U,v',C,L,E⟩:=A.get I f1;have O:=Y O;have f3:=Y f3;rw[u]at O;cases O;rw[L]at f3;cases f3;have s1:=M j a _ h1 e1;have s2:=M k U _ C f1;have W:∀{i:Nat}{s:Sl}{ds:Oc},lst? s=some ds->Am ρ (.dR i) s->∃G o,ρ[i]?=some G/\lst? G=some o:=λ{i s ds}l z=>by
    rcases z with⟨_,_,_,z⟩|⟨b,es,q,_⟩|⟨es,q,_⟩;.subst z;cases l
    .exact⟨_,_,q,rfl⟩
    .exact⟨_,_,q,rfl⟩
   cases a with
   |dat d=>cases s1;cases e2|tmp Nb=>cases U with|dat d=>cases s2;cases f2|tmp Z=>exact A.dis j k Nb Z x h1 C u L|dR i=>obtain⟨y,_,r,_,_,_,c,_⟩:=m;cases r;obtain⟨G,o,f,p⟩:=W f2 s2;exact absurd ⟨i,⟨G,o,f,p⟩,E⟩ c
   |dR i=>obtain⟨G,o,f,p⟩:=W e2 s1;cases U with|dat d=>cases s2;cases f2|tmp Z=>obtain⟨y,_,r,_,_,_,c,_⟩:=E;cases r;exact absurd ⟨i,⟨G,o,f,p⟩,m⟩ c|dR i'=>obtain⟨X,YQ,q5,q6⟩:=W f2 s2;have:=g.dis i i' x ⟨⟨G,o,f,p⟩,m⟩ ⟨⟨X,YQ,q5,q6⟩,E⟩;subst this;exact l4 j k i s t ds es h1 C e1 f1 e2 f2
theorem km{as:List Arg}{ss:List Sl}:∀(ρ:List Sl)(n i:Nat),(dG as ss n ρ)[i]?=(ρ[i]?).map λs=>dJ s (aP (n+i) as ss)
 |[],n,i=>by simp[mZ,jr]|s::ρ,n,0=>by simp[mZ,jr]|s::ρ,n,i+1=>by
   rw[jr];simp only[List.getElem?_cons_succ];rw[km ρ (n+1) i];have:n+1+i=n+(i+1):=by omega
   rw[this]
theorem kO{as:List Arg}{ss:List Sl}:∀(ρ:List Sl)(n:Nat),(dG as ss n ρ).length=ρ.length|[],n=>rfl|s::ρ,n=>by rw[jr];simp[kO ρ]
theorem gH{i:Nat}:∀{as:List Arg}{ss:List Sl}{t:Sl},aP i as ss=some t->∃j:Nat,as[j]?=some (.dR i)/\ss[j]?=some t
 |[],_,_,h=>by simp[aP]at h|a::as,[],_,h=>by cases a<;>simp[aP]at h|a::as,s::ss,t,h=>by
   have b:aP i as ss=some t->∃j:Nat,(a::as)[j]?=some (.dR i)/\(s::ss)[j]?=some t:=λh=>by obtain⟨j,h1,c⟩:=gH h;exact⟨j+1,by simpa using h1,by simpa using c⟩
   cases a with|dat d=>exact b (by simpa[aP]using h)|tmp d=>exact b (by simpa[aP]using h)|dR k=>
     rw[aP]at h;split at h;.rename_i e;cases h;subst e;exact⟨0,rfl,rfl⟩
     .exact b h
theorem ju{i:Nat}:∀{as:List Arg}{ss:List Sl},as.length=ss.length->aP i as ss=none->∀j:Nat,as[j]?≠some (.dR i)
 |[],_,_,_=>λj h=>by simp at h|a::as,[],b,_=>by simp at b|a::as,s::ss,b,h=>λj c=>by
   have f:as.length=ss.length:=by simpa using b
   have g:aP i as ss=none/\a≠.dR i:=by cases a with|dat d=>exact⟨by simpa[aP]using h,by simp⟩|tmp d=>exact⟨by simpa[aP]using h,by simp⟩|dR k=>
      rw[aP]at h;split at h;.cases h
      .rename_i l;exact⟨h,λe=>l (by cases e;rfl)⟩
   cases j with|zero=>simp at c;exact g.2 c|succ j=>exact ju f g.1 j (by simpa using c)
theorem Ck{Q W H':Hp}{args c:List Sl}{X:L2.St}(s0:bV K Q ρ₀ σ H₀ F ρ σ H)(A:tV K F ρ σ H ρ₀ H₀ as vs)(hb:bK ρ as []=some args)(s:bV K F args (vs.map some) H W c X H'):bV K Q ρ₀ σ H₀ W (dG as c 0 ρ) σ H'/\∀v r,cF K W c X H' args (vs.map some) H v r->cF K W (dG as c 0 ρ) σ H' ρ₀ σ H₀ v r:=by
 have g:=s0.gs;obtain⟨M,l2,l3,l4⟩:=oE hb;have up:∀{j:Nat}{v:V},vs[j]?=some v->(vs.map some)[j]?=some (some v):=λe=>by rw[getElem?_map,e];rfl
 have dn:∀{j:Nat}{v:V},(vs.map some)[j]?=some (some v)->vs[j]?=some v:=λ{j v}e=>by rw[getElem?_map]at e;cases q:vs[j]?with|none=>rw[q]at e;cases e|some w=>rw[q]at e;cases e;rfl
 have la:as.length=c.length:=by rw[s.len,M]--whose are the lists that the callee holds
 have own:∀b,Own args (vs.map some) b->(∃(j:Nat)(ds:List D),as[j]?=some (Arg.tmp ds)/\vs[j]?=some (V.ref b)/\¬ Own ρ σ b/\(Own ρ₀ σ b\/H₀ b=none))\/Own ρ σ b:=λb⟨j,⟨sl,ds,E,U⟩,e3⟩=>by obtain⟨a,v,h1,C,J⟩:=A.get M E;have s1:=l2 j a _ h1 E;have e3:=dn e3;rw[C]at e3;cases e3;cases a with|dat d=>cases s1;cases U|tmp es=>obtain⟨x,_,k,_,_,_,f,N⟩:=J;cases k;exact .inl ⟨j,es,h1,C,f,N⟩|dR i=>
    right;rcases s1 with⟨_,_,_,z⟩|⟨b',es,q,_⟩|⟨es,q,_⟩;.subst z;cases U
    .exact⟨i,⟨_,_,q,rfl⟩,J⟩
    .exact⟨i,⟨_,_,q,rfl⟩,J⟩
 have back:∀b,Own ρ σ b\/H b=none->Own ρ₀ σ b\/H₀ b=none:=λb h=>by
  rcases h with h|h;.exact s0.zL b h
  . by_cases ho:Own ρ₀ σ b;.exact .inl ho
    .right;cases e:H₀ b with|none=>rfl|some o=>rw[s0.keep b o e ho]at h;cases h
 have L:∀b,Own args (vs.map some) b->Own ρ₀ σ b\/H₀ b=none:=λb h=>by
  rcases own b h with⟨_,_,_,_,_,z⟩|z;.exact z
  .exact back b (.inl z)--a name's slot behind the call
 have slot:∀{i:Nat}{t:Sl},(dG as c 0 ρ)[i]?=some t->∃s1,ρ[i]?=some s1/\t=dJ s1 (aP i as c):=λ{i t}h=>by rw[km]at h;obtain⟨s1,E,U⟩:=map_some h;exact⟨s1,E,by rw[<-U,Nat.zero_add]⟩
 have Tv:∀{i:Nat}{s1:Sl},ρ[i]?=some s1->(dG as c 0 ρ)[i]?=some (dJ s1 (aP i as c)):=λ{i s1}h=>by rw[km,h,Nat.zero_add];rfl--what the callee left of a list that was lent to it
 have lent:∀{i j:Nat}{s1 t:Sl}{ds:List D},ρ[i]?=some s1->lst? s1=some (.l ds)->as[j]?=some (.dR i)->c[j]?=some t->∃v s2,σ[i]?=some (some v)/\X[j]?=some (some v)/\args[j]?=some s2/\jZ s2 t/\((∃b,s1=.own b ds/\s2=.own true ds)\/(s1=.lent ds/\s2=.lent ds)):=λ{i j s1 t ds}h1 C J h4=>by
  have Y:j<args.length:=by rw[M];exact(gW J).1
  have E:args[j]?=some args[j]:=by simp[Y]
  obtain⟨a,v,k,f,N⟩:=A.get M E;rw[J]at k;cases k;have q4:=l2 j _ _ J E;have kind:(∃b,s1=.own b ds/\args[j]=.own true ds)\/(s1=.lent ds/\args[j]=.lent ds):=by
   rcases q4 with⟨_,_,z,_⟩|⟨b,es,z,z'⟩|⟨es,z,z'⟩;.rw[h1]at z;cases z;cases C
   .rw[h1]at z;cases z;cases C;exact .inl ⟨b,rfl,z'⟩
   .rw[h1]at z;cases z;cases C;exact .inr ⟨rfl,z'⟩
  have lk:DW args[j]=true:=by rcases kind with⟨_,_,z⟩|⟨_,z⟩<;>rw[z]<;>rfl
  obtain⟨u,s',y,z3⟩:=s.lk j _ E lk;rw[h4]at y;cases y;exact⟨v,_,N,by rw[u];exact up f,E,z3,kind⟩
 have HB:∀{i:Nat}{x:Addr},bu (dG as c 0 ρ) σ i x->bu ρ σ i x:=λ{i x}⟨⟨t,ds,E,U⟩,e3⟩=>by obtain⟨s1,k,f⟩:=slot E;refine⟨?_,e3⟩;cases s1 with|aU=>subst f;cases U|val b d=>subst f;cases U|own b es=>exact⟨_,_,k,rfl⟩|lent es=>exact⟨_,_,k,rfl⟩|gY m=>exact⟨_,_,k,rfl⟩|qD m=>exact⟨_,_,k,rfl⟩|hold _=>subst f;cases U
 refine⟨?_,λv r h=>?_⟩;rotate_left;.cases r with|val d=>exact h|own ds=>
     obtain⟨x,xs,h1,C,J,h4,h5,h6⟩:=h;refine⟨x,xs,h1,C,J,h4,λ⟨i,h⟩=>?_,?_⟩
     . have hO:=HB h;obtain⟨⟨s1,Nb,k,f⟩,N⟩:=hO;obtain⟨x',ai,w1,w2,_⟩:=g.own i s1 Nb k f;rw[N]at w1;cases w1;rcases h6 with h6|h6
       . rcases own x h6 with⟨_,_,_,_,z,_⟩|_;.exact z ⟨i,⟨s1,Nb,k,f⟩,N⟩
         .--a name was lent
           obtain⟨j,⟨sl,es,Z,w4⟩,w5⟩:=h6;obtain⟨a',v',G,O,y3⟩:=A.get M Z;have sa:=l2 j a' _ G Z;have w5:=dn w5;rw[O]at w5;cases w5;cases a' with|dat d=>cases sa;cases w4|tmp am=>obtain⟨_,_,u1,_,_,_,u2,_⟩:=y3;cases u1;exact u2 ⟨i,⟨s1,Nb,k,f⟩,N⟩|dR i'=>
             have ex:∃s' ae,ρ[i']?=some s'/\lst? s'=some ae:=by
              rcases sa with⟨_,_,_,z⟩|⟨b,es,q,_⟩|⟨es,q,_⟩;.subst z;cases w4
              .exact⟨_,_,q,rfl⟩
              .exact⟨_,_,q,rfl⟩
             have:=g.dis i i' x ⟨⟨s1,Nb,k,f⟩,N⟩ ⟨ex,y3⟩;subst this;have hk:∃Hz,Nb=.l Hz:=by
              rcases sa with⟨_,_,_,z⟩|⟨b,es,q,_⟩|⟨es,q,_⟩;.subst z;cases w4
              .rw[k]at q;cases q;cases f;exact⟨_,rfl⟩
              .rw[k]at q;cases q;cases f;exact⟨_,rfl⟩
             obtain⟨Hz,rfl⟩:=hk;have Y:j<c.length:=by rw[<-la];exact(gW G).1
             have B:c[j]?=some c[j]:=by simp[Y]
             obtain⟨v2,s2,u1,u2,u3,u4,u5⟩:=lent k f G B;rw[N]at u1;cases u1--the slot behind the call is a list's
             obtain⟨⟨t,dt,t1,t2⟩,_⟩:=h;obtain⟨s3,t3,t4⟩:=slot t1;rw[k]at t3;cases t3;have lo:∃t5,aP i as c=some t5:=by cases I:aP i as c with|none=>exact absurd G (ju la I j)|some t5=>exact⟨t5,rfl⟩
             obtain⟨t5,I⟩:=lo;obtain⟨j2,t6,t7⟩:=gH I;have ap:j2<args.length:=by rw[M];exact(gW t6).1
             obtain⟨_,s6,_,ar,af,aw,ag⟩:=lent k f t6 t7;have ah:j2=j:=by
              have a1:lst? s6=some (.l Hz):=by rcases ag with⟨_,_,z⟩|⟨_,z⟩<;>rw[z]<;>rfl
              have a2:lst? s2=some (.l Hz):=by rcases u5 with⟨_,_,z⟩|⟨_,z⟩<;>rw[z]<;>rfl
              exact l4 j2 j i s6 s2 _ _ t6 G af u3 a1 a2
             subst ah;rw[B]at t7;cases t7;rw[I]at t4;refine h5 ⟨j2,?_,u2⟩;rcases u5 with⟨b,u,y⟩|⟨u,y⟩
             . subst u;subst y;rcases u4 with⟨d2,z⟩|⟨d2,z⟩;.exact⟨_,.l d2,B,by rw[z];rfl⟩
               .rw[z]at t4;subst t4;cases t2
             .subst u;subst y;exact⟨_,.l Hz,B,by rw[show c[j2]=.lent Hz from u4];rfl⟩
       .rw[w2]at h6;cases h6
     . rcases h6 with h6|h6;.exact L x h6
       .exact back x (.inr h6)
 refine⟨⟨s.gs.sub,by rw[kO];exact g.len,λi b d e=>?_,λi t ds e B=>?_,λi j x h1 C=>g.dis i j x (HB h1) (HB C)⟩,s0.cW.trans s.cW,λb n n'=>?_,λb o h n=>?_,λb⟨i,h⟩=>back b (.inl ⟨i,HB h⟩),by rw[kO];exact s0.len,λi s1 h l=>?_⟩;.--data
   obtain⟨s1,k,f⟩:=slot e;cases s1 with|aU=>cases f|lent es=>cases f|gY _=>cases f|qD _=>cases f|hold _=>cases f|val b' d'=>cases f;obtain⟨v,u,y⟩:=g.val i b d k;exact⟨v,u,y.mono s.cW⟩|own b' es=>cases I:aP i as c with|none=>rw[I]at f;cases f|some t=>rw[I]at f;obtain⟨j,u,y⟩:=gH I;obtain⟨v,s2,G,O,y3,y4,p⟩:=lent k rfl u y;cases t with|aU=>cases f|own _ _=>cases f|lent _=>cases f|gY _=>cases f|qD _=>cases f|hold _=>cases f|val b2 d2=>cases f;obtain⟨w,x1,x2⟩:=s.gs.val j b2 d y;rw[O]at x1;cases x1;exact⟨v,G,x2⟩
 .--lists
   obtain⟨s1,k,f⟩:=slot e--a list that was not lent
   have stay:∀es,lst? s1=some es->(∀j:Nat,as[j]?≠some (.dR i))->t=s1->∃(a:Addr)(xs:HO),σ[i]?=some (some (V.ref a))/\H' a=some xs/\W a=none/\p6 K W xs ds:=λes he hn ht=>by
    subst ht;rw[he]at B;cases B;obtain⟨a,xs,u,y,z3,z4⟩:=g.own i _ ds k he;have no:¬ Own args (vs.map some) a:=λh=>by obtain⟨j,⟨sl,es,w1,w2⟩,Z⟩:=h;obtain⟨a',v,h1,C,J⟩:=A.get M w1;have sa:=l2 j a' _ h1 w1;have Z:=dn Z;rw[C]at Z;cases Z;cases a' with|dat d=>cases sa;cases w2|tmp es=>obtain⟨x,_,G,_,_,_,O,_⟩:=J;cases G;exact O ⟨i,⟨_,ds,k,he⟩,u⟩|dR i'=>
       have:∃s' ae,ρ[i']?=some s'/\lst? s'=some ae:=by
        rcases sa with⟨_,_,_,z⟩|⟨b,es,q,_⟩|⟨es,q,_⟩;.subst z;cases w2
        .exact⟨_,_,q,rfl⟩
        .exact⟨_,_,q,rfl⟩
       have:=g.dis i i' a ⟨⟨_,ds,k,he⟩,u⟩ ⟨this,J⟩;subst this;exact hn j h1
    refine⟨a,xs,u,s.keep a _ y no,?_,z4.mono s.cW⟩;cases q:W a with|none=>rfl|some o=>
      rcases s.zR a z3 (by rw[q];simp)with z|z;.exact absurd z no
      .rw[y]at z;exact(Aj z4 z).elim
   cases I:aP i as c with
   |none=>have hn:=ju la I;rw[I]at f;cases s1 with|aU=>subst f;cases B|val b' d'=>subst f;cases B|own b' es=>exact stay _ rfl hn f|lent es=>exact stay _ rfl hn f|gY m=>exact stay _ rfl hn f|qD m=>exact stay _ rfl hn f|hold _=>subst f;cases B
   |some t2=>rw[I]at f;obtain⟨j,u,y⟩:=gH I;cases s1 with
     |aU=>subst f;cases B|val b' d'=>subst f;cases B|hold _=>subst f;cases B|gY m=>
       have Y:j<args.length:=by rw[M];exact(gW u).1
       rcases l2 j _ _ u (show args[j]?=some args[j]by simp[Y])with⟨_,_,z,_⟩|⟨_,_,z,_⟩|⟨_,z,_⟩<;>(rw[k]at z;cases z)|qD m=>
       have Y:j<args.length:=by rw[M];exact(gW u).1
       rcases l2 j _ _ u (show args[j]?=some args[j]by simp[Y])with⟨_,_,z,_⟩|⟨_,_,z,_⟩|⟨_,z,_⟩<;>(rw[k]at z;cases z)|own b' es=>
       obtain⟨v,s2,G,O,y3,y4,p⟩:=lent k rfl u y;have:t2≠.aU/\∀x,t2≠.lent x:=by
        rcases p with⟨_,_,p⟩|⟨p,_⟩;.subst p;rcases y4 with⟨_,rfl⟩|⟨_,rfl⟩<;>simp
        .cases p
       cases t2 with
       |aU=>exact absurd rfl this.1|hold x=>
         rcases p with⟨_,_,p⟩|⟨p,_⟩;.subst p;rcases y4 with⟨_,h⟩|⟨_,h⟩<;>cases h
         .cases p|gY x=>
         rcases p with⟨_,_,p⟩|⟨p,_⟩;.subst p;rcases y4 with⟨_,h⟩|⟨_,h⟩<;>cases h
         .cases p|qD x=>
         rcases p with⟨_,_,p⟩|⟨p,_⟩;.subst p;rcases y4 with⟨_,h⟩|⟨_,h⟩<;>cases h
         .cases p|lent x=>exact absurd rfl (this.2 x)|val b2 d2=>subst f;cases B|own b2 aE=>subst f;cases B;obtain⟨a,xs,x1,x2⟩:=s.gs.own j _ _ y rfl;rw[O]at x1;cases x1;exact⟨a,xs,G,x2⟩
     |lent es=>
       obtain⟨v,s2,G,O,y3,y4,p⟩:=lent k rfl u y;have ht:t=.lent es:=by rw[f];cases t2<;>rfl
       subst ht;cases B;rcases p with⟨_,p,_⟩|⟨_,p⟩;.cases p
       .subst p;cases(show t2=.lent es from y4);obtain⟨a,xs,x1,x2⟩:=s.gs.own j _ _ y rfl;rw[O]at x1;cases x1;exact⟨a,xs,G,x2⟩
 . by_cases q:F b=none
   . rcases s.zR b q n' with z|z;.exact(L b z).imp id jQ
     . by_cases ho:Own ρ₀ σ b;.exact .inl ho
       .right;cases f:H₀ b with|none=>rfl|some o=>rw[s0.keep b o f ho]at z;exact z
   .exact s0.zR b n q
 . refine s.keep b o (s0.keep b o h n) λz=>?_;rcases L b z with z|z;.exact n z
   .rw[h]at z;cases z
 .obtain⟨E,s2,C,k2⟩:=s0.lk i s1 h l;refine⟨E,_,Tv C,?_⟩;have Vs:=k2.DW l;refine jZ.trans l k2 ?_;cases s2 with
   |aU=>cases Vs|gY _=>cases Vs|qD _=>cases Vs|hold _=>exact jZ.refl _|val b d=>exact jZ.refl _|lent es=>cases aP i as c with|none=>rfl|some t=>cases t<;>rfl
   |own b es=>cases b with|false=>cases Vs|true=>cases aP i as c with|none=>exact .inl ⟨_,rfl⟩|some t=>cases t with|aU=>exact .inl ⟨_,rfl⟩|lent _=>exact .inl ⟨_,rfl⟩|gY _=>exact .inl ⟨_,rfl⟩|qD _=>exact .inl ⟨_,rfl⟩|hold _=>exact .inl ⟨_,rfl⟩|own _ ds=>exact .inl ⟨_,rfl⟩|val _ d=>exact .inr ⟨_,rfl⟩
theorem tV.rebase{m g k l:Hp}{c f:List Sl}(a:bV K F ρ σ H m c σ g)(A:tV K k f σ l c g as vs):tV K k f σ l ρ H as vs:=by refine⟨A.len,λj b v h1 p=>?_,A.dis⟩;have h:=A.one j b v h1 p;cases b with|dat d=>exact h|dR i=>exact h|tmp ds=>
   obtain⟨x,xs,q,r,s,t,u,q6⟩:=h;refine⟨x,xs,q,r,s,t,u,?_⟩;rcases q6 with q6|q6;.exact a.zL x q6
   . by_cases ho:Own ρ σ x;.exact .inl ho
     .right;cases e:H x with|none=>rfl|some o=>rw[a.keep x o e ho]at q6;cases q6
theorem tV.QD{e c f g:Hp}{a b:List Sl}{r:R}(s1:bV K F ρ σ H e a σ c)(j:cF K e a σ c ρ σ H v r)(s2:bV K e a σ c f b σ g)(A:tV K f b σ g a c as vs):tV K f b σ g ρ H (qe r::as) (v::vs):=by
 have h1:u6 K e a σ c ρ H v (qe r):=by cases r with|val d=>exact j|own ds=>exact j
 refine .cons (h1.later s2) (A.rebase s1) λds x o ev k es p l=>?_;cases r with|val d=>cases o|own q=>
   obtain⟨y,xs,m,s,w,B,t,C⟩:=j;rw[ev]at m;cases m;have h:=A.one k _ _ p l;obtain⟨z,E,u,_,_,_,_,w6⟩:=h;cases u;rcases w6 with w6|w6;.exact t w6
   .rw[s]at w6;cases w6
end
section
variable{K:PySem.W.Frag}{F F1 H H1:Hp}{ρ ρ1 ρ2:List Sl}{σ σ1:L2.St}
theorem KR{s:Sl}(h:put ρ i s=some ρ1):∃s0,ρ[i]?=some s0/\DW s0=false/\ρ1=ρ.set i s:=by
 unfold put at h;split at h;.rename_i q;cases h;exact⟨_,q,rfl,rfl⟩
 .rename_i q;cases h;exact⟨_,q,rfl,rfl⟩
 .rename_i q;cases h;exact⟨_,q,rfl,rfl⟩
 .cases h
theorem bV.put{r:R}(s:bV K F ρ σ H F1 ρ1 σ1 H1)(w:cF K F1 ρ1 σ1 H1 ρ σ H v r)(h:HH.put ρ1 i (uV r)=some ρ2):bV K F ρ σ H F1 ρ2 (σ1.set i (some v)) H1:=by
 obtain⟨s0,h0,A,rfl⟩:=KR h;have hi:i<ρ1.length:=(gW h0).1;have m:i<σ1.length:=by rw[<-s.gs.len];exact hi
 have f:∀{j:Nat}{a:Addr},j≠i->bu (ρ1.set i (uV r)) (σ1.set i (some v)) j a->bu ρ1 σ1 j a:=λ{j a}c⟨⟨t,ds,o,p⟩,g⟩=>by rw[fL c]at o g;exact⟨⟨t,ds,o,p⟩,g⟩
 have new:∀{a:Addr},bu (ρ1.set i (uV r)) (σ1.set i (some v)) i a->¬ Own ρ1 σ1 a/\(Own ρ σ a\/H a=none):=λ{a}⟨⟨t,ds,o,p⟩,g⟩=>by rw[getElem?_set_self hi]at o;rw[getElem?_set_self m]at g;cases o;cases g;cases r with|val d=>cases p|own es=>obtain⟨x,xs,G,B,C,E,I,J⟩:=w;cases G;exact⟨I,J⟩
 refine⟨⟨s.gs.sub,by simp[s.gs.len],λj b d e=>?_,λj t ds e y=>?_,λj k a h1 z=>?_⟩,s.cW,s.zR,s.keep,λa⟨j,c⟩=>?_,by simp[s.len],λj t e l=>?_⟩
 . by_cases c:j=i;.subst c;rw[getElem?_set_self hi]at e;cases r with|own es=>cases e|val d'=>cases e;exact⟨v,getElem?_set_self m,w⟩
   .rw[fL c]at e ⊢;exact s.gs.val j b d e
 . by_cases c:j=i;.subst c;rw[getElem?_set_self hi]at e;cases r with|val d'=>cases e;cases y|own es=>cases e;cases y;obtain⟨x,xs,rfl,B,C,E,_⟩:=w;exact⟨x,_,getElem?_set_self m,B,C,xs,rfl,E⟩
   .rw[fL c]at e ⊢;exact s.gs.own j t ds e y
 . by_cases c:j=i
   . by_cases q:k=i;.rw[c,q]
     .subst c;exact absurd ⟨k,f q z⟩ (new h1).1
   . by_cases q:k=i;.subst q;exact absurd ⟨j,f c h1⟩ (new z).1
     .exact s.gs.dis j k a (f c h1) (f q z)
 . by_cases u:j=i;.subst u;exact(new c).2
   .exact s.zL a ⟨j,f u c⟩
 . obtain⟨o,t1,p,g⟩:=s.lk j t e l;have c:j≠i:=by rintro rfl;rw[h0]at p;cases p;rw[g.DW l]at A;cases A
   exact⟨by rw[fL c];exact o,t1,by rw[fL c];exact p,g⟩
theorem GS.mut{x:Nat}{b:Bool}{es:List D}{a:Addr}{ys:List V}(g:GS K F ρ σ H)(e:ρ[x]?=some (.own b ds))(s:σ[x]?=some (some (.ref a)))(r:aF K F ys es):bV K F ρ σ H F (ρ.set x (.own b es)) σ (upd H a (.lst ys)):=by
 have hi:x<ρ.length:=(gW e).1;have y:bu ρ σ x a:=⟨⟨_,_,e,rfl⟩,s⟩;obtain⟨L,xs,h1,M,z,N⟩:=g.qH x _ ds e rfl;rw[s]at h1;cases h1;have h:∀{j:Nat}{c:Addr},bu (ρ.set x (.own b es)) σ j c->bu ρ σ j c:=λ{j c}⟨⟨t,m,p,u⟩,q3⟩=>by
  by_cases f:j=x;.subst f;exact⟨⟨_,_,e,rfl⟩,q3⟩
  .rw[fL f]at p;exact⟨⟨t,m,p,u⟩,q3⟩
 refine⟨⟨λc o q=>?_,by simp[g.len],λj B d q=>?_,λj t m q w=>?_,λj k c p u=>g.dis j k c (h p) (h u)⟩,.refl _,λc n C=>absurd n C,λc o q n=>?_,λc⟨j,q⟩=>.inl ⟨j,h q⟩,by simp,λj t q l=>⟨rfl,?_⟩⟩
 . have:c≠a:=by rintro rfl;rw[z]at q;cases q
   rw[aC this];exact g.sub c o q
 . by_cases f:j=x;.subst f;rw[getElem?_set_self hi]at q;cases q
   .rw[fL f]at q;exact g.val j B d q
 . by_cases f:j=x;.subst f;rw[getElem?_set_self hi]at q;cases q;cases w;exact⟨a,_,s,aR,z,ys,rfl,r⟩
   . rw[fL f]at q;obtain⟨c,E,A,G,I,J⟩:=g.own j t m q w;have:c≠a:=by rintro rfl;exact f (g.dis j x c ⟨⟨t,m,q,w⟩,A⟩ y)
     exact⟨c,E,A,by rw[aC this];exact G,I,J⟩
 . have:c≠a:=by rintro rfl;exact n ⟨x,y⟩
   rw[aC this];exact q
 . by_cases f:j=x;.subst f;rw[e]at q;cases q;refine⟨_,getElem?_set_self hi,?_⟩;cases b with|true=>exact .inl ⟨_,rfl⟩|false=>cases l
   .exact⟨t,by rw[fL f];exact q,.refl t⟩
theorem GS.lend{b:Bool}(g:GS K F ρ σ H)(e:ρ[i]?=some (.own b ds)):GS K F (ρ.set i (.lent ds)) σ H:=by
 have hi:i<ρ.length:=(gW e).1;have f:∀{j:Nat}{c:Addr},bu (ρ.set i (.lent ds)) σ j c->bu ρ σ j c:=λ{j c}⟨⟨t,l,h,m⟩,q3⟩=>by
  by_cases a:j=i;.subst a;exact⟨⟨_,_,e,rfl⟩,q3⟩
  .rw[fL a]at h;exact⟨⟨t,l,h,m⟩,q3⟩
 refine⟨g.sub,by simp[g.len],λj p d q=>?_,λj t l q o=>?_,λj k c h m=>g.dis j k c (f h) (f m)⟩
 . by_cases a:j=i;.subst a;rw[getElem?_set_self hi]at q;cases q
   .rw[fL a]at q;exact g.val j p d q
 . by_cases a:j=i;.subst a;rw[getElem?_set_self hi]at q;cases q;cases o;exact g.own j _ _ e rfl
   .rw[fL a]at q;exact g.own j t l q o
theorem bV.bH{b:Bool}(g:GS K F ρ σ H)(e:ρ[i]?=some (.own b ds))(s:bV K F (ρ.set i (.lent ds)) σ H F1 ρ1 σ1 H1):bV K F ρ σ H F1 (ρ1.set i (.own b ds)) σ1 H1/\∀v r,cF K F1 ρ1 σ1 H1 (ρ.set i (.lent ds)) σ H v r->cF K F1 (ρ1.set i (.own b ds)) σ1 H1 ρ σ H v r:=by
 have hi:i<ρ.length:=(gW e).1;have h1:(ρ.set i (.lent ds))[i]?=some (.lent ds):=getElem?_set_self hi;obtain⟨E,G,A,I⟩:=s.lk i _ h1 rfl;cases(show G=.lent ds from I);have u:i<ρ1.length:=(gW A).1;have B:∀{j:Nat}{c:Addr},bu (ρ.set i (.lent ds)) σ j c->bu ρ σ j c:=λ{j c}⟨⟨t,y,f,p⟩,m⟩=>by
  by_cases a:j=i;.subst a;exact⟨⟨_,_,e,rfl⟩,m⟩
  .rw[fL a]at f;exact⟨⟨t,y,f,p⟩,m⟩
 have J:∀{c:Addr},Own ρ σ c->Own (ρ.set i (.lent ds)) σ c:=λ{c}⟨j,⟨t,y,f,p⟩,m⟩=>by
  by_cases a:j=i;.subst a;exact⟨j,⟨_,_,h1,rfl⟩,m⟩
  .exact⟨j,⟨t,y,by rw[fL a];exact f,p⟩,m⟩
 have z:∀{j:Nat}{c:Addr},bu (ρ1.set i (.own b ds)) σ1 j c->bu ρ1 σ1 j c:=λ{j c}⟨⟨t,y,f,p⟩,m⟩=>by
  by_cases a:j=i;.subst a;exact⟨⟨_,_,A,rfl⟩,m⟩
  .rw[fL a]at f;exact⟨⟨t,y,f,p⟩,m⟩
 have w:∀{c:Addr}{h:Hp},Own (ρ.set i (.lent ds)) σ c\/h c=none->Own ρ σ c\/h c=none:=λ{c h}q=>q.imp (λ⟨j,q⟩=>⟨j,B q⟩) id;have L:∀{c:Addr}{h:Hp},Own (ρ.set i (.lent ds)) σ c\/nt (h c)=none->Own ρ σ c\/nt (h c)=none:=λ{c h}q=>q.imp (λ⟨j,q⟩=>⟨j,B q⟩) id;refine⟨⟨⟨s.gs.sub,by simp[s.gs.len],λj M d q=>?_,λj t y q C=>?_,λj k c f p=>s.gs.dis j k c (z f) (z p)⟩,s.cW,λc n N=>L (s.zR c n N),λc o q n=>s.keep c o q λ⟨j,x⟩=>n ⟨j,B x⟩,λc⟨j,q⟩=>w (s.zL c ⟨j,z q⟩),by simpa using s.len,λj t q l=>?_⟩,λv r h=>?_⟩
 . by_cases a:j=i;.subst a;rw[getElem?_set_self u]at q;cases q
   .rw[fL a]at q;exact s.gs.val j M d q
 . by_cases a:j=i;.subst a;rw[getElem?_set_self u]at q;cases q;cases C;exact s.gs.own j _ _ A rfl
   .rw[fL a]at q;exact s.gs.own j t y q C
 . by_cases a:j=i;.subst a;rw[e]at q;cases q;refine⟨E,_,getElem?_set_self u,?_⟩;cases b with|true=>exact .inl ⟨_,rfl⟩|false=>cases l
   .obtain⟨O,t',Q,U⟩:=s.lk j t (by rw[fL a];exact q) l;exact⟨O,t',by rw[fL a];exact Q,U⟩
 .cases r with|val d=>exact h|own es=>obtain⟨x,xs,f,p,m,W,X,Y⟩:=h;exact⟨x,xs,f,p,m,W,λ⟨j,q⟩=>X ⟨j,z q⟩,w Y⟩
theorem GS.give(g:GS K F ρ σ H)(e:ρ[i]?=some (.own false ds)):∃v,σ[i]?=some (some v)/\bV K F ρ σ H F (ρ.set i .aU) σ H/\cF K F (ρ.set i .aU) σ H ρ σ H v (.own ds):=by
 have hi:i<ρ.length:=(gW e).1;obtain⟨a,xs,h1,s,u,w⟩:=g.qH i _ ds e rfl;have f:∀{j:Nat}{c:Addr},bu (ρ.set i .aU) σ j c->bu ρ σ j c/\j≠i:=λ{j c}⟨⟨t,o,h,m⟩,q3⟩=>by
  by_cases b:j=i;.subst b;rw[getElem?_set_self hi]at h;cases h;cases m
  .rw[fL b]at h;exact⟨⟨⟨t,o,h,m⟩,q3⟩,b⟩
 have p:bu ρ σ i a:=⟨⟨_,_,e,rfl⟩,h1⟩;refine⟨.ref a,h1,⟨⟨g.sub,by simp[g.len],λj y d q=>?_,λj t o q r=>?_,λj k c h m=>g.dis j k c (f h).1 (f m).1⟩,.refl _,λc n z=>absurd n z,λ_ _ q _=>q,λc⟨j,q⟩=>.inl ⟨j,(f q).1⟩,by simp,λj t q l=>⟨rfl,?_⟩⟩,a,xs,rfl,s,u,w,λ⟨j,q⟩=>?_,.inl ⟨i,p⟩⟩
 . by_cases b:j=i;.subst b;rw[getElem?_set_self hi]at q;cases q
   .rw[fL b]at q;exact g.val j y d q
 . by_cases b:j=i;.subst b;rw[getElem?_set_self hi]at q;cases q;cases r
   .rw[fL b]at q;exact g.own j t o q r
 . by_cases b:j=i;.subst b;rw[e]at q;cases q;cases l
   .exact⟨t,by rw[fL b];exact q,.refl t⟩
 .exact(f q).2 (g.dis j i a (f q).1 p)
theorem GS.more{τ:List (Option V)}(g:GS K F ρ σ H)(w:τ.length=n):GS K F (ρ++replicate n .aU) (σ++τ) H:=by
 have get:∀{j:Nat}{t:Sl},(ρ++replicate n Sl.aU)[j]?=some t->t≠.aU->ρ[j]?=some t/\j<ρ.length:=λ{j t}q ne=>by
  by_cases h:j<ρ.length;.rw[getElem?_append_left h]at q;exact⟨q,h⟩
  . rw[List.getElem?_append_right (by omega),List.getElem?_replicate]at q;split at q;.cases q;exact absurd rfl ne
    .cases q
 have m:∀{j:Nat}{v:Option V},j<ρ.length->(σ[j]?=some v↔(σ++τ)[j]?=some v):=λ{j v}h=>by rw[getElem?_append_left (by rw[<-g.len];exact h)]
 have e:∀{j:Nat}{c:Addr},bu (ρ++replicate n .aU) (σ++τ) j c->bu ρ σ j c:=λ{j c}⟨⟨t,o,p,l⟩,q3⟩=>by obtain⟨h1,f⟩:=get p (by rintro rfl;cases l);exact⟨⟨t,o,h1,l⟩,(m f).mpr q3⟩
 refine⟨g.sub,by simp[g.len,w],λj b d q=>?_,λj t o q u=>?_,λj k c p l=>g.dis j k c (e p) (e l)⟩;.obtain⟨h1,f⟩:=get q (by simp);obtain⟨v,r,s⟩:=g.val j b d h1;exact⟨v,(m f).mp r,s⟩
 .obtain⟨h1,f⟩:=get q (by rintro rfl;cases u);obtain⟨a,xs,r,s⟩:=g.own j t o h1 u;exact⟨a,xs,(m f).mp r,s⟩
theorem bV.less{τ:List (Option V)}{m:Nat}(M:m=ρ.length)(g:GS K F ρ σ H)(hn:τ.length=n)(s:bV K F (ρ++replicate n .aU) (σ++τ) H F1 ρ1 σ1 H1):bV K F ρ σ H F1 (ρ1.take m) (σ1.take m) H1/\∀v r,cF K F1 ρ1 σ1 H1 (ρ++replicate n .aU) (σ++τ) H v r->cF K F1 (ρ1.take m) (σ1.take m) H1 ρ σ H v r:=by
 subst M;have N:ρ.length<=ρ1.length:=by rw[s.len];simp
 have l2:ρ.length<=σ1.length:=by rw[<-s.gs.len];exact N
 have A:∀{y:Type}{l:List y}{j:Nat}{x:y},(l.take ρ.length)[j]?=some x->l[j]?=some x/\j<ρ.length:=λ{y l j x}q=>by
  rw[getElem?_take]at q;split at q;.exact⟨q,by assumption⟩
  .cases q
 have C:∀{y:Type}{l:List y}{j:Nat}{x:y},j<ρ.length->l[j]?=some x->(l.take ρ.length)[j]?=some x:=λ{y l j x}f q=>by rw[getElem?_take,if_pos f];exact q
 have E:∀{c:Addr},Own (ρ++replicate n .aU) (σ++τ) c->Own ρ σ c:=λ{c}⟨j,⟨t,z,e,p⟩,u⟩=>by
  by_cases f:j<ρ.length;.rw[getElem?_append_left f]at e;rw[getElem?_append_left (by rw[<-g.len];exact f)]at u;exact⟨j,⟨t,z,e,p⟩,u⟩
  . rw[List.getElem?_append_right (by omega),List.getElem?_replicate]at e;split at e;.cases e;cases p
    .cases e
 have O:∀{c:Addr},Own ρ σ c->Own (ρ++replicate n .aU) (σ++τ) c:=λ{c}⟨j,⟨t,z,e,p⟩,u⟩=>by have f:j<ρ.length:=(gW e).1;exact⟨j,⟨t,z,by rw[getElem?_append_left f];exact e,p⟩,by rw[getElem?_append_left (by rw[<-g.len];exact f)];exact u⟩
 have B:∀{j:Nat}{c:Addr},bu (ρ1.take ρ.length) (σ1.take ρ.length) j c->bu ρ1 σ1 j c:=λ{j c}⟨⟨t,z,e,p⟩,u⟩=>⟨⟨t,z,(A e).1,p⟩,(A u).1⟩;have w:∀{c:Addr}{h:Hp},Own (ρ++replicate n .aU) (σ++τ) c\/h c=none->Own ρ σ c\/h c=none:=λ{c h}q=>q.imp E id;have Q:∀{c:Addr}{h:Hp},Own (ρ++replicate n .aU) (σ++τ) c\/nt (h c)=none->Own ρ σ c\/nt (h c)=none:=λ{c h}q=>q.imp E id;refine⟨⟨⟨s.gs.sub,by simp only[length_take];omega,λj b d q=>?_,λj t z q U=>?_,λj k c e p=>s.gs.dis j k c (B e) (B p)⟩,s.cW,λc a b=>Q (s.zR c a b),λc o q n=>s.keep c o q λx=>n (E x),λc⟨j,q⟩=>w (s.zL c ⟨j,B q⟩),by simp only[length_take];omega,λj t q l=>?_⟩,λv r h=>?_⟩;.obtain⟨h1,G⟩:=A q;obtain⟨v,I,J⟩:=s.gs.val j b d h1;exact⟨v,C G I,J⟩
 .obtain⟨h1,G⟩:=A q;obtain⟨a,xs,I,J⟩:=s.gs.own j t z h1 U;exact⟨a,xs,C G I,J⟩
 .have f:j<ρ.length:=(gW q).1;obtain⟨L,t',W,X⟩:=s.lk j t (by rw[getElem?_append_left f];exact q) l;rw[getElem?_append_left (by rw[<-g.len];exact f)]at L;refine⟨?_,t',C f W,X⟩;rw[getElem?_take,if_pos f];exact L
 .cases r with|val d=>exact h|own es=>obtain⟨x,xs,e,p,u,Y,Z,q6⟩:=h;exact⟨x,xs,e,p,u,Y,λ⟨j,q⟩=>Z ⟨j,B q⟩,w q6⟩
end
section
variable{X:Cx}{c:Call}{n:Nat}{e a b d:Expr}{p pa pb pd:P}{pos:Pos}{es:List Expr}{ps:List P}
inductive Xn(K:PySem.W.Frag)(f:List Sl->Res (List Arg))(σ:L2.St)(H:Hp)(Q:List V->Hp->Prop):Prop where|mk(F:Hp)(ρ:List Sl)(as:List Arg)(ρ':List Sl)(g:GS K F ρ σ H)(e:f ρ=.ok as ρ')(k:∀vs F' H',bV K F ρ σ H F' ρ' σ H'->tV K F' ρ' σ H' ρ H as vs->Q vs H')
def SG(X:Cx)(c:Call)(es:List Expr)(ps:List P):Prop:=PA X es (Xn X.K (vf c ps))
theorem aO:SG X c [] []:=tK iD λσ H Q⟨F,ρ,as,ρ',g,e,k⟩=>by rw[De]at e;cases e;exact k [] F H (.refl g) .nil
theorem Et(o:SX X c a pa)(hr:SG X c es ps)(hs:starEach (a::es) X.env=(false,eval a X.env)::starEach es X.env:=by rfl):SG X c (a::es) (pa::ps):=by cases hv:isVar pa with|none=>refine tK (dq o.ev hr hs) ?_;rintro σ H Q⟨F,ρ,as,ρ',g,e,k⟩;rw[vD,hv]at e;obtain⟨r,f,q,e⟩:=ao e;obtain⟨xs,h,j,e⟩:=ao e;cases e;refine⟨F,ρ,r,f,g,q,λv s C s1 t=>⟨s,f,xs,_,s1.gs,j,λvs l m s2 A=>k _ l m (s1.trans s2) (tV.QD s1 t s2 A)⟩⟩|some i=>refine tK (dq (o.var i hv) hr hs) ?_;rintro σ H Q⟨F,ρ,as,ρ',g,e,k⟩;rw[vD,hv]at e;obtain⟨x0,u,w,e⟩:=ao e;obtain⟨y,B⟩:=aJ w;subst B;obtain⟨xs,h,j,e⟩:=ao e;cases e;obtain⟨v,h1,_⟩:=g.pk y;exact⟨v,h1,F,ρ,xs,_,g,j,λvs l m s2 A=>k _ l m s2 (.cons h1 A λds x z=>by cases z)⟩
theorem Ep{k f:Nat}{t:Addr}{fd:FuncData}{j:List Str}(J:lz X.prog X.w X.K X.mg X.base Af k t fd j (GR X.K j.length (c f)))(hr:iI k X.A)(L:Gl X x)(M:X.mg x=some (.ref t))(N:keepIn X.K (.ref t)=true)(O:Binds X.K fd j [])(U:SG X c (e::es) ps)(W:(e::es).length=j.length)(u:(x==("__debug__":Str))=false:=by decide)(he:starEach (e::es) X.env=(false,eval e X.env)::starEach es X.env:=by rfl)(hpl:(backTo pos (starEach es X.env)).any (·.1)=false:=by rfl)(y:ps.length=(e::es).length:=by rfl):SX X c (.Call (.Name x p') (e::es) [] pos) (.call f ps):=by
 refine⟨gh (Hc (E:=E0) J hr L M N O .nil QM U u he hpl) ?_,λi h=>by cases h⟩;rintro σ H Q⟨F,ρ,r,ρ',g,e,k⟩;rw[HH.E15]at e;obtain⟨as,z,G,e⟩:=ao e;unfold m7 at e;split at e;.cases e
 . rename_i args m;split at e
   . rename_i r' l hc;cases e;refine⟨F,ρ,as,z,g,G,λvs Y Z s1 A=>?_⟩;have o:vs.length=j.length:=by
      have:∀{ps:List P}{ρ ρ':List Sl}{as:List Arg},vf c ps ρ=.ok as ρ'->as.length=ps.length:=by intro ps;induction ps with|nil=>intro ρ ρ' as h;rw[De]at h;cases h;rfl|cons q j I=>
         intro ρ ρ' as h;rw[vD]at h;split at h;.obtain⟨_,_,_,h⟩:=ao h;obtain⟨xs,B,C,h⟩:=ao h;cases h;simp[I C]
         .obtain⟨_,_,_,h⟩:=ao h;obtain⟨xs,B,C,h⟩:=ao h;cases h;simp[I C]
      rw[<-A.len,this G,y,W]
     show GR X.K j.length (c f) (vs++[]) Z Q E0;rw[append_nil];refine⟨o,Y,args,r,l,args_gs s1.gs A m,hc,λv F' ae H' s rr=>?_⟩;obtain⟨z1,z2⟩:=Ck s1 A m s;exact k v F' H' z1 (z2 v r rr)
   .cases e
   .cases e
def Q4(K:PySem.W.Frag)(D:Ends)(h:Hp)(ρ':List Sl)(f:L2.St)(g:Hp)(ρ:List Sl)(σ:L2.St)(H:Hp)(j:Fl):Prop:=match j with|.next=>D.nx f g|.brk=>D.bk f g|.cont=>D.ct f g|.ret r=>∀v,cF K h ρ' f g ρ σ H v r->D.rt v g
inductive UL(K:PySem.W.Frag)(f:List Sl->Res Fl)(D:Ends)(σ:L2.St)(H:Hp):Prop where|mk(F:Hp)(ρ:List Sl)(fl:Fl)(ρ':List Sl)(g:GS K F ρ σ H)(e:f ρ=.ok fl ρ')(k:∀F' σ' H',bV K F ρ σ H F' ρ' σ' H'->Q4 K D F' ρ' σ' H' ρ σ H fl)
def SS(X:Cx)(c:Call)(n:Nat)(st:Stmt)(s:S):Prop:=PS X st (UL X.K (ex c n s))
def SB(X:Cx)(c:Call)(n:Nat)(st:List Stmt)(s:List S):Prop:=yc X st (UL X.K (je c n s))
theorem ik{st:Stmt}{t t':TS}(h:PS X st t)(i:∀D σ H,t' D σ H->t D σ H):PS X st t':=λf s σ H D I q=>h f s σ H D I (i D σ H q)
theorem CT{st:List Stmt}{t t':TS}(h:yc X st t)(i:∀D σ H,t' D σ H->t D σ H):yc X st t':=λf s σ H D I q=>h f s σ H D I (i D σ H q)
theorem xs0{c:Call}:je c n [] ρ=.ok .next ρ:=rfl
theorem xs1{c:Call}{s:S}{r:List S}:je c n (s::r) ρ=(ex c n s ρ).bind λfl ρ=>match fl with|.next=>je c n r ρ|fl=>.ok fl ρ:=rfl
theorem au:SB X c n [] []:=CT Gs λD σ H⟨F,ρ,fl,ρ',g,e,k⟩=>by rw[xs0]at e;cases e;exact k F σ H (.refl g)
theorem bJ{st:Stmt}{s:S}{f:List Stmt}{ss:List S}(h1:SS X c n st s)(o:SB X c n f ss):SB X c n (st::f) (s::ss):=by refine CT (Di h1 o) ?_;rintro D σ H⟨F,ρ,m,ρ',g,e,k⟩;rw[xs1]at e;obtain⟨f1,h,j,e⟩:=ao e;cases f1 with
 |next=>refine⟨F,ρ,.next,h,g,j,λt u A s1=>⟨t,h,m,ρ',s1.gs,e,λw l y s2=>?_⟩⟩;have q:=k w l y (s1.trans s2);cases m with|next=>exact q|brk=>exact q|cont=>exact q|ret r=>exact λv z=>q v (z.later s1)
 |brk=>cases e;exact⟨F,ρ,.brk,_,g,j,k⟩|cont=>cases e;exact⟨F,ρ,.cont,_,g,j,k⟩|ret r=>cases e;exact⟨F,ρ,.ret r,_,g,j,k⟩
theorem Bf{t1 g:TE}(h1:PE X e t1)(j:PE X e g):PE X e (λσ H Q=>t1 σ H Q\/g σ H Q):=λf s σ H Q I h=>h.elim (h1 f s σ H Q I) (j f s σ H Q I)
theorem Ko(he:SX X c e p):SS X c n (.Return (some e) pos) (.ret p):=by
 have plain:∀(D:Ends)(σ:L2.St)(H:Hp),(∃F ρ h ρ',GS X.K F ρ σ H/\((HH.ev c p ρ).bind λr ρ=>.ok (Fl.ret r) ρ)=.ok h ρ'/\∀l f j,bV X.K F ρ σ H l ρ' f j->(match h with|.next=>D.nx f j|.brk=>D.bk f j|.cont=>D.ct f j|.ret r=>∀v,cF X.K l ρ' f j ρ σ H v r->D.rt v j))->zB X.K (HH.ev c p) σ H D.rt:=λD σ H⟨F,ρ,h,ρ',g,e,k⟩=>by obtain⟨r,m,o,e⟩:=ao e;cases e;exact⟨F,ρ,r,_,g,o,λv s t s1 u=>k s σ t s1 v u⟩
 cases hv:isVar p with|none=>refine ik (Df he.ev) λD σ H⟨F,ρ,h,ρ',g,e,k⟩=>plain D σ H ⟨F,ρ,h,ρ',g,?_,k⟩;rw[HH.Vk,hv]at e;exact e|some i=>--by the name itself:its own list is handed back,else its data
   have w:p=.var i:=by cases p<;>cases hv;rfl
   subst w;refine ik (Df (Bf (he.var i hv) he.ev)) ?_;rintro D σ H⟨F,ρ,h,ρ',g,e,k⟩;rw[HH.Vk,hv]at e;dsimp only at e;split at e;.rename_i ds q;cases e;obtain⟨v,h1,y,z⟩:=g.give q;exact .inl ⟨v,h1,k F σ H y v z⟩
   .exact .inr (plain D σ H ⟨F,ρ,h,ρ',g,e,k⟩)
theorem cZ{sa sb:List Stmt}{o s:List S}(hc:ST X c e p)(t:SB X c n sa o)(u:SB X c n sb s):SS X c n (.If e sa sb pos) (.ifs p o s):=by refine ik (QR hc t u) ?_;rintro D σ H⟨F,ρ,l,ρ',g,e,k⟩;rw[HH.Wi]at e;obtain⟨x,j,w,e⟩:=ao e;refine⟨F,ρ,x,j,g,w,λy z s1=>?_⟩;have go:∀{f:List Sl->Res Fl},f j=.ok l ρ'->UL X.K f D σ z:=λ{f}h=>⟨y,j,l,ρ',s1.gs,h,λA m B s2=>by have q:=k A m B (s1.trans s2);cases l with|next=>exact q|brk=>exact q|cont=>exact q|ret r=>exact λv C=>q v (C.later s1)⟩;cases x with|true=>rw[if_pos rfl]at e;exact go e|false=>rw[if_neg Bool.false_ne_true]at e;exact go e
theorem oR{f:Pos}(l:X.N.Nodup)(hi:X.N[i]?=some x)(m:Loc X.env.scope x)(he:SX X c e p)(hs:swapsWith e (some (.Name x f)) pos.line X.env=pure false:=by rfl)(o:X.fn x=true\/X.env.scope.names.lookup x=some .local:=by first|exact .inl rfl|exact .inr rfl|assumption):SS X c n (.Assign [.Name x f] e pos) (.asg i p):=by refine ik (Av l hi m he.ev hs o) ?_;rintro D σ H⟨F,ρ,A,ρ',g,e,k⟩;rw[HH.X6]at e;obtain⟨r,j,q,e⟩:=ao e;obtain⟨s,t,h,e⟩:=ao e;cases e;have u:=aJ h;clear h;obtain⟨h,B⟩:=u;exact⟨F,ρ,r,j,g,q,λv w y s1 z=>k w _ y (s1.put z h)⟩
end
end HH
end
section
namespace L2
open PySem PySem.Spec PyProof.Rows
variable{env:Env}{scope:Scope}
noncomputable def sV(X:Cx)(scope:Scope)(N':List Str)(cl:List (Str×Addr))(C:Addr)(s₀:Shared)(H₀:Hp)(ex:List Addr):Cx:={X with N:=N',s₀:=s₀,H₀:=H₀,env:=compEnvC scope cl C X.env,outer:=X.stack,stack:=X.stack,ex:=ex,fn:=λx=>scope.names.lookup x==some .cell,pn:=[],xe:=λ_ _=>False}
theorem vN(l:List (Str×NameKind)):∀(b:List (Str×Addr)),(∀n,(n,NameKind.free)∈l->∃c,env.cells.lookup n=some c)->(∀n c,b.lookup n=some c->env.cells.lookup n=some c)->∃ cl,(forIn l b (λ(x:Str × NameKind)(r:List (Str × Addr))=>(if(x.2==NameKind.free)=true then(do let a<-cellOf env x.1;pure (ForInStep.yield ((x.1,a)::r)))else pure (ForInStep.yield r):Sem (ForInStep (List (Str × Addr))))):Sem (List (Str × Addr)))=pure cl/\(∀n c,cl.lookup n=some c->env.cells.lookup n=some c)/\(∀n,((n,NameKind.free)∈l\/(b.lookup n).isSome)->(cl.lookup n).isSome):=by induction l with|nil=>intro b _ h;exact⟨b,rfl,h,λn hn=>by rcases hn with hn|hn;cases hn;exact hn⟩|cons y l j=>
   obtain⟨n,k⟩:=y;intro b f hc;rw[forIn_cons];by_cases g:k=.free
   . subst g;obtain⟨a,o⟩:=f n mem_cons_self;obtain⟨cl,e,h1,i⟩:=j ((n,a)::b) (λm hm=>f m (mem_cons_of_mem _ hm)) λm c hm=>by
      rw[lookup_cons]at hm;split at hm;.rename_i q;have q:=eq_of_beq q;subst q;cases hm;exact o
      .exact hc m c hm
     refine⟨cl,?_,h1,λm hm=>i m ?_⟩
     . rw[<-e];have:cellOf env n=pure a:=by unfold cellOf;rw[o]
       simp only[beq_self_eq_true,if_true,this];rfl
     . rcases hm with hm|hm
       . rcases mem_cons.mp hm with hm|hm;.cases hm;right;simp[lookup_cons]
         .exact .inl hm
       . right;rw[lookup_cons];split;.rfl
         .exact hm
   . obtain⟨cl,e,h1,i⟩:=j b (λm hm=>f m (mem_cons_of_mem _ hm)) hc;refine⟨cl,?_,h1,λm hm=>i m ?_⟩
     . rw[<-e];have:(k==NameKind.free)=false:=by simpa using g
       simp only[this,false_eq_true,if_false];rfl
     . rcases hm with hm|hm
       . rcases mem_cons.mp hm with hm|hm;.cases hm;exact absurd rfl g
         .exact .inl hm
       .exact .inr hm
theorem vq(a:∀n,(n,NameKind.free)∈scope.names->∃c,env.cells.lookup n=some c):∃cl,closureFor scope env=pure cl/\(∀n c,cl.lookup n=some c->env.cells.lookup n=some c)/\∀n,(n,NameKind.free)∈scope.names->(cl.lookup n).isSome:=by obtain⟨cl,e,h1,b⟩:=vN (env:=env) scope.names [] a (by simp);refine⟨cl,?_,h1,λn f=>b n (.inl f)⟩;unfold closureFor;exact(congrArg (λt=>t>>=λr=>pure r) e).trans rfl
theorem dF{env:Env}:∀(names:List (Str×NameKind))(x:Str),(names.map λ(n,k)=>if(k==NameKind.free&&env.scope.kind==.function&&env.kindOf n==some .cell)then(n,NameKind.cell)else(n,k)).lookup x=(names.lookup x).map λk=>if(k==NameKind.free&&env.scope.kind==.function&&env.kindOf x==some .cell)=true then NameKind.cell else k
 |[],x=>rfl|(n,k)::r,x=>by
   have a:=dF (env:=env) r x;show List.lookup x ((if(k==NameKind.free&&env.scope.kind==.function&&env.kindOf n==some .cell)=true then(n,NameKind.cell)else(n,k))::_)=_;by_cases hc:(k==NameKind.free&&env.scope.kind==.function&&env.kindOf n==some .cell)=true;.rw[if_pos hc,lookup_cons,lookup_cons];cases hx:x==n with|true=>have:=eq_of_beq hx;subst this;show some NameKind.cell=some (if _ then _ else _);rw[if_pos hc]|false=>exact a
   .rw[if_neg hc,lookup_cons,lookup_cons];cases hx:x==n with|true=>have:=eq_of_beq hx;subst this;show some k=some (if _ then _ else _);rw[if_neg hc]|false=>exact a
noncomputable def Qy(N N':List Str)(a:Scope):Bool:=(N.zip N').all λp=>(p.1==p.2&&a.names.lookup p.2==some .free)||(a.names.lookup p.2!=some .local&&a.names.lookup p.2!=some .cell&&a.names.lookup p.2!=some .free)
structure fu(X:Cx)(scope:Scope)(N':List Str)(n:Nat):Prop where
 kind:scope.kind=.function
 cons:∀y∈scope.names,scope.names.lookup y.1=some y.2
 names:∀y∈scope.names,y.2=.local->scope.names.lookup y.1=some .local
 cap:∀y∈scope.names,y.2=.free->X.env.scope.names.lookup y.1=some .cell\/X.env.scope.names.lookup y.1=some .free
 len:N'.length=X.N.length+n
 same:Qy X.N N' scope=true
theorem fu.get{X:Cx}{N':List Str}{n:Nat}(c:fu X scope N' n){i:Nat}{x:Str}(hi:i<X.N.length)(h:N'[i]?=some x)(a:Be (relabel scope X.env) x):X.N[i]?=some x/\scope.names.lookup x=some .free:=by
 have g:(X.N.zip N')[i]?=some (X.N[i],x):=by rw[List.getElem?_zip_eq_some];exact⟨by simp[hi],h⟩
 have:=(all_eq_true.mp c.same) _ (mem_of_getElem? g);simp only[or_eq_true,and_eq_true]at this;rcases this with⟨h1,b⟩|⟨⟨h1,b⟩,f⟩;.have h1:=eq_of_beq h1;have b:=eq_of_beq b;exact⟨by simp[hi,h1],b⟩
 . exfalso;have h1:scope.names.lookup x≠some .local:=by simpa using h1
   have b:scope.names.lookup x≠some .cell:=by simpa using b
   have f:scope.names.lookup x≠some .free:=by simpa using f
   have e:=dF (env:=X.env) scope.names x;have a:(relabel scope X.env).names.lookup x=some .local\/(relabel scope X.env).names.lookup x=some .cell\/(relabel scope X.env).names.lookup x=some .free:=a;rw[show(relabel scope X.env).names.lookup x=_ from e]at a;cases q:scope.names.lookup x with|none=>rw[q]at a;simp at a|some k=>
     rw[q]at a h1 b f;have j:(k==NameKind.free)=false:=by cases k<;>first|rfl|exact absurd rfl f
     simp only[Option.map_some,j,Bool.false_and,false_eq_true,if_false,Option.some.injEq]at a;rcases a with rfl|rfl|rfl;.exact h1 rfl
     .exact b rfl
     .exact f rfl
structure CI(cl:List (Str×Addr))(z:Nat)(h:Heap)(acc:List (Str×Addr)):Prop where from':∀n c,acc.lookup n=some c->cl.lookup n=some c\/(z<=c/\h.IsCell c none)inj:∀n n' c,acc.lookup n=some c->acc.lookup n'=some c->n=n'
theorem Bl{cl:List (Str×Addr)}{z:Nat}(g:∀n c,cl.lookup n=some c->c<z):∀(names:List (Str×NameKind))(h:Heap)(acc:List (Str×Addr)),z<=h.objs.size->CI cl z h acc->CI cl z (pushCells h names) (cellsFrom h.objs.size names acc)/\(∀n,(acc.lookup n).isSome->((cellsFrom h.objs.size names acc).lookup n).isSome)/\(∀n,((∃c,acc.lookup n=some c/\z<=c)\/(n,NameKind.cell)∈names)->∃c,(cellsFrom h.objs.size names acc).lookup n=some c/\z<=c)/\(∀n c,(n,NameKind.cell)∉names->(cellsFrom h.objs.size names acc).lookup n=some c->acc.lookup n=some c)
 |[],h,acc,i,x=>by
   refine⟨x,λ_ q=>q,λn q=>?_,λ_ _ _ q=>q⟩;rcases q with q|q;.exact q
   .cases q|(name,kind)::r,h,acc,i,x=>by
   unfold pushCells cellsFrom;by_cases l:kind=.cell
   . subst l;rw[if_pos (by rfl),if_pos (by rfl)];have p:CI cl z (h.push {cls:=.type "cell",data:=.cell none}) ((name,h.objs.size)::acc):=by
      have lt:∀n c,acc.lookup n=some c->c<h.objs.size:=λn c e=>by
       rcases x.from' n c e with q|q;.exact lt_of_lt_of_le (g n c q) i
       .exact q.2.lt
      refine⟨λn c e=>?_,λn m c e j=>?_⟩
      . rw[lookup_cons]at e;split at e;.cases e;exact .inr ⟨i,_,get?_push_size _ rfl,rfl⟩
        . rcases x.from' n c e with q|q;.exact .inl q
          .exact .inr ⟨q.1,q.2.keeps λb o e=>iG e⟩
      . rw[lookup_cons]at e j;split at e<;>split at j;.rename_i _ a _ b;rw[eq_of_beq a,eq_of_beq b]
        .cases e;exact absurd (lt m _ j) (lt_irrefl _)
        .cases j;exact absurd (lt n _ e) (lt_irrefl _)
        .exact x.inj n m c e j
     have f:=Bl g r (h.push {cls:=.type "cell",data:=.cell none}) ((name,h.objs.size)::acc) (by rw[size_push];omega) p;rw[size_push]at f;refine⟨f.1,λn q=>f.2.1 n ?_,λn q=>f.2.2.1 n ?_,λn c q e=>?_⟩
     . rw[lookup_cons];split;.rfl
       .exact q
     . rcases q with⟨c,e,hc⟩|q
       . left;rw[lookup_cons];split;.exact⟨_,rfl,i⟩
         .exact⟨c,e,hc⟩
       . rcases mem_cons.mp q with q|q;.cases q;left;exact⟨_,by simp[lookup_cons],i⟩
         .exact .inr q
     . have:=f.2.2.2 n c (λz=>q (mem_cons_of_mem _ z)) e;rw[lookup_cons]at this;split at this;.rename_i a;exact absurd (by rw[eq_of_beq a];exact mem_cons_self) q
       .exact this
   . have k:(kind==NameKind.cell)=false:=by simpa using l
     rw[if_neg (by rw[k];decide),if_neg (by rw[k];decide)];have f:=Bl g r h acc i x;refine⟨f.1,f.2.1,λn q=>f.2.2.1 n ?_,λn c q e=>f.2.2.2 n c (λz=>q (mem_cons_of_mem _ z)) e⟩;rcases q with q|q;.exact .inl q
     . rcases mem_cons.mp q with q|q;.cases q;exact absurd rfl l
       .exact .inr q
structure Ay(X:Cx)(scope:Scope)(z:Nat)(h:Heap)(cs:List (Str×Addr)):Prop where
 from':∀n c,cs.lookup n=some c->X.env.cells.lookup n=some c\/(z<c/\h.IsCell c none)inj:∀n n' c,cs.lookup n=some c->cs.lookup n'=some c->n=n'
 has:∀n,(scope.names.lookup n=some .free\/scope.names.lookup n=some .cell)->∃c,cs.lookup n=some c
 fre:∀n c,scope.names.lookup n=some .free->cs.lookup n=some c->X.env.cells.lookup n=some c
 own:∀n c,scope.names.lookup n=some .cell->cs.lookup n=some c->z<c
theorem zj{M:Model}{A:Around}{E:Value->Shared->Prop}{X:Cx}{s:Shared}{N':List Str}{n:Nat}{cl:List (Str×Addr)}{Q:Env->Shared->Prop}(ok:fu X scope N' n)(h:∀n c,X.env.cells.lookup n=some c->c<s.heap.objs.size)(f:∀x y c,X.env.cells.lookup x=some c->X.env.cells.lookup y=some c->x=y)(a:∀n c,cl.lookup n=some c->X.env.cells.lookup n=some c)(m:∀n,(n,NameKind.free)∈scope.names->(cl.lookup n).isSome)(p:∀ k h',h'.Ns s.heap.objs.size (λ_=>none)->(∀ b o,s.heap.get? b=some o->h'.get? b=some o)->Ay X scope s.heap.objs.size h' k->Q {scope:=scope,locals:=s.heap.objs.size,globals:=X.env.globals,cells:=k,qual:=X.env.qual,func:=none,code:=X.env.code,frame:=X.env.frame,builtins:=X.env.builtins} {s with heap:=h'}):wpAny M A (newFunctionEnv scope X.env.globals cl [] X.env.qual none .none (some X.env)) Q E s:=by
 simp only[newFunctionEnv,Option.isSome_some,if_true];refine wpAny_bind (wpAny_alloc ?_);refine wpAny_bind (wpAny_layCells _ (λname kind cells=>by cases i:kind==NameKind.cell<;>simp[i]) _ _ _ _ ?_);have r:=Bl (cl:=cl) (z:=s.heap.objs.size+1) (λn c e=>Nat.lt_succ_of_lt (h n c (a n c e))) scope.names (s.heap.push {cls:=.type "dict",data:=.dict #[]}) cl (by rw[size_push];exact cH) ⟨λn c e=>.inl e,λn l c e g=>f n l c (a n c e) (a l c g)⟩;obtain⟨c1,c2,c3,c4⟩:=r;rw[show({s with heap:=s.heap.push {cls:=.type "dict",data:=.dict #[]}}:Shared).heap.objs.size=(s.heap.push {cls:=.type "dict",data:=.dict #[]}).objs.size from rfl];refine wpAny_bind ?_;rw[forIn_nil];refine wpAny_pure (wpAny_pure (p _ _ ((Heap.Ns.new s.heap (.type "dict")).keeps (pushCells_keeps _ _)) (λb o e=>pushCells_keeps _ _ b o (iG e)) ⟨λn c e=>?_,c1.inj,λn q=>?_,λn c q e=>?_,λn c q e=>?_⟩))
 . rcases c1.from' n c e with z|z;.exact .inl (a n c z)
   .exact .inr ⟨z.1,z.2⟩
 . rcases q with q|q;.exact Option.isSome_iff_exists.mp (c2 n (m n (PySem.mem_of_lookup q)))
   .obtain⟨c,e,_⟩:=c3 n (.inr (PySem.mem_of_lookup q));exact⟨c,e⟩
 .refine a n c (c4 n c (λz=>?_) e);have:=ok.cons _ z;rw[q]at this;cases this
 .obtain⟨t,g,j⟩:=c3 n (.inr (PySem.mem_of_lookup q));rw[e]at g;cases g;exact j
section
variable{X:Cx}{pins:List (Addr×Obj)}{σ:L2.St}{H:Hp}{s:Shared}{scope:Scope}{N':List Str}{n:Nat}{fp:List Addr}{cl:List (Str×Addr)}
theorem zU{h1:Heap}{m:Str->Option Value}{t:Nat}{Q:List (Str×Addr)}(ok:fu X scope N' n)(I:Inv X pins σ H s)(G:∀b∈fp,lA X pins H b/\b<s.heap.objs.size)(w:Ay X scope s.heap.objs.size h1 Q)(U:h1.Ns s.heap.objs.size m)(j:∀b u,s.heap.get? b=some u->h1.get? b=some u):Inv (sV X scope N' Q s.heap.objs.size s H fp) [] (σ++replicate n none) H {s with heap:=h1,toks:=t}:=by
 have W:∀x,scope.names.lookup x=some .free->(relabel scope X.env).names.lookup x=some .cell\/(relabel scope X.env).names.lookup x=some .free:=λx h=>by
  have e:=dF (env:=X.env) scope.names x;rw[h]at e;have J:(relabel scope X.env).names.lookup x=_:=e;rw[J];simp only[Option.map_some];split;.exact .inl rfl
  .exact .inr rfl
 refine⟨⟨I.ok.mod,ok.kind,I.ok.glob,I.ok.blt,cH,λx y c h1 Y=>w.inj x y c h1 Y,λx z=>?_,λx c h e=>le_of_lt (w.own x c (eq_of_beq (show(scope.names.lookup x==some NameKind.cell)=true from h)) e),I.ok.hd,I.ok.frames,.inl rfl,λb B=>?_,I.bs,le_trans I.ok.Jj I.sz,λb u e B=>?_,λb B L=>?_,I.stack,I.yh⟩,rfl,I.bare,Un.kept j,⟨m,U,λi x v Z C hv=>?_⟩,λx c e=>?_,I.hok.fresh (cH),λx c e=>?_,λp hp=>(by cases hp),I.hok.kept j,?_⟩;.--a Tz name has its cell
   have z:(relabel scope X.env).names.lookup x=some .cell\/(relabel scope X.env).names.lookup x=some .free:=z;have e:=dF (env:=X.env) scope.names x;have J:(relabel scope X.env).names.lookup x=_:=e;rw[J]at z;refine w.has x ?_;cases q:scope.names.lookup x with|none=>rw[q]at z;simp at z|some k=>
     rw[q]at z;by_cases hk:k=.free;.rw[hk];exact .inl rfl
     . have g:(k==NameKind.free)=false:=by simpa using hk
       simp only[Option.map_some,g,Bool.false_and,false_eq_true,if_false,Option.some.injEq]at z;rcases z with rfl|rfl;.exact .inr rfl
       .exact absurd rfl hk
 . obtain⟨f,lt⟩:=G b B;refine⟨ne_of_lt lt,λx c e=>?_⟩;rcases w.from' x c e with e|e;.exact f.2.2.2.2.1 x c e
   .rintro rfl;exact absurd (Nat.lt_trans e.1 lt) (lt_irrefl _)
 . obtain⟨f,lt⟩:=G b B;rcases f.2.2.2.1 with h|h;.exact I.ok.Dw b u e h
   .have this:b<X.base.objs.size:=lt_size e;exact absurd (lt_of_lt_of_le this (le_trans I.ok.Jj h)) (lt_irrefl _)
 . obtain⟨f,lt⟩:=G b B;rcases mem_cons.mp (I.rA b L)with h|h;.exact f.2.1 h
   .exact f.2.2.1 h
 .--the names
   have hi:i<σ.length:=by
    by_cases hi:i<σ.length;.exact hi
    .rw[List.getElem?_append_right (by omega),List.getElem?_replicate]at C;split at C<;>cases C
   rw[getElem?_append_left hi]at C;obtain⟨M,o⟩:=ok.get (by rw[<-I.len];exact hi) Z hv;have hk:=ok.cap (x,.free) (PySem.mem_of_lookup o) rfl;obtain⟨m0,ae,hl⟩:=I.loc;obtain⟨u,r,l⟩:=hl i x v M C (.inr hk);refine⟨u,r,.inr ⟨W x o,?_⟩⟩;rcases l with⟨g,_⟩|⟨_,c,hc,A⟩;.have g:X.env.scope.names.lookup x=some .local:=g;rcases hk with hk|hk<;>(rw[g]at hk;cases hk)
   .obtain⟨c',E⟩:=w.has x (.inl o);have:=w.fre x c' o E;rw[hc]at this;cases this;refine⟨c,E,?_⟩;obtain⟨F,N,O⟩:=A;exact⟨F,j c F N,O⟩
 . rcases w.from' x c e with e|e;.obtain⟨v,F,N,O⟩:=I.cell x c e;exact⟨v,F,j c F N,O⟩
   .exact⟨_,e.2⟩
 . rcases w.from' x c e with e|e;.exact I.jl x c e
   .exact I.hok.fresh (le_of_lt e.1)
 .show(σ++replicate n none).length=N'.length;rw[length_append,List.length_replicate,I.len,ok.len]
theorem qP{prog:Program}{w:World}{A:Around}{R:Result->Shared->Prop}{p a iter:Expr}{ifs:List Expr}{pos:Pos}{it acc:Value}(I:Nat->Shared->Prop)(turn:∀ n s,I n s->wpAny (model prog w) A (pyNext it) (λr b=>match r with|none=>R (.ok .next) b|some v=>wpAny (model prog w) A (letOwnedTupleGo a it v) (λ_ b=>wpAny (model prog w) A (assign a env v) (λ_ j=>wpAny (model prog w) A (forIn ifs true λc r=>if r=true then do let ok<-isTrue c env (eval c env);pure (ForInStep.yield ok)else pure (ForInStep.yield r)) (λok g=>if ok=true then wpAny (model prog w) A (eval p env) (λx k=>wpAny (model prog w) A (call (.builtin "list.append") [acc,x]) (λ_ l=>∃m,m<n/\I m l) (notedBy (model prog w) A env λe i=>R (.error e) i) k) (notedBy (model prog w) A env λe i=>R (.error e) i) g else ∃m,m<n/\I m g) (notedBy (model prog w) A env λe i=>R (.error e) i) j) (notedBy (model prog w) A env λe i=>R (.error e) i) b) (notedBy (model prog w) A env λe i=>R (.error e) i) b) (notedBy (model prog w) A env λe i=>R (.error e) i) s)(n:Nat){s:Shared}(h:I n s):codeAny (model prog w) A (.compLoop (.ListComp p [⟨a,iter,ifs,0⟩] scope pos) 0 it acc env) R s:=by refine codeAny_loop rfl I (λn s y=>?_) n h;show wpAny _ A ((compTurn (.ListComp p [⟨a,iter,ifs,0⟩] scope pos) 0 it acc env).onRaise (λx=>do noteFrame x env;theTreesLotGoes x)) _ _ s;refine wpAny_noted ?_;rw[compTurn_list];refine wpAny_bind (wpAny_standAt (wpAny_bind (wpAny_mono (turn n s y) (λr b f=>?_) λ_ _ h'=>h')));cases r with|none=>exact wpAny_pure f|some v=>refine wpAny_bind (wpAny_mono f (λ_ b f=>?_) λ_ _ h'=>h');refine wpAny_bind (wpAny_mono f (λ_ j q=>wpAny_bind (wpAny_mono q (λok g o=>?_) λ_ _ h'=>h')) λ_ _ h'=>h');cases ok with|false=>exact wpAny_pure ⟨rfl,o⟩|true=>exact wpAny_bind (wpAny_bind (wpAny_mono o (λx k t=>wpAny_bind (wpAny_mono t (λ_ l u=>wpAny_pure (wpAny_pure ⟨rfl,u⟩)) λ_ _ h'=>h')) λ_ _ h'=>h'))
def Nh(X:Cx)(ifs:List Expr)(t:TT):Prop:=∀(pins:List (Addr × Obj))(s:Shared)(σ:L2.St)(H:Hp)(Q:Bool->Hp->Prop),Inv X pins σ H s->t σ H Q->wpAny (model X.prog X.w) X.A (forIn ifs true λc r=>if r=true then do let ok<-isTrue c X.env (eval c X.env);pure (ForInStep.yield ok)else pure (ForInStep.yield r)) (TP X pins σ Q) X.xe s
theorem Gg{X:Cx}:Nh X [] (λ_ H Q=>Q true H):=λpins s σ H Q I h=>wpAny_tests_nil ⟨H,I,h⟩
def Ih(J:It)(g:TG)(tt:TT)(te:TE)(D:Addr)(Q:Hp->Prop)(W:Nat->Nat->List V->L2.St->Hp->Prop):Prop:=∀ i m ys σ H,W i m ys σ H->H D=some (.lst ys)/\((J.stop i H/\Q H)\/(J.go i H/\∀ x e,J.Hv i H x e->g x σ e λa j=>tt a j λb f=>if b=true then te a f λy h=>h D=some (.lst ys)/\ys.length<sizeLine/\∃c,c<m/\W (i+1) c (ys++[y]) a (upd h D (.lst (ys++[y])))else ∃c,c<m/\W (i+1) c ys a f))
theorem qp{E:Value->Shared->Prop}{ag a iter:Expr}{ifs:List Expr}{pos:Pos}{it:Addr}{tn:Nat->Heap->Prop}{J:It}{g:TG}{tt:TT}{te:TE}{Q:Addr->Hp->Prop}{RR:Value->Addr->Result->Shared->Prop}(hc:X.calm=true)(ok:fu X scope N' n)(I:Inv X pins σ H s)(bn:∀n c,cl.lookup n=some c->X.env.cells.lookup n=some c)(wy:∀n,(n,NameKind.free)∈scope.names->(cl.lookup n).isSome)(T:Turn X.prog X.w X.K a J fp it tn)(h0:tn 0 s.heap)(hf:∀b∈fp,lA X pins H b)(hg:∀cl C s₀ H₀ ex,PG (sV X scope N' cl C s₀ H₀ ex) a g)(ht:∀cl C s₀ H₀ ex,Nh (sV X scope N' cl C s₀ H₀ ex) ifs tt)(he:∀cl C s₀ H₀ ex,PE (sV X scope N' cl C s₀ H₀ ex) ag te)(hw:∀D,H D=none->∃W,(∃m,W 0 m [] (σ++replicate n none) (upd H D (.lst [])))/\Ih J g tt te D (Q D) W)(bo:∀D C B l,Q D l->(∃m,B.heap.Ns C m)->lA X pins l C->Inv X pins σ l B->RR (.ref D) C (.ok .next) B):wpAny (model X.prog X.w) X.A (newList []) (λacc aw=>wpAny (model X.prog X.w) X.A (newFunctionEnv scope X.env.globals cl [] X.env.qual none .none (some X.env)) (λai aE=>codeAny (model X.prog X.w) X.A (.compStart (.ListComp ag [⟨a,iter,ifs,0⟩] scope pos) 0 (.ref it) acc {ai with scope:=relabel scope X.env}) (RR acc ai.locals) aE) E aw) E s:=by
 refine wpAny_newObj_type (zj ok (λx c e=>?lt) I.ok.inj bn wy (λcs L am hold bc=>?_));case lt=>obtain⟨v,z⟩:=I.cell x c e;exact lt_of_lt_of_le z.lt (by show _<=(s.heap.push _).objs.size;rw[size_push];exact le_succ _)
 dsimp only at am hold bc ⊢--the new list,tracked
 have I3:Inv X pins σ (upd H s.heap.objs.size (.lst [])) {s with heap:=s.heap.push {cls:=.type "list",data:=.seq ([]:List Value).toArray}}:=I.J4 (t':=s.toks) .nil (vZ);generalize ap:({s with heap:=s.heap.push {cls:=.type "list",data:=.seq ([]:List Value).toArray}}:Shared)=s3 at I3;have hsz:s3.heap.objs.size=s.heap.objs.size+1:=by rw[<-ap];exact size_push _ _
 have Jo:s3.heap=s.heap.push {cls:=.type "list",data:=.seq ([]:List Value).toArray}:=by rw[<-ap]
 obtain⟨W,⟨m0,w0⟩,turn⟩:=hw s.heap.objs.size I.fresh;have aI:∀{h':Heap},(∀b o,s.heap.get? b=some o->h'.get? b=some o)->tn 0 h':=λk=>T.keep _ _ _ h0 λb j o e=>k b o e;have Vt:∀b∈fp,lA X pins (upd H s.heap.objs.size (.lst [])) b/\b<s3.heap.objs.size:=λb j=>by obtain⟨o,e,_⟩:=T.obj 0 _ h0 b j;have lt:=lt_size e;obtain⟨f1,f2⟩:=hf b j;exact⟨⟨by rw[aC (ne_of_lt lt)];exact f1,f2⟩,by rw[hsz];exact Nat.lt_succ_of_lt lt⟩
 rw[<-Jo]at am hold bc ⊢;have I4:=zU (t:=s3.toks) ok I3 Vt bc am hold;have TF:∀b o,s.heap.get? b=some o->L.get? b=some o:=λb o e=>hold b o (by rw[Jo];exact iG e);generalize O:sV X scope N' cs s3.heap.objs.size s3 (upd H s.heap.objs.size (.lst [])) fp=F at I4;have hA:F.A=X.A:=by rw[<-O];rfl
 have M:F.prog=X.prog:=by rw[<-O];rfl
 have N:F.w=X.w:=by rw[<-O];rfl
 have aS:F.K=X.K:=by rw[<-O];rfl
 have U:F.calm=true:=by rw[<-O];exact hc
 have bp:F.xe=λ_ _=>False:=by rw[<-O];rfl
 have aT:F.env=compEnvC scope cs s3.heap.objs.size X.env:=by rw[<-O];rfl
 have bq:PG F a g:=by rw[<-O];exact hg _ _ _ _ _
 have br:Nh F ifs tt:=by rw[<-O];exact ht _ _ _ _ _
 have bt:PE F ag te:=by rw[<-O];exact he _ _ _ _ _
 have ff:∀{l:Hp}{b:Addr},b∈fp->l b=none->lA F [] l b:=λ{l b}j hn=>by
  obtain⟨f,lt⟩:=Vt b j;rw[<-O];refine⟨hn,ne_of_lt lt,λbv=>?_,.inl j,λx c e=>?_,λp hp=>by cases hp⟩
  . rcases mem_cons.mp (I3.rA b bv)with h|h;.exact f.2.1 h
    .exact f.2.2.1 h
  . rcases bc.from' x c e with e|e;.exact f.2.2.2.2.1 x c e
    .rintro rfl;exact absurd (Nat.lt_trans e.1 lt) (lt_irrefl _)--behind the block
 have fin:∀{G:L2.St}{l:Hp}{B:Shared},Inv F [] G l B->Q s.heap.objs.size l->RR (.ref s.heap.objs.size) s3.heap.objs.size (.ok .next) B:=λ{G l B}Y q=>by
  rw[<-O]at Y;have hC:l s3.heap.objs.size=none:=Y.free;obtain⟨hh,gg,dd,bE,bP⟩:=B;have bS:bP=s3.os:=Y.os;subst bS;refine bo _ _ _ l q (let⟨m,hm,_⟩:=Y.loc;⟨m,hm⟩) ?_ (I3.call (h':=hh) (g':=gg) (d':=dd) (t':=bE) (ch:=fp) Y.base Y.hok Y.bare λb j=>?_);.exact I3.yW (cH) hC
  .obtain⟨f,lt⟩:=Vt b j;exact⟨f.2.2.2.1,f.2.1,f.2.2.2.2.1,f.2.2.2.2.2⟩
 have ae:codeAny (model X.prog X.w) X.A (.compLoop (.ListComp ag [⟨a,iter,ifs,0⟩] scope pos) 0 (.ref it) (.ref s.heap.objs.size) F.env) (RR (.ref s.heap.objs.size) s3.heap.objs.size) {s3 with heap:=L,toks:=s3.toks}:=by
  refine qP (λk B=>∃i ys G l,Inv F [] G l B/\tn i B.heap/\(∀b∈fp,l b=none)/\W i k ys G l) (λk s5 hI=>?_) m0 ⟨0,[],_,_,I4,aI TF,λb j=>(Vt b j).1.1,w0⟩;obtain⟨i,ys,ah,H5,I5,t5,f5,w5⟩:=hI;obtain⟨hD,ar⟩:=turn i k ys ah H5 w5;have Vu:∀{Z:Value->Shared->Prop},∀(e:Value)(B:Shared),F.xe e B->Z e B:=λe B z=>by rw[bp]at z;exact False.elim z
  rcases ar with⟨stop,q⟩|⟨go,step⟩;.have z:=T.done F M N aS U i [] s5 ah H5 (λ_ _=>False) I5 (λb j=>ff j (f5 b j)) t5 stop;rw[hA]at z;refine wpAny_mono z (?_) λ_ _ z=>False.elim z;rintro r s6⟨hr,I6⟩;subst hr;exact fin I6 q
  . have z:=T.item F M N aS U i [] s5 ah H5 (λ_ _=>False) I5 (λb j=>ff j (f5 b j)) t5 go;rw[hA]at z;refine wpAny_mono z (?_) λ_ _ z=>False.elim z;rintro r s6⟨u,hr,z6⟩;subst hr;refine wpAny_mono z6 (?_) λ_ _ z=>False.elim z;rintro _ s7⟨x,H7,I7,r7,y7,t7,f7⟩;have bX:=I7.pinned (λb j=>ff j (f7 b j)) (T.obj _ _ t7)--what the pins keep
    have back:∀{G:L2.St}{l:Hp}{B:Shared},Inv F ([]++nM fp s7.heap) G l B->Inv F [] G l B/\tn (i+1) B.heap/\∀b∈fp,l b=none:=λ{G l B}Y=>by refine⟨Y.jM,T.keep _ _ _ t7 λb j o e=>(Y.pin (b,o) (mem_append_right _ (mem_append_right _ (gJ j e)))).1,λb j=>?_⟩;obtain⟨o,e,_⟩:=T.obj _ _ t7 b j;exact(Y.pin (b,o) (mem_append_right _ (mem_append_right _ (gJ j e)))).2.1
    have z7:=bq _ s7 ah H7 x u _ bX r7 (step x H7 y7);rw[hA,M,N]at z7;refine wpAny_mono z7 (?_) Vu;rintro _ s8⟨af,H8,I8,q8⟩;have z8:=br _ s8 af H8 _ I8 q8;rw[hA,M,N]at z8;refine wpAny_mono z8 (?_) Vu;rintro b s9⟨H9,I9,q9⟩;cases b with|false=>rw[if_neg Bool.false_ne_true]at q9 ⊢;obtain⟨m',hm,w'⟩:=q9;obtain⟨b1,b2,b3⟩:=back I9;exact⟨m',hm,i+1,ys,af,H9,b1,b2,b3,w'⟩|true=>rw[if_pos rfl]at q9 ⊢;have z9:=bt _ s9 af H9 _ I9 q9;rw[hA,M,N]at z9;refine wpAny_mono z9 (?_) Vu;rintro y pg⟨yv,ba,ca,cb,YS,bg,m',hm,w'⟩;have bi:=qC _ pg af ba (.ref s.heap.objs.size) [yv] (.ref s.heap.objs.size) [y] (λv bm=>bm=upd ba s.heap.objs.size (.lst (ys++[yv]))) ca rfl (.cons cb .nil) ⟨_,ys,yv,rfl,rfl,YS,bg,rfl⟩;rw[hA,M,N]at bi;refine wpAny_mono bi (?_) Vu;rintro _ lM⟨_,bm,cc,_,cf⟩;subst cf;obtain⟨b1,b2,b3⟩:=back cc;exact⟨m',hm,i+1,ys++[yv],af,_,b1,b2,b3,w'⟩
 have e3:({s3 with heap:=L,toks:=s3.toks}:Shared)={s with heap:=L}:=by rw[<-ap]
 rw[aT,e3]at ae;exact codeAny_compStart_list ae (T.self _ 0 _ _ _ (aI TF) ae)
end
section
variable{X:Cx}{elt target iter:Expr}{ifs:List Expr}{scope:Scope}{pos:Pos}{N':List Str}{n:Nat}{wi:TI}{g:TG}{tt:TT}{te:TE}
def wU(n:Nat)(wi:TI)(g:TG)(tt:TT)(te:TE):TE:=λa H Q=>wi a H λJ b=>∀D,b D=none->∃W,(∃m,W 0 m [] (a++replicate n none) (upd b D (.lst [])))/\Ih J g tt te D (λc=>Q (.ref D) c) W
theorem jG{a:List (Addr×Obj)}{b:L2.St}{H:Hp}{s:Shared}(I:Inv X a b H s)(ok:fu X scope N' n):∃cl,closureFor scope X.env=pure cl/\(∀n c,cl.lookup n=some c->X.env.cells.lookup n=some c)/\∀n,(n,NameKind.free)∈scope.names->(cl.lookup n).isSome:=vq λm e=>I.ok.has m (ok.cap (m,.free) e rfl)
theorem FW(hc:X.calm=true)(ok:fu X scope N' n)(hi:PI X target iter wi)(r:∀cl C s₀ H₀ ex,PG (sV X scope N' cl C s₀ H₀ ex) target g)(t:∀cl C s₀ H₀ ex,Nh (sV X scope N' cl C s₀ H₀ ex) ifs tt)(he:∀cl C s₀ H₀ ex,PE (sV X scope N' cl C s₀ H₀ ex) elt te)(hs:∀x,foldedSetIterable iter X.env x=pure x:=by intro _;rfl):PE X (.ListComp elt [⟨target,iter,ifs,0⟩] scope pos) (wU n wi g tt te):=by intro a s p H Q I h;obtain⟨cl,c,i,u⟩:=jG I ok;rw[eval_ListComp];refine wpAny_comprehension_free (use:=none) rfl hs c ok.kind ok.names (cT (hi a s p H _ I h) λv s1 h1=>cT h1 λy s2 z=>?_);obtain⟨it,L,M,J,N,rfl,B,T,t0,f2,hw⟩:=z;refine qp (Q:=λD j=>Q (.ref D) j) (RR:=λacc C=>compPost (model X.prog X.w) X.A X.xe none (EP X a p Q) acc C) hc ok B i u T t0 f2 r t he hw λD C E j q k f F=>?_;obtain⟨m,k⟩:=k;refine⟨m,k,λh' l=>⟨.ref D,j,?_,rfl,q⟩⟩;exact F.turned (t':=E.toks) (λb o G e=>l.extBut b o G e) f.1 f.2.1 f.2.2.2.1 f.2.2.2.2.1 f.2.2.2.2.2
theorem Hr{i:Nat}{x:Str}{c j:Pos}(hc:X.calm=true)(O:X.N.Nodup)(r:X.N[i]?=some x)(U:Loc X.env.scope x)(ok:fu X scope N' n)(hi:PI X target iter wi)(W:∀cl C s₀ H₀ ex,PG (sV X scope N' cl C s₀ H₀ ex) target g)(Y:∀cl C s₀ H₀ ex,Nh (sV X scope N' cl C s₀ H₀ ex) ifs tt)(he:∀cl C s₀ H₀ ex,PE (sV X scope N' cl C s₀ H₀ ex) elt te)(t:swapsWith (.ListComp elt [⟨target,iter,ifs,0⟩] scope pos) (some (.Name x c)) j.line X.env=pure true)(hs:∀x,foldedSetIterable iter X.env x=pure x:=by intro _;rfl)(Z:X.fn x=true\/X.env.scope.names.lookup x=some .local:=by first|exact .inl rfl|exact .inr rfl|assumption):PS X (.Assign [.Name x c] (.ListComp elt [⟨target,iter,ifs,0⟩] scope pos) j) (KY (wU n wi g tt te) (oH i)):=by
 intro f s M H D I h;obtain⟨cl,k,u,wy⟩:=jG I ok;rw[exec_Assign_Name_used _ _ _ _ t];refine wpAny_bind (wpAny_standAt (wpAny_bind ?_));show wpAny _ X.A (do let _<-comprehension (.ListComp elt [⟨target,iter,ifs,0⟩] scope pos) scope X.env _ (newList []) false (eval iter X.env) (some (assign (.Name x c) X.env))) _ _ s;refine wpAny_bind (wpAny_mono (wpAny_comprehension_free (use:=some (assign (.Name x c) X.env)) (Q:=λ_ p=>SP X f D .next p) rfl hs k ok.kind ok.names (cT (hi f s M H _ I h) λv s1 h1=>cT h1 λae s2 h2=>?_)) (λ_ p hq=>wpAny_pure (wpAny_pure hq)) λ_ _ e=>e);obtain⟨it,fp,tn,J,H2,rfl,I2,T,t0,f2,hw⟩:=h2;refine qp (Q:=λDa y=>D.nx (M.set i (some (.ref Da))) y) (RR:=λacc C=>compPost (model X.prog X.w) X.A X.xe (some (assign (.Name x c) X.env)) (λ_ p=>SP X f D .next p) acc C) hc ok I2 u wy T t0 f2 W Y he hw λDa C p y q B l I'=>?_;obtain⟨m,B⟩:=B;show wpAny _ X.A (assign (.Name x c) X.env (.ref Da)) _ _ _;refine wpAny_assign_Name (pU I' O r U (show RelV (.ref Da) (.ref Da)from rfl) (?_) Z);rintro E F⟨a,sb,ha⟩;have G:C≠a:=by
  rcases ha with rfl|ha;.exact l.2.1
  .exact λz=>l.2.2.2.2.1 x a ha z.symm
 refine⟨m,B.sameBut sb G,λh' L=>⟨_,y,?_,q⟩⟩;exact F.turned (t':=E.toks) (λb o hb e=>L.extBut b o hb e) l.1 l.2.1 l.2.2.2.1 l.2.2.2.2.1 l.2.2.2.2.2
def Wt(K:PySem.W.Frag)(c:TE):TI:=λe H R=>c e H λx b=>∃a,x=.ref a/\(((∃xs,gb K b a xs)/\R (KD K a) b)\/((∃xs,jc K b a xs)/\R (Oq K a) b))
theorem Bw{u l:Expr}{r:TE}(w:PE X l r):PI X u l (Wt X.K r):=by
 intro f s y H R I h;refine cT (w f s y H _ I h) ?_;rintro v s1⟨x,t,c,z,j⟩;obtain⟨a,e,j⟩:=j;subst e;cases z;rcases j with⟨⟨xs,k⟩,q⟩|⟨⟨xs,k⟩,q⟩
 . obtain⟨i,A,p,B⟩:=c.list k;refine wpAny_pyIter_list p.isList ?_;refine⟨s1.heap.objs.size,[s1.heap.objs.size],_,_,t,rfl,c.kept (t':=s1.toks) λb o e=>iG e,yx a _,⟨_,get?_push_size _ rfl,rfl,rfl⟩,λb m=>?_,q⟩;have e:b=s1.heap.objs.size:=by simpa using m
   subst e;exact c.yW (cH) (c.hok.fresh (cH))
 . obtain⟨i,A,p,B⟩:=c.tuple k;refine wpAny_pyIter_tuple (show s1.heap.IsTuple a i.toArray from p) ?_;refine⟨s1.heap.objs.size,[s1.heap.objs.size],_,_,t,rfl,c.kept (t':=s1.toks) λb o e=>iG e,vH a _,⟨_,get?_push_size _ rfl,rfl,rfl⟩,λb m=>?_,q⟩;have e:b=s1.heap.objs.size:=by simpa using m
   subst e;exact c.yW (cH) (c.hok.fresh (cH))
end
end L2
end
section
namespace HH
open PySem L2 PySem.Spec PyProof.Rows
variable{v:V}{i m:Nat}{K:PySem.W.Frag}{F H:Hp}{ρ:List Sl}{σ:L2.St}{x:Str}{p':Pos}{is:List Nat}{ds:List D}{s:Shared}{A:Around}{u':Value}
structure Walk(K:PySem.W.Frag)(F:Hp)(ρ:List Sl)(σ:L2.St)(H:Hp)(ul:List Sl->List Sl)(J:It)(ds:List D)(F1:Hp)(ρ1:List Sl)(H1:Hp):Prop where
 gs:GS K F1 ρ1 σ H1
 src:∀(n k:Nat)(F':Hp)(ρ':List Sl)(σ':L2.St)(H':Hp),bV K F1 (ρ1++replicate n .aU) (σ++replicate n none) H1 F' ρ' σ' H'->(∀d,ds[k]?=some d->J.go k H'/\∀x mj,J.Hv k H' x mj->∃F'',Ext F' H' F'' mj/\Rep K F'' x d)/\(ds.length<=k->J.stop k H')fin:∀F2 ρ2 σ2 H2,bV K F1 ρ1 σ H1 F2 ρ2 σ2 H2->bV K F ρ σ H F2 (ul ρ2) σ2 H2/\∀v r,cF K F2 ρ2 σ2 H2 ρ1 σ H1 v r->cF K F2 (ul ρ2) σ2 H2 ρ σ H v r
inductive Z2(K:PySem.W.Frag)(iv:Option Nat)(f:Ev)(σ:L2.St)(H:Hp)(R:It->Hp->Prop):Prop where|mk(F:Hp)(ρ:List Sl)(ds:List D)(ρ1:List Sl)(g:GS K F ρ σ H)(e:srcOf iv f ρ=.ok ds ρ1)(k:∀J F1 H1,Walk K F ρ σ H (bH ρ iv) J ds F1 ρ1 H1->R J H1)
section
variable{K:PySem.W.Frag}{F F1 H H1:Hp}{ρ ρ1:List Sl}{σ:L2.St}{ds:List D}{a:Addr}
theorem Es{xs:List V}{f b:Hp}(g:jc K b a xs)(r:aF K f xs ds)(s:aK f b)(k:Nat):(∀d,ds[k]?=some d->(Oq K a).go k b/\∀x j,(Oq K a).Hv k b x j->∃c,Ext f b c j/\Rep K c x d)/\(ds.length<=k->(Oq K a).stop k b):=by refine⟨λd hd=>?_,λh=>⟨xs,g,by rw[r.length];exact h⟩⟩;obtain⟨w,h1,l⟩:=r.get hd;refine⟨⟨xs,w,g,h1⟩,?_⟩;rintro x j⟨e,y⟩;subst e;have:=y xs g;rw[h1]at this;cases this;exact⟨f,.refl s,l⟩
theorem tO{xs:List V}{f b:Hp}(g:gb K b a xs)(r:aF K f xs ds)(s:aK f b)(k:Nat):(∀d,ds[k]?=some d->(KD K a).go k b/\∀x j,(KD K a).Hv k b x j->∃c,Ext f b c j/\Rep K c x d)/\(ds.length<=k->(KD K a).stop k b):=by refine⟨λd hd=>?_,λh=>⟨xs,g,by rw[r.length];exact h⟩⟩;obtain⟨w,h1,l⟩:=r.get hd;refine⟨⟨xs,w,g,h1⟩,?_⟩;rintro x j⟨e,y⟩;subst e;have:=y xs g;rw[h1]at this;cases this;exact⟨f,.refl s,l⟩
theorem uJ{ul:List Sl->List Sl}{d:D}(s:bV K F ρ σ H F1 ρ1 σ H1)(r:Rep K F1 v d)(hi:items d=some ds)(fin:∀f b c g,bV K F1 ρ1 σ H1 f b c g->bV K F ρ σ H f (ul b) c g/\∀v r,cF K f b c g ρ1 σ H1 v r->cF K f (ul b) c g ρ σ H v r):∃a,v=.ref a/\(((∃xs,gb K H1 a xs)/\Walk K F ρ σ H ul (KD K a) ds F1 ρ1 H1)\/((∃xs,jc K H1 a xs)/\Walk K F ρ σ H ul (Oq K a) ds F1 ρ1 H1)):=by cases d with|tup o=>cases hi;rw[Rep]at r;obtain⟨a,xs,rfl,h1,h⟩:=r;exact⟨a,rfl,.inr ⟨⟨xs,aK.eZ s.gs.sub h1⟩,s.gs,λn k p j l q e=>Es (aK.eZ e.gs.sub (aK.eZ e.cW h1)) (h.mono e.cW) e.gs.sub k,fin⟩⟩|lst o=>cases hi;rw[Rep]at r;obtain⟨a,xs,rfl,h1,h⟩:=r;exact⟨a,rfl,.inl ⟨⟨xs,s.gs.sub.seq h1⟩,s.gs,λn k p j l q e=>tO (e.gs.sub.seq (e.cW.seq h1)) (h.mono e.cW) e.gs.sub k,fin⟩⟩|_=>cases hi
theorem qj{ul:List Sl->List Sl}(g:GS K F ρ1 σ H)(e:ρ1[i]?=some (.lent ds))(fin:∀f b c h,bV K F ρ1 σ H f b c h->bV K F ρ σ H f (ul b) c h/\∀v r,cF K f b c h ρ1 σ H v r->cF K f (ul b) c h ρ σ H v r):∃a,σ[i]?=some (some (.ref a))/\(∃xs,gb K H a xs)/\Walk K F ρ σ H ul (KD K a) ds F ρ1 H:=by obtain⟨a,xs,h1,p,C,E⟩:=g.qH i _ ds e rfl;have hi:i<ρ1.length:=(gW e).1;refine⟨a,h1,⟨xs,gb.of p⟩,g,λn k G q u I j=>?_,fin⟩;obtain⟨l,t,w,y⟩:=j.lk i _ (by rw[getElem?_append_left hi];exact e) rfl;cases(show t=.lent ds from y);rw[getElem?_append_left (by rw[<-g.len];exact hi),h1]at l;obtain⟨J,ys,o,z,L,B⟩:=j.gs.qH i _ ds w rfl;rw[l]at o;cases o;exact tO (gb.of z) B j.gs.sub k
end
section
variable{X:Cx}{c:Call}{n:Nat}{e a b d tg:Expr}{p pa pb pd:P}{pos:Pos}
theorem qd{t t':TI}(h:PI X tg e t)(i:∀σ H R,t' σ H R->t σ H R):PI X tg e t':=λf s σ H R I q=>h f s σ H R I (i σ H R q)
def SI(X:Cx)(c:Call)(tg e:Expr)(p:P):Prop:=PI X tg e (Z2 X.K (isVar p) (HH.ev c p))
theorem gR(h:SX X c e p):SI X c tg e p:=by unfold SI;cases hv:isVar p with|none=>refine qd (Bw h.ev) ?_;rintro σ H R⟨F,ρ,ds,u,g,e,k⟩;obtain⟨r,f,J,t⟩:=ao e;have y:=aJ t;clear t;obtain⟨t,B⟩:=y;subst B;refine⟨F,ρ,r,_,g,J,λv Q U s C=>?_⟩;obtain⟨l,s2,_,L⟩:=s.eG C;obtain⟨a,E,hw⟩:=uJ (ul:=bH ρ none) s2 L t λW M N Y s3=>⟨s2.trans s3,λv r C=>C.later s2⟩;exact⟨a,E,hw.imp (λ⟨z,w⟩=>⟨z,k _ _ _ w⟩) (λ⟨z,w⟩=>⟨z,k _ _ _ w⟩)⟩|some i=>
   refine qd (Bw (h.var i hv)) ?_;rintro σ H R⟨F,ρ,ds,u,g,e,k⟩;unfold srcOf at e;dsimp only at e;split at e
   . rename_i b d q;have y:=aJ e;clear e;obtain⟨t,B⟩:=y;subst B;obtain⟨v,h1,O⟩:=g.val i b d q;have fin:∀l f j o,bV X.K F ρ σ H l f j o->bV X.K F ρ σ H l (bH ρ (some i) f) j o/\∀v r,cF X.K l f j o ρ σ H v r->cF X.K l (bH ρ (some i) f) j o ρ σ H v r:=λl f j o s=>by unfold bH;dsimp only;rw[q];exact⟨s,λ_ _ z=>z⟩
     obtain⟨a,E,hw⟩:=uJ (ul:=bH ρ (some i)) (.refl g) O t fin;exact⟨v,h1,a,E,hw.imp (λ⟨z,w⟩=>⟨z,k _ _ _ w⟩) (λ⟨z,w⟩=>⟨z,k _ _ _ w⟩)⟩
   . rename_i b G q;cases e;have hi:i<ρ.length:=(gW q).1;have fin:∀l f j o,bV X.K F (ρ.set i (.lent ds)) σ H l f j o->bV X.K F ρ σ H l (bH ρ (some i) f) j o/\∀v r,cF X.K l f j o (ρ.set i (.lent ds)) σ H v r->cF X.K l (bH ρ (some i) f) j o ρ σ H v r:=λl f j o s=>by unfold bH;dsimp only;rw[q];exact bV.bH g q s
     obtain⟨a,h1,I,w⟩:=qj (ul:=bH ρ (some i)) (g.lend q) (getElem?_set_self hi) fin;exact⟨_,h1,a,rfl,.inl ⟨I,k _ _ _ w⟩⟩
   . rename_i G q;cases e;have fin:∀l f j o,bV X.K F ρ σ H l f j o->bV X.K F ρ σ H l (bH ρ (some i) f) j o/\∀v r,cF X.K l f j o ρ σ H v r->cF X.K l (bH ρ (some i) f) j o ρ σ H v r:=λl f j o s=>by unfold bH;dsimp only;rw[q];exact⟨s,λ_ _ z=>z⟩
     obtain⟨a,h1,I,w⟩:=qj (ul:=bH ρ (some i)) g q fin;exact⟨_,h1,a,rfl,.inl ⟨I,k _ _ _ w⟩⟩
   .cases e
theorem tu{g l:Hp}{f:List Sl}(s:bV K F ρ σ H g f σ l)(i j:Int):Walk K F ρ σ H (bH ρ none) (Ru i (j-i).toNat) ((List.range (j-i).toNat).map λ(k:Nat)=>D.int (i+(k:Int))) g f l:=by
 refine⟨s.gs,λn k q t u J w=>⟨λd hd=>?_,λh=>?_⟩,λL y z M s3=>⟨s.trans s3,λv r B=>B.later s⟩⟩;.rw[getElem?_map]at hd;obtain⟨m,C,E⟩:=map_some hd;obtain⟨h1,o⟩:=gW C;rw[List.getElem_range]at o;subst o;subst E;rw[length_range]at h1;refine⟨h1,?_⟩;rintro x N⟨G,I⟩;subst G;subst I;exact⟨q,.refl w.gs.sub,cV _⟩
 .rw[length_map,length_range]at h;exact h
theorem cO(t:x="range")(u:Gl X x)(w:X.mg x=none)(y:SX X c a pa)(hs:starEach [a] X.env=[(false,eval a X.env)]:=by rfl):SI X c tg (.Call (.Name x p') [a] [] pos) (.mV (.con (.int 0)) pa):=by
 subst t;obtain⟨U,h1,z⟩:=y.fP;refine qd (zE u w (dq h1 iD hs) hs) ?_;rintro σ H R⟨F,ρ,ds,B,g,e,k⟩;obtain⟨r,C,q,h⟩:=ao e;have l:=aJ h;clear h;obtain⟨h,E⟩:=l;subst E;rw[HH.E20]at q;obtain⟨W,G,I,f⟩:=ao q;have l:=aJ f;clear f;obtain⟨f,J⟩:=l;subst J;obtain⟨Y,L,M,o⟩:=ao I;cases o;obtain⟨i,f1,f⟩:=fB f;obtain⟨j,f2,f⟩:=fB f;obtain⟨⟨b1,b2,b3,b4⟩,f⟩:=bL f;have f1:i=0:=by cases f1;rfl
 subst f1;subst f;cases h;cases iM f2;refine z g M λv N O s Q=>⟨j,by rw[Q.int],by omega,by omega,?_⟩;have:=tu s 0 j;rw[Int.sub_zero]at this;refine k _ N O ?_;rw[Int.sub_zero];exact this
theorem xR(y:x="range")(z:Gl X x)(B:X.mg x=none)(C:SX X c a pa)(E:SX X c b pb)(hs:starEach [a,b] X.env=[(false,eval a X.env),(false,eval b X.env)]:=by rfl)(h:starEach [b] X.env=[(false,eval b X.env)]:=by rfl):SI X c tg (.Call (.Name x p') [a,b] [] pos) (.mV pa pb):=by subst y;obtain⟨Y,Z,h1,G,I⟩:=C.gj E;refine qd (yR z B (dq h1 (dq G iD h) (by rw[hs,h])) hs h) ?_;rintro σ H R⟨F,ρ,ds,J,g,e,k⟩;obtain⟨r,L,o,l⟩:=ao e;have q:=aJ l;clear l;obtain⟨l,M⟩:=q;subst M;rw[HH.E20]at o;obtain⟨xy,N,O,f⟩:=ao o;have q:=aJ f;clear f;obtain⟨f,Q⟩:=q;subst Q;obtain⟨i,f1,f⟩:=fB f;obtain⟨j,f2,f⟩:=fB f;obtain⟨⟨b1,b2,b3,b4⟩,f⟩:=bL f;subst f;cases l;refine I g O λv u U W s t w=>⟨i,j,?_,by omega,k _ U W (tu s i j)⟩;have o:=iM f1;have l:=iM f2;rw[o]at t;rw[l]at w;rw[t.int,w.int]
end
section
variable{X:Cx}{c:Call}{n:Nat}{e a b d tg iter:Expr}{p pa pb pd:P}{pos:Pos}{body:List Stmt}{ss:List S}
def Ez(K:PySem.W.Frag)(j:List Sl->D->Option (List Sl))(g:TG):Prop:=∀(x:V)(d:D)(F:Hp)(ρ f:List Sl)(σ:L2.St)(H:Hp)(Q:L2.St->Hp->Prop),GS K F ρ σ H->Rep K F x d->j ρ d=some f->(∀h,bV K F ρ σ H F f h H->Q h H)->g x σ H Q
theorem FP(i:Nat):Ez K (λρ d=>put ρ i (.val false d)) (oH i):=λx d F ρ f σ H Q g r h k=>k _ (bV.put (r:=.val d) (.refl g) r h)
theorem aL:∀(is:List Nat)(gs:zO),(∀(xs:List V)(ds:List D)(F:Hp)(ρ f:List Sl)(σ:L2.St)(H:Hp)(Q:L2.St->Hp->Prop),GS K F ρ σ H->aF K F xs ds->putAll ρ is ds=some f->(∀j,bV K F ρ σ H F f j H->Q j H)->gs xs σ H Q)->∀i,∀(xs:List V)(ds:List D)(F:Hp)(ρ f:List Sl)(σ:L2.St)(H:Hp)(Q:L2.St->Hp->Prop),GS K F ρ σ H->aF K F xs ds->putAll ρ (i::is) ds=some f->(∀j,bV K F ρ σ H F f j H->Q j H)->Ds (oH i) gs xs σ H Q:=by intro is gs o i xs ds F ρ f σ H Q g r h k;cases ds with|nil=>simp[iR,gM,kY,kZ]at h|cons d ds=>obtain⟨v,vs,rfl,h1,q⟩:=r.cz;rw[gM]at h;obtain⟨l,t,u⟩:=fB h;have s1:=bV.put (r:=.val d) (.refl g) h1 t;refine⟨v,vs,rfl,o vs ds F l f _ H _ s1.gs q u λj s2=>k j (s1.trans s2)⟩
theorem dC:∀(xs:List V)(ds:List D)(F:Hp)(ρ f:List Sl)(σ:L2.St)(H:Hp)(Q:L2.St->Hp->Prop),GS K F ρ σ H->aF K F xs ds->putAll ρ [] ds=some f->(∀j,bV K F ρ σ H F f j H->Q j H)->M4 xs σ H Q:=by intro xs ds F ρ f σ H Q g r h k;cases ds with|nil=>rw[iR]at h;cases h;exact⟨r.eV,k σ (.refl g)⟩|cons d ds=>simp[iR,gM,kY,kZ]at h
theorem jB:∀{is:List Nat}{ds:List D}{ρ f:List Sl},putAll ρ is ds=some f->ds.length=is.length|[],[],_,_,_=>rfl|[],_::_,_,_,h=>by simp[iR,gM,kY,kZ]at h|_::_,[],_,_,h=>by simp[iR,gM,kY,kZ]at h|i::is,d::ds,ρ,f,h=>by rw[gM]at h;obtain⟨g,k,j⟩:=fB h;simp[jB j]
theorem fc{gs:zO}(q:m=is.length)(h:∀(xs:List V)(ds:List D)(F:Hp)(ρ f:List Sl)(σ:L2.St)(H:Hp)(Q:L2.St->Hp->Prop),GS K F ρ σ H->aF K F xs ds->putAll ρ is ds=some f->(∀l,bV K F ρ σ H F f l H->Q l H)->gs xs σ H Q):Ez K (λρ d=>cj ρ is false d) (Ms K m gs):=by intro x d F ρ f σ H Q g r j k;replace j:cj ρ is false d=some f:=j;cases d with|tup ds=>replace j:putAll ρ is ds=some f:=j;rw[Rep]at r;obtain⟨a,xs,rfl,h1,o⟩:=r;exact⟨a,xs,rfl,aK.eZ g.sub h1,by rw[o.length,jB j,q],h xs _ F ρ f σ H Q g o j k⟩|_=>cases j
theorem lu{g:TG}{one:Bool}(hp:PassesOwn (model X.prog X.w) X.A X.env X.xe)(hc:X.calm=true)(hi:SI X c tg iter p)(hg:PG X tg g)(ae:Ez X.K (λρ d=>cj ρ is one d) g)(hb:SB X c n body ss)(hs:∀x,foldedSetIterable iter X.env x=pure x:=by intro _;rfl):SS X c n (.For tg iter body [] pos) (.fJ p is one ss):=by
 refine ik (Lr hp hc hi hg hb hs) ?_;rintro D σ H⟨F,ρ,fl,t,g0,e,k⟩;rw[HH.Yv]at e;obtain⟨ds,o,e1,e⟩:=ao e;obtain⟨ag,E,e2,e⟩:=ao e;cases e;refine⟨F,ρ,ds,o,g0,e1,λJ O H1 w=>?_⟩;have src:∀(i:Nat)(Q:Hp)(t:List Sl)(h:L2.St)(j:Hp),bV X.K O o σ H1 Q t h j->(∀d,ds[i]?=some d->J.go i j/\∀x mj,J.Hv i j x mj->∃G,Ext Q j G mj/\Rep X.K G x d)/\(ds.length<=i->J.stop i j):=λi Q t h j s=>w.src 0 i Q t h j (by simpa using s);refine⟨λi m q U=>∃C f,bV X.K O o σ H1 C f q U/\m=ds.length-i/\i<=ds.length/\jW is one (je c n ss) (ds.drop i) f=.ok fl E,⟨_,O,o,.refl w.gs,rfl,vZ,e2⟩,?_⟩;rintro i m q U⟨C,f,W,rfl,ah,l⟩;obtain⟨s1,s2⟩:=src i C f q U W;by_cases u:i<ds.length
 . right;have hd:ds[i]?=some ds[i]:=by simp[u]
   obtain⟨go,step⟩:=s1 _ hd;refine⟨go,λh j=>∃m',m'<ds.length-i/\∃C f,bV X.K O o σ H1 C f h j/\m'=ds.length-(i+1)/\i+1<=ds.length/\jW is one (je c n ss) (ds.drop (i+1)) f=.ok fl E,λh j z=>z,λx j y=>?_⟩;obtain⟨F2,ext,rx⟩:=step x j y;have I:=W.trans (ext.stp W.gs);rw[drop_eq_getElem_cons u,Dp]at l;cases hbd:cj f is one ds[i]with|none=>rw[hbd]at l;cases l|some L=>rw[hbd]at l;obtain⟨M,B,eb,l⟩:=ao l;refine ae x _ F2 f L q j _ I.gs rx hbd λai sb=>?_;have YT:=I.trans sb;refine⟨F2,L,M,B,YT.gs,eb,λY N H4 s4=>?_⟩;have Z:=YT.trans s4;cases M with|next=>exact⟨_,by omega,Y,B,Z,rfl,u,l⟩|cont=>exact⟨_,by omega,Y,B,Z,rfl,u,l⟩|brk=>cases l;exact k Y N H4 (w.fin _ _ _ _ Z).1|ret r=>cases l;intro v rr;obtain⟨z1,z2⟩:=w.fin _ _ _ _ Z;exact k Y N H4 z1 v (z2 v r (rr.later YT))
 . left;have af:ds.drop i=[]:=by rw[List.drop_eq_nil_iff];omega
   rw[af,J9]at l;cases l;exact⟨s2 (by omega),k C q U (w.fin _ _ _ _ W).1⟩
theorem yP(i:Nat):(λ(ρ:List Sl)(d:D)=>cj ρ [i] true d)=λρ d=>put ρ i (.val false d):=by funext ρ d;rfl
theorem xg{f:Pos}(h:PassesOwn (model X.prog X.w) X.A X.env X.xe)(hc:X.calm=true)(j:X.N.Nodup)(g:X.N[i]?=some x)(k:Loc X.env.scope x)(hi:SI X c (.Name x f) iter p)(l:SB X c n body ss)(hs:∀x,foldedSetIterable iter X.env x=pure x:=by intro _;rfl)(o:X.fn x=true\/X.env.scope.names.lookup x=some .local:=by first|exact .inl rfl|exact .inr rfl|assumption):SS X c n (.For (.Name x f) iter body [] pos) (.fJ p [i] true ss):=lu h hc hi (aA j g k o) (by rw[yP];exact FP i) l hs
end
section
variable{X:Cx}{c:Call}{n:Nat}{e elt tg iter:Expr}{p ps pe:P}{pos:Pos}{scope:Scope}{N':List Str}{ifs:List Expr}
theorem J0{t t':TE}(h:PE X e t)(i:∀σ H Q,σ.length=X.N.length->t' σ H Q->t σ H Q):PE X e t':=λa s σ H Q I q=>h a s σ H Q I (i σ H Q I.len q)
theorem Mi{st:Stmt}{t t':TS}(h:PS X st t)(i:∀D σ H,σ.length=X.N.length->t' D σ H->t D σ H):PS X st t':=λa s σ H D I q=>h a s σ H D I (i D σ H I.len q)
def qt(K:PySem.W.Frag)(m:Nat)(is:List Nat)(one:Bool)(g:TG):Prop:=∀(x:V)(d:D)(F:Hp)(ρ b:List Sl)(σ:L2.St)(H:Hp)(Q:L2.St->Hp->Prop),GS K F ρ σ H->Rep K F x d->cj ρ is one d=some b->(∀a,bV K F ρ σ H F b a H->a.take m=σ.take m->Q a H)->g x σ H Q
theorem take_set{b:Type}{l:List b}{a:b}(h:m<=i):(l.set i a).take m=l.take m:=by rw[List.take_set_of_le h]
theorem dX(h:m<=i):qt K m [i] true (oH i):=λx d F ρ a σ H Q g r b k=>k _ (bV.put (r:=.val d) (.refl g) r b) (take_set h)
def Ho(K:PySem.W.Frag)(m:Nat)(is:List Nat)(gs:zO):Prop:=∀(xs:List V)(ds:List D)(F:Hp)(ρ b:List Sl)(σ:L2.St)(H:Hp)(Q:L2.St->Hp->Prop),GS K F ρ σ H->aF K F xs ds->putAll ρ is ds=some b->(∀a,bV K F ρ σ H F b a H->a.take m=σ.take m->Q a H)->gs xs σ H Q
theorem jN{gs:zO}(hi:m<=i)(j:Ho K m is gs):Ho K m (i::is) (Ds (oH i) gs):=by intro xs ds F ρ a σ H Q g r h k;cases ds with|nil=>simp[iR,gM,kY,kZ]at h|cons d ds=>obtain⟨v,vs,rfl,h1,l⟩:=r.cz;rw[gM]at h;obtain⟨b,o,q⟩:=fB h;have s1:=bV.put (r:=.val d) (.refl g) h1 o;exact⟨v,vs,rfl,j vs ds F b a _ H _ s1.gs l q λf s2 z=>k f (s1.trans s2) (z.trans (take_set hi))⟩
theorem wY:Ho K m [] M4:=by intro xs ds F ρ a σ H Q g r h k;cases ds with|nil=>rw[iR]at h;cases h;exact⟨r.eV,k σ (.refl g) rfl⟩|cons d ds=>simp[iR,gM,kY,kZ]at h
theorem xx{gs:zO}{l:Nat}(o:l=is.length)(h:Ho K m is gs):qt K m is false (Ms K l gs):=by intro x d F ρ b σ H Q g r f k;cases d with|tup ds=>replace f:putAll ρ is ds=some b:=f;rw[Rep]at r;obtain⟨a,xs,rfl,h1,j⟩:=r;exact⟨a,xs,rfl,aK.eZ g.sub h1,by rw[j.length,jB f,o],h xs _ F ρ b σ H Q g j f k⟩|_=>cases f
def SQ(X:Cx)(c:Call)(ifs:List Expr)(t:Option P):Prop:=Nh X ifs (IW X.K (ur c t))
theorem dO:SQ X c [] none:=λa s σ H Q I⟨F,ρ,k,ρ',g,e,q⟩=>by rw[ur]at e;cases e;exact Gg a s σ H Q I (q F H (.refl g))
theorem bV.Qq{j k:Hp}{f:List Sl}{g:L2.St}{Da:Addr}{o:HO}(s:bV K F ρ σ H j f g k)(h:H Da=none)(r:j Da=none)(ho:¬ Own f g Da):bV K F ρ σ H j f g (upd k Da o):=by
 refine⟨⟨λb u e=>?_,s.gs.len,s.gs.val,λi t ds e l=>?_,s.gs.dis⟩,s.cW,s.zR,λb u e n=>?_,s.zL,s.len,s.lk⟩
 . have:b≠Da:=by rintro rfl;rw[r]at e;cases e
   rw[aC this];exact s.gs.sub b u e
 . obtain⟨a,xs,q,w,y,z⟩:=s.gs.own i t ds e l;have:a≠Da:=by rintro rfl;exact ho ⟨i,⟨t,ds,e,l⟩,q⟩
   exact⟨a,xs,q,by rw[aC this];exact w,y,z⟩
 . have:b≠Da:=by rintro rfl;rw[h]at e;cases e
   rw[aC this];exact s.keep b u e n
theorem By{b l:List Sl}{ul:List Sl->List Sl}{ti:TI}{one:Bool}{r:List Sl->Res Bool}{el:Ev}{g:TG}{Q:VK}{xs:List D}(hm:σ.length=m)(ap:qt K m is one g)(ar:∀R:It->Hp->Prop,(∀J N W,Walk K F ρ σ H ul J ds N b W->R J W)->ti σ H R)(aI:ds.length<=lim)(e2:turns is one r el ds [] (b++replicate n .aU)=.ok xs l)(k:∀v F' H',bV K F ρ σ H F' (ul (l.take b.length)) σ H'->cF K F' (ul (l.take b.length)) σ H' ρ σ H v (.own xs)->Q v H'):wU n ti g (IW K r) (zB K el) σ H Q:=by
 refine ar _ λJ N W w Da O=>?_;have aw:b.length=σ.length:=w.gs.len;have gm:=w.gs.more (n:=n) (τ:=replicate n none) (by simp);have fD:N Da=none:=by cases q:N Da with|none=>rfl|some o=>rw[w.gs.sub Da o q]at O;cases O
 have nO:¬ Own (b++replicate n .aU) (σ++replicate n none) Da:=λ⟨i,⟨t,dt,q1,q2⟩,q3⟩=>by obtain⟨a,ys,z1,z2,_⟩:=gm.own i t dt q1 q2;rw[q3]at z1;cases z1;rw[O]at z2;cases z2
 refine⟨λi mm ys f E=>∃C h acc,bV K N (b++replicate n .aU) (σ++replicate n none) W C h f E/\f.take m=σ/\E Da=some (.lst ys)/\C Da=none/\¬ Own h f Da/\aF K C ys acc/\acc.length<=i/\mm=ds.length-i/\i<=ds.length/\turns is one r el (ds.drop i) acc h=.ok xs l,⟨_,N,_,[],(bV.refl gm).Qq O fD nO,by rw[List.take_append_of_le_length (by omega),take_of_length_le (by omega)],aR,fD,nO,.nil,vZ,rfl,vZ,e2⟩,?_⟩;rintro i mm ys f E⟨C,h,acc,Y,G,Z,hF,hO,rs,aS,rfl,aT,j⟩;refine⟨Z,?_⟩--what stays of the new list through a step
 have stay:∀{I U:Hp}{L:List Sl}{u:L2.St},bV K C h f E I L u U->U Da=some (.lst ys)/\I Da=none/\¬ Own L u Da:=λ{I U L u}s=>by
  refine⟨s.keep Da _ Z hO,?_,λo=>?_⟩;.cases q:I Da with|none=>rfl|some o=>
      rcases s.zR Da hF (by rw[q];simp)with z|z;.exact absurd z hO
      .exact(Cr Z z).elim
  . rcases s.zL Da o with z|z;.exact hO z
    .rw[Z]at z;cases z
 obtain⟨s1,s2⟩:=w.src n i C h f E Y;by_cases B:i<ds.length
 . right;have hd:ds[i]?=some ds[i]:=by simp[B]
   obtain⟨go,step⟩:=s1 _ hd;refine⟨go,λx U y=>?_⟩;obtain⟨I,ext,rx⟩:=step x U y;have t2:=ext.stp Y.gs;rw[drop_eq_getElem_cons B,vh]at j;cases hbd:cj h is one ds[i]with|none=>rw[hbd]at j;cases j|some ae=>rw[hbd]at j;obtain⟨bb,M,eb,j⟩:=ao j;refine ap x _ I h ae f U _ t2.gs rx hbd λu sb af=>?_;have t3:=t2.trans sb;refine⟨I,ae,bb,M,t3.gs,eb,λF4 H4 s4=>?_⟩;have t4:=t3.trans s4;cases bb with|false=>rw[if_neg Bool.false_ne_true]at j;obtain⟨y1,y2,y3⟩:=stay t4;exact⟨_,by omega,F4,M,acc,Y.trans t4,af.trans G,y1,y2,y3,rs.mono t4.cW,by omega,rfl,B,j⟩|true=>
       rw[if_pos rfl]at j;obtain⟨re,ag,ee,j⟩:=ao j;refine(show zB K el u H4 _ from⟨F4,M,re,ag,t4.gs,ee,λv F5 H5 s5 rr=>?_⟩);obtain⟨F6,s6,_,rp⟩:=s5.eG rr;have t6:=t4.trans s6;obtain⟨y1,y2,y3⟩:=stay t6;have ah:ys.length<sizeLine:=by have h1:=rs.length;have h2:lim=sizeLine:=rfl;omega
       exact⟨y1,ah,_,by omega,F6,ag,acc++[re.d],(Y.trans t6).Qq O y2 y3,af.trans G,aR,y2,y3,(rs.mono t6.cW).append (.cons rp .nil),by simp;omega,rfl,B,j⟩
 . left;have aE:ds.drop i=[]:=by rw[List.drop_eq_nil_iff];omega
   rw[aE,uX]at j;cases j;refine⟨s2 (by omega),?_⟩;obtain⟨l1,l2⟩:=bV.less (m:=b.length) rfl w.gs (by simp) Y;have ai:f.take b.length=σ:=by rw[aw,hm];exact G
   rw[ai]at l1;have rr:cF K C l f E (b++replicate n .aU) (σ++replicate n none) W (.ref Da) (.own xs):=⟨Da,ys,rfl,Z,hF,rs,hO,.inr O⟩;have am:=l2 _ _ rr;rw[ai]at am;obtain⟨z1,z2⟩:=w.fin _ _ _ _ l1;exact k _ C E z1 (z2 _ _ am)
theorem yd{q:Option Nat}{f:Ev}{one:Bool}{b:List Sl->Res Bool}{y:Ev}{g:TG}{Q:VK}{r:R}{j:List Sl}(B:σ.length=m)(t:qt K m is one g)(C:GS K F ρ σ H)(e:((srcOf q f ρ).bind λds a=>if ds.length<=lim then(turns is one b y ds [] (a++replicate n .aU)).bind λxs l=>Res.ok (R.own xs) (bH ρ q (l.take a.length))else .stuck)=.ok r j)(k:∀v z u,bV K F ρ σ H z j σ u->cF K z j σ u ρ σ H v r->Q v u):wU n (Z2 K q f) g (IW K b) (zB K y) σ H Q:=by
 obtain⟨ds,w,E,e⟩:=ao e;split at e;.rename_i o;obtain⟨xs,G,I,e⟩:=ao e;cases e;exact By B t (λR h=>⟨F,ρ,ds,w,C,E,h⟩) o I k
 .cases e
theorem fM{g:TG}{one:Bool}{t:Option P}(hc:X.calm=true)(ok:fu X scope N' n)(hi:SI X c tg iter ps)(b:∀cl C s₀ H₀ ex,PG (sV X scope N' cl C s₀ H₀ ex) tg g)(a:qt X.K X.N.length is one g)(f:∀cl C s₀ H₀ ex,SQ (sV X scope N' cl C s₀ H₀ ex) c ifs t)(he:∀cl C s₀ H₀ ex,SX (sV X scope N' cl C s₀ H₀ ex) c elt pe)(hs:∀x,foldedSetIterable iter X.env x=pure x:=by intro _;rfl):SX X c (.ListComp elt [⟨tg,iter,ifs,0⟩] scope pos) (.comp ps n is one t pe):=by refine⟨J0 (FW (tt:=IW X.K (ur c t)) (te:=zB X.K (HH.ev c pe)) hc ok hi b f (λcl C s₀ H₀ ex=>(he cl C s₀ H₀ ex).ev) hs) ?_,λi h=>by cases h⟩;rintro σ H Q j⟨F,ρ,r,l,o,e,k⟩;rw[HH.E19]at e;exact yd j a o e k
theorem wO{a b:Pos}{nn:Nat}{g:TG}{one:Bool}{t:Option P}(hc:X.calm=true)(q:X.N.Nodup)(h:X.N[i]?=some x)(u:Loc X.env.scope x)(ok:fu X scope N' n)(hi:SI X c tg iter ps)(w:∀cl C s₀ H₀ ex,PG (sV X scope N' cl C s₀ H₀ ex) tg g)(j:qt X.K X.N.length is one g)(y:∀cl C s₀ H₀ ex,SQ (sV X scope N' cl C s₀ H₀ ex) c ifs t)(he:∀cl C s₀ H₀ ex,SX (sV X scope N' cl C s₀ H₀ ex) c elt pe)(l:swapsWith (.ListComp elt [⟨tg,iter,ifs,0⟩] scope pos) (some (.Name x a)) b.line X.env=pure true:=by rfl)(hs:∀x,foldedSetIterable iter X.env x=pure x:=by intro _;rfl)(z:X.fn x=true\/X.env.scope.names.lookup x=some .local:=by first|exact .inl rfl|exact .inr rfl|assumption):SS X c nn (.Assign [.Name x a] (.ListComp elt [⟨tg,iter,ifs,0⟩] scope pos) b) (.asg i (.comp ps n is one t pe)):=by refine Mi (Hr (tt:=IW X.K (ur c t)) (te:=zB X.K (HH.ev c pe)) hc q h u ok hi w y (λcl C s₀ H₀ ex=>(he cl C s₀ H₀ ex).ev) l hs z) ?_;rintro D σ H B⟨F,ρ,W,E,G,e,k⟩;rw[HH.X6]at e;obtain⟨r,I,o,e⟩:=ao e;obtain⟨J,L,f,e⟩:=ao e;cases e;have M:=aJ f;clear f;obtain⟨f,Y⟩:=M;rw[HH.E19]at o;exact yd B j G o λv O Q s1 U=>k O _ Q (s1.put U f)
end
section
variable{X:Cx}{c:Call}{n:Nat}{e a b d:Expr}{p pa pb pd:P}{pos:Pos}{es:List Expr}{ps:List P}
noncomputable def ZW:D->String|.non=>"NoneType"|.bl _=>"bool"|.int _=>"int"|.str _=>"str"|.tup _=>"tuple"|.lst _=>"list"|.cX _=>"dict"|.dv _ _=>"dict"
noncomputable def Qg:Ty->String|.none=>"NoneType"|.bool=>"bool"|.int=>"int"|.str=>"str"|.tuple=>"tuple"|.list=>"list"
theorem R6(K:PySem.W.Frag)(t:Ty)(d:D):PySem.W.kitOne K (.type (ZW d)) (.type (Qg t))=some (cg t d):=by cases t<;>cases d<;>rfl
theorem RL{k:List (Addr×Obj)}{x:V}{u:Value}{r:D}(I:L2.Inv X k σ H s)(l:aK F H)(g:di X.K F H x r)(f:RelV x u):(∃z,PySem.W.KitX X.K u (.type (ZW r)) z/\z s.heap)/\u≠.builtin "__main__.__loader__#opaque":=by cases r with|non=>rw[g.non]at f;cases f;exact⟨⟨_,PySem.W.kitx_none,trivial⟩,nofun⟩|bl y=>rw[g.bl]at f;cases f;exact⟨⟨_,PySem.W.kitx_bool,trivial⟩,nofun⟩|int i=>rw[g.int]at f;obtain⟨t,rfl⟩:=f;exact⟨⟨_,PySem.W.kitx_int,trivial⟩,nofun⟩|str y=>rw[g.str]at f;obtain⟨t,rfl⟩:=f;exact⟨⟨_,PySem.W.kitx_str,trivial⟩,nofun⟩|tup ds=>obtain⟨q,xs,rfl,h,_⟩:=g.tup l;cases f;obtain⟨w,_,⟨o,h1,j,_⟩,_⟩:=I.tuple h;exact⟨⟨_,PySem.W.kitx_tuple,⟨o,h1,j⟩⟩,nofun⟩|lst ds=>obtain⟨q,xs,rfl,h,_⟩:=g.lst l;cases f;obtain⟨w,_,B,_⟩:=I.list h;obtain⟨o,h1,j,_⟩:=B.isList;exact⟨⟨_,PySem.W.kitx_list,⟨o,h1,j⟩⟩,nofun⟩|cX m=>obtain⟨q,_,rfl,h⟩:=g.cX l;cases f;obtain⟨o,h1,j⟩:=CK I h;exact⟨⟨_,kitx_dict,⟨o,h1,j⟩⟩,nofun⟩|dv ks ds=>obtain⟨q,_,vs,rfl,h,_⟩:=g.dv l;cases f;obtain⟨o,h1,j⟩:=Ce I h;exact⟨⟨_,kitx_dict,⟨o,h1,j⟩⟩,nofun⟩
theorem LR(t:Ty):dm X (.builtin "isinstance") (λxs H Q=>∃x F f,xs=[x,.ty (Qg t)]/\aK F H/\di X.K F H x f/\Q (.bl (cg t f)) H):=by rintro h s σ H xs B Q I r⟨x,F,f,j,k,l,q⟩;subst j;obtain⟨u,o,rfl,w,rt⟩:=r.two;cases(show o=Value.type (Qg t)from rt);obtain⟨⟨C,Z,y⟩,g⟩:=RL I k l w;exact PySem.W.kia_one Z I.Km y (R6 _ t f) g λz=>⟨.bl _,H,I.tok z,rfl,q⟩
theorem Dl:bootBuiltins "isinstance"=some (.builtin "isinstance"):=by decide+kernel
theorem sE{y:Str}{f:Pos}(t:Ty)(w:x="isinstance")(z:Gl X x)(B:X.mg x=none)(C:SX X c a pa)(j:Gl X y)(l:X.mg y=none)(E:bootBuiltins y=some (.type (Qg t)))(o:y≠"__name__":=by decide)(q:(y==("__debug__":Str))=false:=by decide)(hs:starEach [a,.Name y f] X.env=(false,eval a X.env)::starEach [.Name y f] X.env:=by rfl):SX X c (.Call (.Name x p') [a,.Name y f] [] pos) (.inst [t] pa):=by subst w;obtain⟨U,h1,G⟩:=C.fP;refine⟨gh (dW (LR t) z B Dl (dq h1 (dq (Gk (v:=.ty (Qg t)) j l E rfl o q) iD) hs) (he:=hs)) ?_,λi h=>by cases h⟩;rintro σ H Q⟨F,ρ,r,I,g,e,k⟩;rw[HH.E18]at e;obtain⟨J,L,M,e⟩:=ao e;cases e;refine G g M λv u N s O=>⟨v,u,J,rfl,s.gs.sub,O,k _ u N s ?_⟩;show Rep X.K u _ _;rw[any_cons,List.any_nil,Bool.or_false];exact fj _
inductive Wn(K:PySem.W.Frag)(f:List D->Option R)(xs:List V)(H:Hp)(Q:VK):Prop where|mk(F:Hp)(ds:List D)(r:R)(sm:aK F H)(rs:aF K F xs ds)(he:f ds=some r)(k:∀v F' H',Ext F H F' H'->cA K F' H' H v r->Q v H')
theorem Jg{E:Expr}{f:List D->Option R}{q:P}(o:∀{t},PA X es t->PE X E (U7 (Wn X.K f) t))(u:SA X c es ps)(y:∀ρ,HH.ev c q ρ=(evs c ps ρ).bind λds ρ=>lift (f ds) ρ)(z:isVar q=none):SX X c E q:=by refine⟨gh (o u.1) ?_,λi h=>by rw[z]at h;cases h⟩;rintro σ H Q⟨F,ρ,r,B,g,e,k⟩;rw[y]at e;obtain⟨ds,l,C,j⟩:=ao e;have G:=aJ j;clear j;obtain⟨j,I⟩:=G;subst I;exact⟨F,ρ,ds,l,g,C,λvs J U s L=>⟨J,ds,r,s.gs.sub,L,j,λw M N x O=>k w M N (s.trans (x.stp s.gs)) (.later s (O.pK s.gs))⟩⟩
theorem Im{xs:List V}{i j:Int}(h:aF K F xs [.int i,.int j]):xs=[.int i,.int j]:=by obtain⟨v,r,rfl,h1,g⟩:=h.cz;obtain⟨u,l,rfl,f,k⟩:=g.cz;rw[Rep]at h1 f;rw[h1,f,k.eV]
theorem inv2{f:Ur}{g:Int->Int->Int}{r:R}(h0:blt f []=none)(h1:∀a,blt f [a]=none)(o:∀a b c l,blt f (a::b::c::l)=none)(q:∀a b,cI a=false->blt f [a,b]=none)(t:∀i b,cI b=false->blt f [.int i,b]=none)(hi:∀i j,blt f [.int i,.int j]=some (.val (.int (g i j))))(he:blt f ds=some r):∃i j,ds=[.int i,.int j]/\r=.val (.int (g i j)):=by
 rcases ds with _|⟨a,_|⟨b,_|⟨c,l⟩⟩⟩;.rw[h0]at he;cases he
 .rw[h1]at he;cases he
 . by_cases h:cI a=true
   . obtain⟨i,rfl⟩:∃i,a=.int i:=by cases a<;>first|exact⟨_,rfl⟩|cases h
     by_cases k:cI b=true
     . obtain⟨j,rfl⟩:∃j,b=.int j:=by cases b<;>first|exact⟨_,rfl⟩|cases k
       rw[hi]at he;cases he;exact⟨i,j,rfl,rfl⟩
     .rw[t i b (by simpa using k)]at he;cases he
   .rw[q a b (by simpa using h)]at he;cases he
 .rw[o]at he;cases he
theorem JX(hc:X.calm=true):dm X (.builtin "min") (Wn X.K (blt .min2)):=by rintro f s σ H xs o Q I r⟨F,ds,r',q,t,he,k⟩;obtain⟨i,j,rfl,rfl⟩:=inv2 (g:=λi j=>if j<i then j else i) rfl (λa=>by cases a<;>rfl) (λa b c l=>by cases a<;>first|rfl|(cases b<;>rfl)) (λa b h=>by cases a<;>first|rfl|cases h) (λi b h=>by cases b<;>first|rfl|cases h) (λ_ _=>rfl) he;rw[Im t]at r;exact yp hc f s σ H _ o Q I r ⟨_,_,rfl,cA.dw q (cV _) k⟩
theorem Ju(hc:X.calm=true):dm X (.builtin "max") (Wn X.K (blt .max2)):=by rintro f s σ H xs o Q I r⟨F,ds,r',q,t,he,k⟩;obtain⟨i,j,rfl,rfl⟩:=inv2 (g:=λi j=>if i<j then j else i) rfl (λa=>by cases a<;>rfl) (λa b c l=>by cases a<;>first|rfl|(cases b<;>rfl)) (λa b h=>by cases a<;>first|rfl|cases h) (λi b h=>by cases b<;>first|rfl|cases h) (λ_ _=>rfl) he;rw[Im t]at r;exact yD hc f s σ H _ o Q I r ⟨_,_,rfl,cA.dw q (cV _) k⟩
theorem boot_min:bootBuiltins "min"=some (.builtin "min"):=by decide+kernel
theorem boot_max:bootBuiltins "max"=some (.builtin "max"):=by decide+kernel
theorem mU(f:x="min")(hc:X.calm=true)(g:Gl X x)(j:X.mg x=none)(k:SA X c [a,b] [pa,pb])(hs:starEach [a,b] X.env=(false,eval a X.env)::starEach [b] X.env:=by rfl)(hpl:(backTo pos (starEach [b] X.env)).any (·.1)=false:=by rfl):SX X c (.Call (.Name x p') [a,b] [] pos) (.blt .min2 [pa,pb]):=by subst f;exact Jg (λh=>dW (JX hc) g j boot_min h (he:=hs) (hpl:=hpl)) k (λρ=>rfl) rfl
theorem Hl(f:x="max")(hc:X.calm=true)(g:Gl X x)(j:X.mg x=none)(k:SA X c [a,b] [pa,pb])(hs:starEach [a,b] X.env=(false,eval a X.env)::starEach [b] X.env:=by rfl)(hpl:(backTo pos (starEach [b] X.env)).any (·.1)=false:=by rfl):SX X c (.Call (.Name x p') [a,b] [] pos) (.blt .max2 [pa,pb]):=by subst f;exact Jg (λh=>dW (Ju hc) g j boot_max h (he:=hs) (hpl:=hpl)) k (λρ=>rfl) rfl
end
section
variable{X:Cx}{c:Call}{n:Nat}{e a b d:Expr}{p pa pb pd:P}{pos:Pos}{es:List Expr}{ps:List P}
theorem Fp(g:GS K F ρ σ H)(h:R0 ρ i=some ds):∃a xs,σ[i]?=some (some (V.ref a))/\gb K H a xs:=by
 unfold R0 at h;split at h;.rename_i q;cases h;obtain⟨v,h1,f⟩:=g.pk q;obtain⟨a,xs,rfl,j,_⟩:=f.lst g.sub;exact⟨a,xs,h1,j⟩
 .cases h
theorem Gf{k:Nat}{h f:Pos}(J:X.N[k]?=some x)(L:Be X.env.scope x)(hi:SX X c b pb)(he:SX X c e p)(M:∀ v,assign (.Subscript (.Name x h) b f) X.env v=(do
  let l<-holding [v] (eval (.Name x h) X.env)let u<-holding [v,l] (eval b X.env)standAt f
  holding [v,l,u] (setItem l u v)release [v,l,u] []):=by intro _;rfl)(hs:swapsWithSole [.Subscript (.Name x h) b f] e pos.line X.env=pure false:=by rfl)(hw:swappedStores [.Subscript (.Name x h) b f] e X.env=pure none:=by rfl)(h1:(assignEach [.Subscript (.Name x h) b f] X.env).map (·.2)=[assign (.Subscript (.Name x h) b f) X.env]:=by rfl)(hd:(x==("__debug__":Str))=false:=by decide)(w:(x==("__classdict__":Str))=false:=by decide):SS X c n (.Assign [.Subscript (.Name x h) b f] e pos) (.Hy k pb p):=by
 obtain⟨ti,y,z⟩:=hi.fP;refine ik (Bu he.ev (Mv (lB J L hd w) y set_list M) hs hw h1) ?_;rintro D σ H⟨F,ρ,fl,O,g,e,Q⟩;rw[HH.X8]at e;obtain⟨r,B,U,e⟩:=ao e;obtain⟨x0,E,t,e⟩:=ao e;have W:=aJ t;clear t;obtain⟨t,Y⟩:=W;subst Y;obtain⟨dk,Z,e2,e⟩:=ao e;refine⟨F,ρ,r,B,g,U,λv F1 H1 s1 rr=>?_⟩;obtain⟨F2,s2,_,rp⟩:=s1.eG rr;obtain⟨o,ho,_⟩:=s2.gs.pk t;refine⟨o,ho,z s2.gs e2 λvi F3 H3 s3 pi=>?_⟩;split at e
 . rename_i bb ds C q;split at e;.rename_i j hj;cases e;obtain⟨ad,xs,G,q2,q3,I⟩:=s3.gs.qH k _ ds q rfl;rw[ho]at G;cases G;refine⟨ad,xs,C,j,rfl,pi.int,q2,by rw[I.length];exact hj,?_⟩;exact Q F3 σ _ ((s2.trans s3).trans (s3.gs.mut q ho (I.set (rp.mono s3.cW) j)))
   .cases e
 .cases e
theorem bG{k:Nat}{o h f:Pos}(G:X.N[k]?=some x)(I:Be X.env.scope x)(he:SX X c e p)(j:(h.endLine==f.line)=true:=by rfl)(hs:starEach [e] X.env=(false,eval e X.env)::starEach [] X.env:=by rfl)(l:attributeBase (.Name x o) "append" X.env (eval (.Name x o) X.env)=eval (.Name x o) X.env:=by rfl)(t:((backTo f (starEach [e] X.env)).all (λx=>!x.1)&&(backToKw f (keywordEach [] X.env)).all (λx=>x.1.isSome)&&decide ([e].length+([]:List Keyword).length+(if([]:List Keyword).isEmpty then 0 else 1)<30))=true:=by rfl)(w:swapsWith (.Call (.Attribute (.Name x o) "append" h) [e] [] f) none pos.line X.env=pure false:=by rfl)(hd:(x==("__debug__":Str))=false:=by decide)(y:(x==("__classdict__":Str))=false:=by decide):SS X c n (.Expr (.Call (.Attribute (.Name x o) "append" h) [e] [] f) pos) (.app k p):=by
 refine ik (Ht (QC PySem.F.plainAttrs_list PySem.F.slot_list_append PySem.F.type_list_append qC (lB G I hd y) (dq he.ev iD hs) l t j hs) w) ?_;rintro D σ H⟨F,ρ,fl,J,g,e,L⟩;rw[HH.X9]at e;obtain⟨d0,M,u,e⟩:=ao e;have O:=aJ u;clear u;obtain⟨u,Q⟩:=O;subst Q;obtain⟨r,z,U,e⟩:=ao e;obtain⟨a,xs,h1,W⟩:=Fp g u;refine⟨.ref a,h1,.inl ⟨rfl,xs,W⟩,F,ρ,r,z,g,U,λv F1 H1 s1 Y=>?_⟩;obtain⟨Z,s2,_,rp⟩:=s1.eG Y;split at e
 . rename_i bb ds q;split at e;.rename_i B;cases e;obtain⟨ad,ys,C,q2,q3,E⟩:=s2.gs.qH k _ ds q rfl;rw[h1]at C;cases C;exact⟨_,ys,v,rfl,rfl,q2,by rw[E.length];exact B,L Z σ _ (s2.trans (s2.gs.mut q h1 (E.append (.cons rp .nil))))⟩
   .cases e
 .cases e
theorem Ai{bs:List Bool}(h:ds.mapM uU=some bs):ds=bs.map D.bl:=by induction ds generalizing bs with|nil=>simp at h;subst h;rfl|cons d ds f=>rw[mapM_cons]at h;cases hd:uU d with|none=>rw[hd]at h;cases h|some k=>rw[hd]at h;cases hr:ds.mapM uU with|none=>rw[hr]at h;cases h|some r=>rw[hr]at h;cases h;rw[map_cons,<-f hr,jT hd]
theorem xZ{K:PySem.W.Frag}{F:Hp}:∀{bs:List Bool}{xs:List V},aF K F xs (bs.map D.bl)->xs=bs.map V.bl|[],_,h=>h.eV|k::bs,_,h=>by obtain⟨v,r,rfl,h1,f⟩:=h.cz;rw[Rep]at h1;rw[h1,xZ f];rfl
theorem xO:∀{bs:List Bool}{f:List Value},Vals (bs.map V.bl) f->f=bs.map Value.bool|[],_,h=>h.zero|k::bs,_,.cons r t=>by rw[map_cons,<-xO t,show _=_ from r]
theorem Ge{id:String}{f:List Bool->Bool}(hc:X.calm=true)(rule:∀{x:Value}{Q:Value->Shared->Prop}{s:Shared},wpAny (model X.prog X.w) X.A.in1 (pyIter x) (λit g=>∃ I G t n P St y,it=.ref I/\Walks X.prog X.w X.A.in1 I G t n P St/\St 0 g.heap/\TruthOf X.prog X.w X.A.in1 P y/\∀h' B,(∀b o,b∉t->g.heap.get? b=some o->h'.get? b=some o)->Q (.bool (f ((List.range n).map y))) {g with heap:=h',toks:=B}) X.xe s->wpAny (model X.prog X.w) X.A (call (.builtin id) [x]) Q X.xe s):dm X (.builtin id) (λxs H Q=>∃p ys bs,xs=[.ref p]/\gb X.K H p ys/\ys=bs.map V.bl/\Q (.bl (f bs)) H):=by
 rintro C s σ H xs us Q I r⟨p,ys,bs,J,L,M,k⟩;subst J;subst M;obtain⟨u,rfl,N⟩:=r.one;cases N;obtain⟨O,U,l,hz⟩:=I.list L;have h:=xO U;subst h;refine rule (wpAny_pyIter_list l.isList ?_);have q:p≠s.heap.objs.size:=by obtain⟨o,h1,_⟩:=l.isList;exact ne_of_lt (lt_size h1)
 refine⟨s.heap.objs.size,_,_,_,_,_,λi=>bs.getD i false,rfl,Walks.list (prog:=X.prog) (w:=X.w) (A:=X.A.in1) (show X.A.in1.handled=none from I.ok.hd hc) s.heap.objs.size p q (bs.map Value.bool).toArray,⟨⟨_,get?_push_size _ rfl,rfl,rfl⟩,?_⟩,?_,λh' B kp=>?_⟩;.obtain⟨o,h1,E⟩:=l.isList;exact⟨o,iG h1,E⟩
 . intro i v s' Q' E' j W;have Y:v=.bool (bs.getD i false):=by
    have j:(bs.map Value.bool)[i]?=some v:=by simpa using j
    rw[getElem?_map]at j;obtain⟨k',Z,e2⟩:=map_some j;rw[<-e2,getD_eq_getElem?_getD,Z];rfl
   subst Y;exact wpAny_truthy_bool W
 . have e:f ((List.range (bs.map Value.bool).toArray.size).map λi=>bs.getD i false)=f bs:=by
    congr 1;apply List.ext_getElem;.simp
    .intro i h1 E;simp at h1;simp[h1]
   rw[e];exact⟨.bl _,H,I.kept (λb o z=>kp b o (by simp;exact ne_of_lt (lt_size z)) (iG z)),rfl,k⟩
theorem S7(hc:X.calm=true):dm X (.builtin "all") (El X.K λx=>blt .all [x]):=by rintro g s σ H xs t Q I r⟨x,u,F,d,r',j,w,he,k⟩;obtain⟨bs,y,he⟩:=map_some (show((oX d).bind λds=>ds.mapM uU).map _=some r' from he);subst he;obtain⟨ds,l,B⟩:=fB y;have C:=Ai B;cases d with|lst es=>cases l;obtain⟨p,ys,rfl,E,o⟩:=w.lst j;rw[C]at o;refine Ge (f:=λbs=>bs.all id) hc (λh=>call_all_walk (wpAny_mono h (λit q⟨I,fp,wr,n,P,Sx,tr,h1,h2,h3,h4,h5⟩=>⟨I,fp,wr,n,P,Sx,tr,h1,h2,h3,h4,λh' G kp=>?_⟩) λ_ _ z=>z)) g s σ H xs t Q I r ⟨p,ys,bs,u,E,xZ o,cA.dw j (fj _) k⟩;have z:=h5 h' G kp;rw[all_map]at z;exact z|_=>cases l
theorem boot_all:bootBuiltins "all"=some (.builtin "all"):=by decide+kernel
theorem rN(f:x="all")(hc:X.calm=true)(g:Gl X x)(j:X.mg x=none)(k:SX X c a pa)(hs:starEach [a] X.env=(false,eval a X.env)::starEach [] X.env:=by rfl):SX X c (.Call (.Name x p') [a] [] pos) (.blt .all [pa]):=by subst f;exact lN (λh=>dW (S7 hc) g j boot_all h (he:=hs)) k (λρ=>rfl) rfl hs
end
section
variable{K:PySem.W.Frag}
theorem iJ:∀{xs ys:List D},xs.length≠ys.length->gD xs ys=false|[],[],h=>absurd rfl h|[],_::_,_=>by simp[jw,gK,m9,m5]|_::_,[],_=>by simp[jw,gK,m9,m5]|x::xs,y::ys,h=>by rw[gK,iJ (xs:=xs) (ys:=ys) (by simpa using h),Bool.and_false]
theorem fC:∀{xs ys:List D},xs.length=ys.length->gD xs ys=(List.range xs.length).all λj=>jb (xs.getD j .non) (ys.getD j .non)|[],[],_=>by rw[jw];rfl|[],_::_,h=>by simp at h|_::_,[],h=>by simp at h|x::xs,y::ys,h=>by rw[gK,fC (xs:=xs) (ys:=ys) (by simpa using h),length_cons,List.range_succ_eq_map,all_cons,all_map];rfl
mutual
theorem uE:∀d:D,jb d d=true|.non=>rfl|.bl _=>by exact beq_self_eq_true _|.int _=>by exact beq_self_eq_true _|.str _=>by exact beq_self_eq_true _|.tup ds=>by exact iZ ds|.lst ds=>by exact iZ ds|.cX _=>by exact decide_eq_true rfl|.dv ks ds=>by show(decide (ks=ks)&&gD ds ds)=true;rw[iZ ds];simp
theorem iZ:∀ds:List D,gD ds ds=true|[]=>by rw[jw]|d::ds=>by rw[gK,uE d,iZ ds];rfl
end
theorem dU{d e:D}(b:flat d=true)(h1:Rep K F v d)(a:Rep K F v e):d=e:=by cases d with
 |tup _=>cases b|lst _=>cases b|cX _=>cases b|dv _ _=>cases b|non=>rw[Rep]at h1;subst h1;cases e with|non=>rfl|tup _=>rw[Rep]at a;obtain⟨_,_,q,_⟩:=a;cases q|lst _=>rw[Rep]at a;obtain⟨_,_,q,_⟩:=a;cases q|cX _=>rw[Rep]at a;obtain⟨_,_,q,_⟩:=a;cases q|dv _ _=>rw[Rep]at a;obtain⟨_,_,_,q,_⟩:=a;cases q|_=>rw[Rep]at a;cases a
 |bl k=>rw[Rep]at h1;subst h1;cases e with|bl _=>rw[Rep]at a;cases a;rfl|tup _=>rw[Rep]at a;obtain⟨_,_,q,_⟩:=a;cases q|lst _=>rw[Rep]at a;obtain⟨_,_,q,_⟩:=a;cases q|cX _=>rw[Rep]at a;obtain⟨_,_,q,_⟩:=a;cases q|dv _ _=>rw[Rep]at a;obtain⟨_,_,_,q,_⟩:=a;cases q|_=>rw[Rep]at a;cases a
 |int k=>rw[Rep]at h1;subst h1;cases e with|int _=>rw[Rep]at a;cases a;rfl|tup _=>rw[Rep]at a;obtain⟨_,_,q,_⟩:=a;cases q|lst _=>rw[Rep]at a;obtain⟨_,_,q,_⟩:=a;cases q|cX _=>rw[Rep]at a;obtain⟨_,_,q,_⟩:=a;cases q|dv _ _=>rw[Rep]at a;obtain⟨_,_,_,q,_⟩:=a;cases q|_=>rw[Rep]at a;cases a
 |str k=>rw[Rep]at h1;subst h1;cases e with|str _=>rw[Rep]at a;cases a;rfl|tup _=>rw[Rep]at a;obtain⟨_,_,q,_⟩:=a;cases q|lst _=>rw[Rep]at a;obtain⟨_,_,q,_⟩:=a;cases q|cX _=>rw[Rep]at a;obtain⟨_,_,q,_⟩:=a;cases q|dv _ _=>rw[Rep]at a;obtain⟨_,_,_,q,_⟩:=a;cases q|_=>rw[Rep]at a;cases a
theorem Gw{X:Cx}{z:List (Addr×Obj)}(I:L2.Inv X z σ H s)(l:aK F H):∀n:Nat,(∀d:D,gO n d=true->∀(v:V)(e:D),Rep X.K F v d->Rep X.K F v e->d=e):=by
 have U:∀{a:Addr}{xs ys:List V},jc X.K F a xs->gb X.K F a ys->False:=λ{a xs ys}h1 b=>by obtain⟨_,_,⟨o,p,t,_⟩,_⟩:=I.tuple (aK.eZ l h1);obtain⟨_,_,B,_⟩:=I.list (l.seq b);obtain⟨J,g,j,_⟩:=B.isList;rw[p]at g;cases g;rw[t]at j;exact absurd j (by decide)
 have W:∀{a:Addr}{f:Dc},Rep X.K F (.ref a) (.cX f)->∃o,s.heap.get? a=some o/\o.cls=.type "dict":=λ{a f}h=>by rw[Rep]at h;obtain⟨C,_,q,L⟩:=h;cases q;exact CK I (l _ _ L)
 have Y:∀{a:Addr}{xs:List V}{f:Dc},jc X.K F a xs->Rep X.K F (.ref a) (.cX f)->False:=λ{a xs f}h1 b=>by obtain⟨_,_,⟨o,p,t,_⟩,_⟩:=I.tuple (aK.eZ l h1);obtain⟨J,g,j⟩:=W b;rw[p]at g;cases g;rw[t]at j;exact absurd j (by decide)
 have ld:∀{a:Addr}{xs:List V}{f:Dc},gb X.K F a xs->Rep X.K F (.ref a) (.cX f)->False:=λ{a xs f}h1 b=>by obtain⟨_,_,B,_⟩:=I.list (l.seq h1);obtain⟨o,p,t,_⟩:=B.isList;obtain⟨J,g,j⟩:=W b;rw[p]at g;cases g;rw[t]at j;exact absurd j (by decide)
 have E:∀{a:Addr}{ks:List Int}{c:List D},Rep X.K F (.ref a) (.dv ks c)->∃o,s.heap.get? a=some o/\o.cls=.type "dict":=λ{a ks c}h=>by rw[Rep]at h;obtain⟨C,_,_,q,L,_⟩:=h;cases q;exact Ce I (l _ _ L)
 have M:∀{a:Addr}{xs:List V}{ks:List Int}{c:List D},jc X.K F a xs->Rep X.K F (.ref a) (.dv ks c)->False:=λ{a xs ks c}h1 b=>by obtain⟨_,_,⟨o,p,t,_⟩,_⟩:=I.tuple (aK.eZ l h1);obtain⟨J,g,j⟩:=E b;rw[p]at g;cases g;rw[t]at j;exact absurd j (by decide)
 have N:∀{a:Addr}{xs:List V}{ks:List Int}{c:List D},gb X.K F a xs->Rep X.K F (.ref a) (.dv ks c)->False:=λ{a xs ks c}h1 b=>by obtain⟨_,_,B,_⟩:=I.list (l.seq h1);obtain⟨o,p,t,_⟩:=B.isList;obtain⟨J,g,j⟩:=E b;rw[p]at g;cases g;rw[t]at j;exact absurd j (by decide)
 intro n;induction n with
 |zero=>intro d hd v e h1 b;cases d with|tup _=>simp[bA,bh,bC,bB,bF,bz]at hd|lst _=>simp[bA,bh,bC,bB,bF,bz]at hd|cX _=>simp[bA,bh,bC,bB,bF,bz]at hd|dv _ _=>simp[bA,bh,bC,bB,bF,bz]at hd|non=>exact dU rfl h1 b|bl k=>exact dU rfl h1 b|int k=>exact dU rfl h1 b|str k=>exact dU rfl h1 b
 |succ n Z=>
   have all:∀{xs:List V}{ds c:List D},ds.all (gO n)=true->aF X.K F xs ds->aF X.K F xs c->ds=c:=λ{xs ds}=>by induction ds generalizing xs with|nil=>intro c _ h1 b;rw[h1.eV]at b;have:=b.length;exact(List.eq_nil_of_length_eq_zero this.symm).symm|cons d ds O=>intro c w h1 b;rw[all_cons,and_eq_true]at w;obtain⟨v,r,rfl,p,t⟩:=h1.cz;cases c with|nil=>cases b.eV|cons e c=>obtain⟨v',r',q0,g,j⟩:=b.cz;cases q0;rw[Z d w.1 v e p g,O w.2 t j]
   intro d hd v e h1 b;cases d with
   |cX _=>simp[bA,bh,bC,bB,bF,bz]at hd|dv _ _=>simp[bA,bh,bC,bB,bF,bz]at hd|tup ds=>
     have w:ds.all (gO n)=true:=by simpa[bA,bh,bC,bB,bF,bz]using hd
     rw[Rep]at h1;obtain⟨a,xs,rfl,u,Q⟩:=h1;cases e with|tup c=>rw[Rep]at b;obtain⟨C,ys,q,y,G⟩:=b;cases q;have:=I.kJ (aK.eZ l u) (aK.eZ l y);subst this;rw[all w Q G]|lst c=>rw[Rep]at b;obtain⟨C,ys,q,y,G⟩:=b;cases q;exact(U u y).elim|cX _=>exact(Y u b).elim|dv _ _=>exact(M u b).elim|_=>rw[Rep]at b;cases b
   |lst ds=>
     have w:ds.all (gO n)=true:=by simpa[bA,bh,bC,bB,bF,bz]using hd
     rw[Rep]at h1;obtain⟨a,xs,rfl,u,Q⟩:=h1;cases e with|lst c=>rw[Rep]at b;obtain⟨C,ys,q,y,G⟩:=b;cases q;have:=I.mY (l.seq u) (l.seq y);subst this;rw[all w Q G]|tup c=>rw[Rep]at b;obtain⟨C,ys,q,y,G⟩:=b;cases q;exact(U y u).elim|cX _=>exact(ld u b).elim|dv _ _=>exact(N u b).elim|_=>rw[Rep]at b;cases b
   |non=>exact dU rfl h1 b|bl k=>exact dU rfl h1 b|int k=>exact dU rfl h1 b|str k=>exact dU rfl h1 b
theorem yf{d e:D}{u:V}{c:Value}(hd:flat d=true)(he:flat e=true)(h1:Rep K F v d)(a:Rep K F u e)(f:RelV v c)(b:RelV u u'):SeqAt.EqAt A s c u' (jb d e):=by cases d with
 |tup _=>cases hd|lst _=>cases hd|cX _=>cases hd|dv _ _=>cases hd|non=>rw[Rep]at h1;subst h1;cases(show c=.none from f);cases e with|tup _=>cases he|lst _=>cases he|cX _=>cases he|dv _ _=>cases he|non=>rw[Rep]at a;subst a;cases(show u'=.none from b);exact SeqAt.EqAt.same _|bl _=>rw[Rep]at a;subst a;cases(show u'=.bool _ from b);exact SeqAt.EqAt.none_bool _|int _=>rw[Rep]at a;subst a;obtain⟨t,rfl⟩:=b;exact SeqAt.EqAt.none_int _ _|str _=>rw[Rep]at a;subst a;obtain⟨t,rfl⟩:=b;exact SeqAt.EqAt.none_str _ _
 |bl _=>rw[Rep]at h1;subst h1;cases(show c=.bool _ from f);cases e with|tup _=>cases he|lst _=>cases he|cX _=>cases he|dv _ _=>cases he|non=>rw[Rep]at a;subst a;cases(show u'=.none from b);exact SeqAt.EqAt.bool_none _|bl _=>rw[Rep]at a;subst a;cases(show u'=.bool _ from b);exact SeqAt.EqAt.bool_bool _ _|int _=>rw[Rep]at a;subst a;obtain⟨t,rfl⟩:=b;exact SeqAt.EqAt.bool_int _ _ _|str _=>rw[Rep]at a;subst a;obtain⟨t,rfl⟩:=b;exact SeqAt.EqAt.bool_str _ _ _
 |int _=>rw[Rep]at h1;subst h1;obtain⟨t0,rfl⟩:=f;cases e with|tup _=>cases he|lst _=>cases he|cX _=>cases he|dv _ _=>cases he|non=>rw[Rep]at a;subst a;cases(show u'=.none from b);exact SeqAt.EqAt.int_none _ _|bl _=>rw[Rep]at a;subst a;cases(show u'=.bool _ from b);exact SeqAt.EqAt.int_bool _ _ _|int _=>rw[Rep]at a;subst a;obtain⟨t,rfl⟩:=b;exact SeqAt.EqAt.int_int _ _ _ _|str _=>rw[Rep]at a;subst a;obtain⟨t,rfl⟩:=b;exact int_str _ _ _ _
 |str _=>rw[Rep]at h1;subst h1;obtain⟨t0,rfl⟩:=f;cases e with|tup _=>cases he|lst _=>cases he|cX _=>cases he|dv _ _=>cases he|non=>rw[Rep]at a;subst a;cases(show u'=.none from b);exact SeqAt.EqAt.str_none _ _|bl _=>rw[Rep]at a;subst a;cases(show u'=.bool _ from b);exact SeqAt.EqAt.str_bool _ _ _|int _=>rw[Rep]at a;subst a;obtain⟨t,rfl⟩:=b;exact str_int _ _ _ _|str _=>rw[Rep]at a;subst a;obtain⟨t,rfl⟩:=b;exact SeqAt.EqAt.str_str _ _ _ _
theorem jX{e:D}{u:V}{a:Addr}{h:Array Value}(b:s.heap.IsTuple a h)(c:A.units<cLine)(he:flat e=true)(f:Rep K F u e)(g:RelV u u'):SeqAt.EqAt A s (.ref a) u' (jb (.tup ds) e)/\SeqAt.EqAt A s u' (.ref a) (jb e (.tup ds)):=by cases e with|tup _=>cases he|lst _=>cases he|cX _=>cases he|dv _ _=>cases he|non=>rw[Rep]at f;subst f;cases(show u'=.none from g);exact⟨SeqAt.EqAt.tuple_none b c,SeqAt.EqAt.none_tuple b c⟩|bl _=>rw[Rep]at f;subst f;cases(show u'=.bool _ from g);exact⟨SeqAt.EqAt.tuple_bool _ b c,SeqAt.EqAt.bool_tuple _ b c⟩|int _=>rw[Rep]at f;subst f;obtain⟨t,rfl⟩:=g;exact⟨SeqAt.EqAt.tuple_int _ _ b c,SeqAt.EqAt.int_tuple _ _ b c⟩|str _=>rw[Rep]at f;subst f;obtain⟨t,rfl⟩:=g;exact⟨SeqAt.EqAt.tuple_str _ _ b c,SeqAt.EqAt.str_tuple _ _ b c⟩
theorem jK{e:D}{u:V}{a:Addr}{h:Array Value}(b:s.heap.IsList a h)(c:A.units<cLine)(he:flat e=true)(f:Rep K F u e)(g:RelV u u'):SeqAt.EqAt A s (.ref a) u' (jb (.lst ds) e)/\SeqAt.EqAt A s u' (.ref a) (jb e (.lst ds)):=by cases e with|tup _=>cases he|lst _=>cases he|cX _=>cases he|dv _ _=>cases he|non=>rw[Rep]at f;subst f;cases(show u'=.none from g);exact⟨SeqAt.EqAt.list_none b c,SeqAt.EqAt.none_list b c⟩|bl _=>rw[Rep]at f;subst f;cases(show u'=.bool _ from g);exact⟨SeqAt.EqAt.list_bool _ b c,SeqAt.EqAt.bool_list _ b c⟩|int _=>rw[Rep]at f;subst f;obtain⟨t,rfl⟩:=g;exact⟨SeqAt.EqAt.list_int _ _ b c,SeqAt.EqAt.int_list _ _ b c⟩|str _=>rw[Rep]at f;subst f;obtain⟨t,rfl⟩:=g;exact⟨SeqAt.EqAt.list_str _ _ b c,SeqAt.EqAt.str_list _ _ b c⟩
theorem tM{n:Nat}{d:D}(h:gO n d=true)(h0:n=0):flat d=true:=by subst h0;cases d<;>first|rfl|simp[bA,bh,bC,bB,bF,bz]at h
theorem Yn{X:Cx}{U:List (Addr×Obj)}(I:L2.Inv X U σ H s)(C:aK F H):∀(n:Nat)(A:Around),A.units+n<cLine->∀(d e:D),gO n d=true->gO n e=true->∀(v u:V)(W u':Value),Rep X.K F v d->Rep X.K F u e->RelV v W->RelV u u'->SeqAt.EqAt A s W u' (jb d e):=by intro n;induction n with|zero=>intro A hu d e hd he v u W u' h1 g L h;exact yf (tM hd rfl) (tM he rfl) h1 g L h|succ n ih=>
   intro A hu d e hd he v u W u' h1 g L h;have c:A.units<cLine:=by omega
   have ae:A.in1.units+n<cLine:=by show A.units+1+n<cLine;omega--items by place
   have Y:∀{xs ys:List V}{B o:List Value}{ds f:List D}{j:Nat}(M:j<B.toArray.size)(N:j<o.toArray.size),ds.all (gO n)=true->f.all (gO n)=true->Vals xs B->Vals ys o->aF X.K F xs ds->aF X.K F ys f->SeqAt.EqAt A.in1 s B.toArray[j] o.toArray[j] (jb (ds.getD j .non) (f.getD j .non)):=λ{xs ys B o ds f j}M N a1 a2 O p k l=>by
    have M:j<B.length:=by simpa using M
    have N:j<o.length:=by simpa using N
    have E:j<ds.length:=by rw[<-k.length,O.length];exact M
    have Q:j<f.length:=by rw[<-l.length,p.length];exact N
    obtain⟨x,g1,g2⟩:=k.get (show ds[j]?=some ds[j]by simp[E]);obtain⟨y,g3,g4⟩:=l.get (show f[j]?=some f[j]by simp[Q]);obtain⟨x',g5,g6⟩:=O.get g1;obtain⟨y',g7,g8⟩:=p.get g3;have e1:B.toArray[j]=x':=by have:=(gW g5).2;simpa using this
    have e2:o.toArray[j]=y':=by have:=(gW g7).2;simpa using this
    have e3:ds.getD j .non=ds[j]:=by simp[List.getD,E]
    have e4:f.getD j .non=f[j]:=by simp[List.getD,Q]
    rw[e1,e2,e3,e4];exact ih A.in1 ae _ _ (all_eq_true.mp a1 _ (getElem_mem E)) (all_eq_true.mp a2 _ (getElem_mem Q)) x y x' y' g2 g4 g6 g8--the same object
   have same:∀{a:Addr},v=.ref a->u=.ref a->SeqAt.EqAt A s W u' (jb d e):=λ{a}q1 q2=>by subst q1;subst q2;have:=Gw I C (n+1) d hd _ e h1 g;subst this;rw[uE];cases L;cases h;exact SeqAt.EqAt.same _
   cases d with
   |cX _=>simp[bA,bh,bC,bB,bF,bz]at hd|dv _ _=>simp[bA,bh,bC,bB,bF,bz]at hd|tup ds=>
     have ha:ds.all (gO n)=true:=by simpa[bA,bh,bC,bB,bF,bz]using hd
     have q:=h1;rw[Rep]at q;obtain⟨a,xs,rfl,z1,Z⟩:=q;cases L;obtain⟨B,O,k,_⟩:=I.tuple (aK.eZ C z1)
     cases e with|cX _=>simp[bA,bh,bC,bB,bF,bz]at he|dv _ _=>simp[bA,bh,bC,bB,bF,bz]at he|tup f=>
       have hb:f.all (gO n)=true:=by simpa[bA,bh,bC,bB,bF,bz]using he
       have r:=g;rw[Rep]at r;obtain⟨b,ys,rfl,t,G⟩:=r;by_cases w:a=b;.subst w;exact same rfl rfl
       . cases h;obtain⟨o,p,l,_⟩:=I.tuple (aK.eZ C t);refine .of_refs w ?_;have z:=SeqAt.RcAt.tuples (A:=A) (e:=λj=>jb (ds.getD j .non) (f.getD j .non)) k l c λj M N=>Y M N ha hb O p Z G;have E:B.toArray.size=ds.length:=by rw[size_toArray,<-O.length,Z.length]
         have Q:o.toArray.size=f.length:=by rw[size_toArray,<-p.length,G.length]
         rw[E,Q]at z;have e0:jb (.tup ds) (.tup f)=((List.range (min ds.length f.length)).all (λj=>jb (ds.getD j .non) (f.getD j .non))&&ds.length==f.length):=by
          rw[ZV];by_cases J:ds.length=f.length;.rw[fC J,J];simp
          . rw[iJ J];have:(ds.length==f.length)=false:=by simpa using J
            rw[this,Bool.and_false]
         rw[e0];exact z|lst f=>rw[Rep]at g;obtain⟨b,ys,rfl,t,G⟩:=g;cases h;obtain⟨o,p,l,_⟩:=I.list (C.seq t);exact SeqAt.EqAt.tuple_list k l.isList c|non=>exact(jX k c rfl g h).1|bl _=>exact(jX k c rfl g h).1|int _=>exact(jX k c rfl g h).1|str _=>exact(jX k c rfl g h).1
   |lst ds=>
     have ha:ds.all (gO n)=true:=by simpa[bA,bh,bC,bB,bF,bz]using hd
     have q:=h1;rw[Rep]at q
     obtain⟨a,xs,rfl,z1,Z⟩:=q;cases L;obtain⟨B,O,k,_⟩:=I.list (C.seq z1);cases e with|cX _=>simp[bA,bh,bC,bB,bF,bz]at he|dv _ _=>simp[bA,bh,bC,bB,bF,bz]at he|lst f=>
       have hb:f.all (gO n)=true:=by simpa[bA,bh,bC,bB,bF,bz]using he
       have r:=g;rw[Rep]at r;obtain⟨b,ys,rfl,t,G⟩:=r;by_cases w:a=b;.subst w;exact same rfl rfl
       . cases h;obtain⟨o,p,l,_⟩:=I.list (C.seq t);refine .of_refs w ?_;have E:B.toArray.size=ds.length:=by rw[size_toArray,<-O.length,Z.length]
         have Q:o.toArray.size=f.length:=by rw[size_toArray,<-p.length,G.length]
         rw[Uo];by_cases J:ds.length=f.length;.have z:=SeqAt.RcAt.lists (A:=A) (e:=λj=>jb (ds.getD j .non) (f.getD j .non)) k.isList l.isList (by rw[E,Q,J]) c λj M N=>Y M N ha hb O p Z G;rw[E]at z;rw[fC J];exact z
         .rw[iJ J];exact lists_lengths k.isList l.isList (by rw[E,Q];simpa using J) c|tup f=>rw[Rep]at g;obtain⟨b,ys,rfl,t,G⟩:=g;cases h;obtain⟨o,p,l,_⟩:=I.tuple (aK.eZ C t);exact SeqAt.EqAt.list_tuple k.isList l c|non=>exact(jK k.isList c rfl g h).1|bl _=>exact(jK k.isList c rfl g h).1|int _=>exact(jK k.isList c rfl g h).1|str _=>exact(jK k.isList c rfl g h).1
   |non|bl _|int _|str _=>cases e with|cX _=>simp[bA,bh,bC,bB,bF,bz]at he|dv _ _=>simp[bA,bh,bC,bB,bF,bz]at he|tup f=>rw[Rep]at g;obtain⟨b,ys,rfl,t,G⟩:=g;cases h;obtain⟨o,p,l,_⟩:=I.tuple (aK.eZ C t);exact(jX l c rfl h1 L).2|lst f=>rw[Rep]at g;obtain⟨b,ys,rfl,t,G⟩:=g;cases h;obtain⟨o,p,l,_⟩:=I.list (C.seq t);exact(jK l.isList c rfl h1 L).2|_=>exact yf rfl rfl h1 g L h
end
section
variable{X:Cx}{pins:List (Addr×Obj)}{σ:L2.St}{H F:Hp}{s:Shared}{A:Around}
abbrev RC(A:Around)(s:Shared)(v u:Value)(k:Bool):Prop:=SeqAt.RcAt A s v u k/\SeqAt.RcNeAt A s v u (!k)
inductive Top(X:Cx)(F H:Hp)(s:Shared):Value->D->Prop where|non:Top X F H s .none .non|bl(b:Bool):Top X F H s (.bool b) (.bl b)|int(i:Int)(t:Tok):Top X F H s (.int i t) (.int i)|str(x:Str)(t:Tok):Top X F H s (.str x t) (.str x)|tup{a:Addr}{us:List Value}{xs:List V}{ds:List D}(ht:s.heap.IsTuple a us.toArray)(hv:Vals xs us)(hr:aF X.K F xs ds):Top X F H s (.ref a) (.tup ds)|lst{a:Addr}{us:List Value}{xs:List V}{ds:List D}(ht:s.heap.IsList a us.toArray)(hv:Vals xs us)(hr:aF X.K F xs ds):Top X F H s (.ref a) (.lst ds)
theorem qI(I:L2.Inv X pins σ H s)(g:aK F H){j:Value}{d:D}(hd:gO 8 d=true)(h:di X.K F H v d)(r:RelV v j):Top X F H s j d:=by cases d with|cX _=>simp[bA,bh,bC,bB,bF,bz]at hd|dv _ _=>simp[bA,bh,bC,bB,bF,bz]at hd|non=>rw[h.non]at r;cases r;exact .non|bl b=>rw[h.bl]at r;cases r;exact .bl b|int i=>rw[h.int]at r;obtain⟨t,rfl⟩:=r;exact .int i t|str x=>rw[h.str]at r;obtain⟨t,rfl⟩:=r;exact .str x t|tup ds=>obtain⟨a,xs,rfl,h1,c,_⟩:=h.tup g;cases r;obtain⟨k,e,f,_⟩:=I.tuple h1;exact .tup f e c|lst ds=>obtain⟨a,xs,rfl,h1,c⟩:=h.lst g;cases r;obtain⟨k,e,f,_⟩:=I.list h1;exact .lst f.isList e c
theorem Td(I:L2.Inv X pins σ H s)(sm:aK F H){n:Nat}(hu:A.units+(n+1)<cLine){d e:D}(hd:gO (n+1) d=true)(he:gO (n+1) e=true){O:Value}(h1:Top X F H s O d)(E:Top X F H s u' e):RC A s O u' (jb d e):=by
 have c:A.units<cLine:=by omega
 have N:A.in1.units+n<cLine:=by show A.units+1+n<cLine;omega
 have B:∀{xs ys:List V}{u w:List Value}{ds g:List D}{j:Nat}(o:j<u.toArray.size)(p:j<w.toArray.size),ds.all (gO n)=true->g.all (gO n)=true->Vals xs u->Vals ys w->aF X.K F xs ds->aF X.K F ys g->SeqAt.EqAt A.in1 s u.toArray[j] w.toArray[j] (jb (ds.getD j .non) (g.getD j .non)):=λ{xs ys u w ds g j}o p a1 a2 Q U W Y=>by
  have o:j<u.length:=by simpa using o
  have p:j<w.length:=by simpa using p
  have q:j<ds.length:=by rw[<-W.length,Q.length];exact o
  have z:j<g.length:=by rw[<-Y.length,U.length];exact p
  obtain⟨x,g1,g2⟩:=W.get (show ds[j]?=some ds[j]by simp[q]);obtain⟨y,g3,g4⟩:=Y.get (show g[j]?=some g[j]by simp[z]);obtain⟨Z,g5,g6⟩:=Q.get g1;obtain⟨y',g7,g8⟩:=U.get g3;have e1:u.toArray[j]=Z:=by have:=(gW g5).2;simpa using this
  have e2:w.toArray[j]=y':=by have:=(gW g7).2;simpa using this
  have e3:ds.getD j .non=ds[j]:=by simp[List.getD,q]
  have e4:g.getD j .non=g[j]:=by simp[List.getD,z]
  rw[e1,e2,e3,e4];exact Yn I sm n A.in1 N _ _ (all_eq_true.mp a1 _ (getElem_mem q)) (all_eq_true.mp a2 _ (getElem_mem z)) x y Z y' g2 g4 g6 g8
 cases h1 with
 |non=>cases E with|non=>exact⟨SeqAt.RcAt.none_none,SeqAt.RcNeAt.none_none⟩|bl b=>exact⟨SeqAt.RcAt.none_bool _,SeqAt.RcNeAt.none_bool _⟩|int i t=>exact⟨SeqAt.RcAt.none_int _ _,none_int _ _⟩|str i t=>exact⟨SeqAt.RcAt.none_str _ _,none_str _ _⟩|tup f _ _=>exact⟨SeqAt.RcAt.none_tuple f c,SeqAt.RcNeAt.none_tuple f c⟩|lst f _ _=>exact⟨SeqAt.RcAt.none_list f c,SeqAt.RcNeAt.none_list f c⟩
 |bl b0=>cases E with|non=>exact⟨SeqAt.RcAt.bool_none _,SeqAt.RcNeAt.bool_none _⟩|bl b=>exact⟨SeqAt.RcAt.bool_bool _ _,SeqAt.RcNeAt.bool_bool _ _⟩|int i t=>exact⟨SeqAt.RcAt.bool_int _ _ _,bool_int _ _ _⟩|str i t=>exact⟨SeqAt.RcAt.bool_str _ _ _,bool_str _ _ _⟩|tup f _ _=>exact⟨SeqAt.RcAt.bool_tuple _ f c,SeqAt.RcNeAt.bool_tuple _ f c⟩|lst f _ _=>exact⟨SeqAt.RcAt.bool_list _ f c,SeqAt.RcNeAt.bool_list _ f c⟩
 |int i0 t0=>cases E with|non=>exact⟨SeqAt.RcAt.int_none _ _,int_none _ _⟩|bl b=>exact⟨SeqAt.RcAt.int_bool _ _ _,int_bool _ _ _⟩|int i t=>exact⟨SeqAt.RcAt.int_int _ _ _ _,int_int _ _ _ _⟩|str i t=>exact⟨SeqAt.RcAt.int_str _ _ _ _,SeqAt.RcNeAt.int_str _ _ _ _⟩|tup f _ _=>exact⟨SeqAt.RcAt.int_tuple _ _ f c,SeqAt.RcNeAt.int_tuple _ _ f c⟩|lst f _ _=>exact⟨SeqAt.RcAt.int_list _ _ f c,int_list _ _ f c⟩
 |str i0 t0=>cases E with|non=>exact⟨SeqAt.RcAt.str_none _ _,str_none _ _⟩|bl b=>exact⟨SeqAt.RcAt.str_bool _ _ _,str_bool _ _ _⟩|int i t=>exact⟨SeqAt.RcAt.str_int _ _ _ _,SeqAt.RcNeAt.str_int _ _ _ _⟩|str i t=>exact⟨SeqAt.RcAt.str_str _ _ _ _,str_str _ _ _ _⟩|tup f _ _=>exact⟨SeqAt.RcAt.str_tuple _ _ f c,SeqAt.RcNeAt.str_tuple _ _ f c⟩|lst f _ _=>exact⟨SeqAt.RcAt.str_list _ _ f c,str_list _ _ f c⟩
 |@tup a u xs ds f C hr=>
   have G:ds.all (gO n)=true:=by simpa[bA,bh,bC,bB,bF,bz]using hd
   cases E with|non=>exact⟨SeqAt.RcAt.tuple_none f c,SeqAt.RcNeAt.tuple_none f c⟩|bl b=>exact⟨SeqAt.RcAt.tuple_bool _ f c,SeqAt.RcNeAt.tuple_bool _ f c⟩|int i t=>exact⟨SeqAt.RcAt.tuple_int _ _ f c,SeqAt.RcNeAt.tuple_int _ _ f c⟩|str i t=>exact⟨SeqAt.RcAt.tuple_str _ _ f c,SeqAt.RcNeAt.tuple_str _ _ f c⟩|lst l _ _=>exact⟨SeqAt.RcAt.tuple_list f l c,SeqAt.RcNeAt.tuple_list f l c⟩|@tup b w ys g l h k=>
     have J:g.all (gO n)=true:=by simpa[bA,bh,bC,bB,bF,bz]using he
     have q:u.toArray.size=ds.length:=by rw[size_toArray,<-C.length,hr.length]
     have z:w.toArray.size=g.length:=by rw[size_toArray,<-h.length,k.length]
     have L:=SeqAt.RcAt.tuples (A:=A) (e:=λj=>jb (ds.getD j .non) (g.getD j .non)) f l c λj o p=>B o p G J C h hr k;have M:=SeqAt.RcNeAt.tuples (A:=A) (e:=λj=>jb (ds.getD j .non) (g.getD j .non)) f l c λj o p=>B o p G J C h hr k;rw[q,z]at L M;have e0:jb (.tup ds) (.tup g)=((List.range (min ds.length g.length)).all (λj=>jb (ds.getD j .non) (g.getD j .non))&&ds.length==g.length):=by
      rw[ZV];by_cases r:ds.length=g.length;.rw[fC r,r];simp
      . rw[iJ r];have:(ds.length==g.length)=false:=by simpa using r
        rw[this,Bool.and_false]
     rw[e0];exact⟨L,M⟩
 |@lst a u xs ds f C hr=>
   have G:ds.all (gO n)=true:=by simpa[bA,bh,bC,bB,bF,bz]using hd
   cases E with|non=>exact⟨SeqAt.RcAt.list_none f c,SeqAt.RcNeAt.list_none f c⟩|bl b=>exact⟨SeqAt.RcAt.list_bool _ f c,SeqAt.RcNeAt.list_bool _ f c⟩|int i t=>exact⟨SeqAt.RcAt.list_int _ _ f c,list_int _ _ f c⟩|str i t=>exact⟨SeqAt.RcAt.list_str _ _ f c,list_str _ _ f c⟩|tup l _ _=>exact⟨SeqAt.RcAt.list_tuple f l c,SeqAt.RcNeAt.list_tuple f l c⟩|@lst b w ys g l h k=>
     have J:g.all (gO n)=true:=by simpa[bA,bh,bC,bB,bF,bz]using he
     have q:u.toArray.size=ds.length:=by rw[size_toArray,<-C.length,hr.length]
     have z:w.toArray.size=g.length:=by rw[size_toArray,<-h.length,k.length]
     rw[Uo];by_cases r:ds.length=g.length;.have L:=SeqAt.RcAt.lists (A:=A) (e:=λj=>jb (ds.getD j .non) (g.getD j .non)) f l (by rw[q,z,r]) c λj o p=>B o p G J C h hr k;have M:=SeqAt.RcNeAt.lists (A:=A) (e:=λj=>jb (ds.getD j .non) (g.getD j .non)) f l (by rw[q,z,r]) c λj o p=>B o p G J C h hr k;rw[q]at L M;rw[fC r];exact⟨L,M⟩
     .rw[iJ r];exact⟨lists_lengths f l (by rw[q,z];simpa using r) c,SeqAt.RcNeAt.lists_lengths f l (by rw[q,z];simpa using r) c⟩
theorem kE(c:X.A.units+8<cLine):dZ X (compareOp .Eq) (rD X.K (lX .eq)):=by rintro pins s σ H x y v u Q I f g⟨F,d,e,r,a,h,j,he,k⟩;obtain⟨t,b,l⟩:=map_some (show(Cu d e).map _=some r from he);subst l;unfold Cu at b;obtain⟨hd,b⟩:=bL b;rw[and_eq_true]at hd;subst b;exact(Td I a (n:=7) c hd.1 hd.2 (qI I a hd.1 h f) (qI I a hd.2 j g)).1 _ _ _ _ ⟨.bl _,H,I,rfl,cA.dw a (fj _) k⟩
theorem vI(c:X.A.units+8<cLine):dZ X (compareOp .NotEq) (rD X.K (lX .ne)):=by rintro pins s σ H x y v u Q I f g⟨F,d,e,r,a,h,j,he,k⟩;obtain⟨t,b,l⟩:=map_some (show(vW d e).map _=some r from he);subst l;unfold vW at b;obtain⟨hd,b⟩:=bL b;rw[and_eq_true]at hd;subst b;exact(Td I a (n:=7) c hd.1 hd.2 (qI I a hd.1 h f) (qI I a hd.2 j g)).2 _ _ _ _ ⟨.bl _,H,I,rfl,cA.dw a (fj _) k⟩
end
section
variable{Pg:Program}{w:World}{K:PySem.W.Frag}{mg:Str->Option Value}{base:Heap}
theorem RV{qual:Str}{st:Stmt}{f:Addr}{fd:FuncData}{N ps:List Str}{k n:Nat}{c:Call}{d:Fd}(G:lF K x qual st f fd)(S:aY N ps (aH st))(h1:d.np=ps.length)(u:d.nn=N.length)(I:∀(cdv:Value)(A:Around)(outer:List Env)(s:Shared)(H:Hp)(E:XK),iI k (A.deeper (envOfC qual (aH st) s.heap.objs.size f cdv))->SB (vG Af Pg w K mg base N qual (aH st) f cdv A outer s H E).Qh c n (eE st) d.body):lz Pg w K mg base Af (k+1) f fd ps (GR K ps.length (λargs=>enter c n d args)):=by
 refine G.ok S (λvs H Q E h=>h.1) λcdv A outer s H vs Q E hr h=>?_;obtain⟨y,F,args,r,o,g,e,q⟩:=h;refine⟨_,I cdv A outer s H E hr,?_⟩;replace e:enter c n d args=.ok r o:=e;unfold enter at e;split at e
 . rename_i hc;obtain⟨c1,c2⟩:=hc;have J:=g.more (n:=d.nn-d.np) (τ:=replicate (N.length-vs.length) none) (by simp[h1,u,y]);have p:args.length=d.np:=c1;have go:∀{t:Fl}{a:List Sl},je c n d.body (args++replicate (d.nn-d.np) .aU)=.ok t a->(∀l b j,bV K F (args++replicate (d.nn-d.np) .aU) (start N vs) H l a b j->(match t with|.next=>Q .non j|.brk=>False|.cont=>False|.ret r=>∀v,cF K l a b j (args++replicate (d.nn-d.np) .aU) (start N vs) H v r->Q v j))->UL K (je c n d.body) {nx:=λ_ j=>Q .non j,rt:=Q} (start N vs) H:=λ{t a}z k=>⟨F,_,t,a,J,z,λl b j s=>by have:=k l b j s;cases t<;>exact this⟩;split at e;.rename_i a z;cases e;refine go z λl b j s=>?_;obtain⟨B,C⟩:=bV.less (m:=d.np) p.symm g (by simp[h1,u,y]) s;exact q .non l _ j B (show Rep K l _ _ from Mw)
   .rename_i r' a z;cases e;refine go z λl b j s v L=>?_;obtain⟨B,C⟩:=bV.less (m:=d.np) p.symm g (by simp[h1,u,y]) s;exact q v l _ j B (C v r L)
   .split at e<;>cases e
 .cases e
structure bO(Pg:Program)(w:World)(K:PySem.W.Frag)(mg:Str->Option Value)(base:Heap)(k:Nat)(c:Call)(i:Nat)(x:Str)(np:Nat):Prop where ex:∃fa fd qs,lz Pg w K mg base Af k fa fd qs (GR K qs.length (c i))/\mg x=some (.ref fa)/\keepIn K (.ref fa)=true/\Binds K fd qs []/\qs.length=np
end
section
variable{X:Cx}{c:Call}{n k:Nat}{e a b:Expr}{es:List Expr}{p pa pb:P}{ps:List P}{pos:Pos}
theorem sv(i:Nat)(g:X.N[i]?=some x:=by rfl)(h:Be X.env.scope x:=by first|exact Or.inl rfl|exact Or.inr (Or.inl rfl)|exact Or.inr (Or.inr rfl))(hd:(x==("__debug__":Str))=false:=by rfl)(f:(x==("__classdict__":Str))=false:=by rfl):SX X c (.Name x pos) (.var i):=JB g h hd f
theorem gA{np:Nat}(C:bO X.prog X.w X.K X.mg X.base k c i x np)(hr:iI k X.A)(h:SG X c (e::es) ps)(j:Gl X x:=by rfl)(l:(e::es).length=np:=by rfl)(f:(x==("__debug__":Str))=false:=by rfl)(he:starEach (e::es) X.env=(false,eval e X.env)::starEach es X.env:=by rfl)(hpl:(backTo pos (starEach es X.env)).any (·.1)=false:=by rfl)(g:ps.length=(e::es).length:=by rfl):SX X c (.Call (.Name x p') (e::es) [] pos) (.call i ps):=by obtain⟨u,fd,y,h1,o,q,r,t⟩:=C.ex;exact Ep h1 hr j o q r h (l.trans t.symm) f he hpl g
noncomputable def Iv(names outer:List (Str×NameKind))(N N':List Str)(n:Nat):Bool:=(names.all λy=>names.lookup y.1==some y.2)&&(names.all λy=>y.2!=.local||names.lookup y.1==some .local)&&(names.all λy=>y.2!=.free||outer.lookup y.1==some .cell||outer.lookup y.1==some .free)&&N'.length==N.length+n&&((N.zip N').all λp=>(p.1==p.2&&names.lookup p.2==some .free)||(names.lookup p.2!=some .local&&names.lookup p.2!=some .cell&&names.lookup p.2!=some .free))
theorem Eh{scope:Scope}{N':List Str}(g:scope.kind=.function)(h:Iv scope.names X.env.scope.names X.N N' n=true):fu X scope N' n:=by
 unfold Iv at h;simp only[and_eq_true]at h;obtain⟨⟨⟨⟨h1,j⟩,l⟩,o⟩,q⟩:=h;refine⟨g,λy f=>eq_of_beq (all_eq_true.mp h1 y f),λy f e=>?_,λy f e=>?_,by simpa using o,q⟩;.have:=all_eq_true.mp j y f;rw[e]at this;simpa using this
 . have:=all_eq_true.mp l y f;rw[e]at this;simp only[or_eq_true]at this;rcases this with(z|z)|z;.cases z
   .exact .inl (eq_of_beq z)
   .exact .inr (eq_of_beq z)
theorem aX(h:iI k A):A.units+8<cLine:=by have:=h.un;omega
end
end HH
end
section
namespace PySem
open AutoSeq1(wpAny_loadPart')
section
variable{prog:Program}{w:World}{A:Around}{E:Value->Shared->Prop}{s:Shared}
theorem fO{it l:Addr}{i:Nat}{items:Array Value}{x:Value}{Q:Value->Shared->Prop}(a:s.heap.IsTupleIter it l i)(e:s.heap.IsTuple l items)(f:items[i]?=some x)(g:∀h',h'.IsTupleIter it l (i+1)->SameBut it s.heap h'->Q x {s with heap:=h'}):wpAny (model prog w) A (nextOf (.ref it)) Q E s:=by obtain⟨o,ho,hc,hd⟩:=id a;obtain⟨h,b,_,j,c⟩:=e;unfold nextOf;refine wpAny_bind (wpAny_callSpecial?_slot (name:=Str.ofString "__next__") a.typeIs F.slot_tuple_iterator_next (wpAny_call_entry F.slot_tuple_iterator_next a.typeIs F.entry_tuple_iterator_next ?_ (F.args_tuple_iterator_next_1 _)));show wpAny _ _ (field (.ref it) 0>>=_) _ _ s;refine wpAny_bind (wpAny_field ho hd (x:=.ref l) rfl ?_);show wpAny _ _ (if(Value.ref l==Value.none)=true then _ else _) _ _ s;rw[if_neg (show ¬((Value.ref l==Value.none)=true)from Bool.false_ne_true)];show wpAny _ _ (field (.ref it) 1>>=_) _ _ s;refine wpAny_bind (wpAny_field ho hd (x:=.int i 0) rfl ?_);show wpAny _ _ (seqItems? (.ref l)>>=_) _ _ s;refine wpAny_bind (wpAny_seqItems b c ?_);simp only[Int.toNat_natCast,f];refine wpAny_bind (wpAny_setField ho hd (by simp) (wpAny_pure ⟨x,rfl,wpAny_pure (g _ ?_ (Heap.SameBut.update ..))⟩));exact⟨_,Heap.get?_update_self _ ho (Obj.isFreed_of_fields (Obj.data_mapFields hd _)),(Obj.cls_mapFields ..).trans hc,by rw[Obj.data_mapFields hd];simp[rawInt]⟩
theorem dN{it l:Addr}{i:Nat}{items:Array Value}{Q:Value->Shared->Prop}(g:A.handled=none)(b:s.heap.IsTupleIter it l i)(h:s.heap.IsTuple l items)(j:items[i]?=none)(k:∀h' e,Heap.ExtBut it s.heap h'->(∃o,h'.get? e=some o/\o.cls=.type "StopIteration")->E (.ref e) {s with heap:=h'}):wpAny (model prog w) A (nextOf (.ref it)) Q E s:=by
 obtain⟨o,ho,hc,hd⟩:=id b;obtain⟨n,c,_,p,f⟩:=h;unfold nextOf;refine wpAny_bind (wpAny_callSpecial?_slot (name:=Str.ofString "__next__") b.typeIs F.slot_tuple_iterator_next (wpAny_call_entry F.slot_tuple_iterator_next b.typeIs F.entry_tuple_iterator_next ?_ (F.args_tuple_iterator_next_1 _)));show wpAny _ _ (field (.ref it) 0>>=_) _ _ s;refine wpAny_bind (wpAny_field ho hd (x:=.ref l) rfl ?_);show wpAny _ _ (if(Value.ref l==Value.none)=true then _ else _) _ _ s;rw[if_neg (show ¬((Value.ref l==Value.none)=true)from Bool.false_ne_true)];show wpAny _ _ (field (.ref it) 1>>=_) _ _ s;refine wpAny_bind (wpAny_field ho hd (x:=.int i 0) rfl ?_);show wpAny _ _ (seqItems? (.ref l)>>=_) _ _ s;refine wpAny_bind (wpAny_seqItems c f ?_);simp only[Int.toNat_natCast,j];refine wpAny_bind (wpAny_rule (wpAny_bind (wpAny_setField ho hd (by simp) ?_)));show wpAny _ _ (newExc (.type "StopIteration") []>>=_) _ _ _;refine wpAny_bind ?_;simp only[newExc,newTuple];refine wpAny_bind (wpAny_newObj_type ?_ (by size_fits));refine wpAny_bind (m:=firstArgMember _ _) (wpAny_of_eq (a:=Value.none) (by first|rfl|(simp only[firstArgMember];rfl)) ?_);refine wpAny_newObj_type ?_ (by size_fits);simp only[raiseNew];refine wpAny_bind (wpAny_handled ?_);first|rw[show A.in1.handled=none from g]|rw[g]
 refine wpAny_bind (wpAny_pure (wpAny_throw ?_));exact k _ _ (((Heap.SameBut.update ..).extBut.push _).push _) ⟨_,get?_push_size _ rfl,rfl⟩
end
theorem ir(l:Addr)(items:Array Value)(n:Nat)(b:Option Addr)(i:Array (Option Value)):Meets (Builtin.«enumerate.__new__» ⟨[.type "enumerate",.ref l],[]⟩) (λ_ R s=>s.heap.get? l=some {cls:=.type "tuple",dict:=b,data:=.seq items n,slots:=i}/\R (.ok (.ret (.ref (s.heap.push {cls:=.type "tuple_iterator",data:=.fields #[.ref l,.int 0 0]}).objs.size))) {s with heap:=(s.heap.push {cls:=.type "tuple_iterator",data:=.fields #[.ref l,.int 0 0]}).push {cls:=.type "enumerate",data:=.fields #[.none,.bool false,.ref s.heap.objs.size,rawInt 0,.none,.none]}}):=.of_wp λprog w A R s h=>by
  obtain⟨j,g,d,k,os⟩:=s;obtain⟨a,h⟩:=h;have f:=sub_enumerate;have e:Heap.IsTuple (Shared.heap ⟨j,g,d,k,os⟩) l items:=⟨_,a,rfl,n,rfl⟩;wp_walk using wpAny_loadPart' a;refine wpAny_stack_any λst=>wpAny_pure ?_;split
  . rename_i c _ _ _ _ _;cases(c==Value.type "enumerate");.wp_walk using wpAny_loadPart' a,wpAny_pyIter_tuple e;exact⟨_,rfl,h⟩
    .wp_walk using wpAny_loadPart' a,wpAny_pyIter_tuple e;exact⟨_,rfl,h⟩
  .wp_walk using wpAny_loadPart' a,wpAny_pyIter_tuple e;exact⟨_,rfl,h⟩
section
variable{prog:Program}{w:World}{A:Around}{E:Value->Shared->Prop}{s:Shared}
theorem iz{l:Addr}{items:Array Value}{Q:Value->Shared->Prop}(f:s.heap.IsTuple l items)(h:∀ h',IsEnum h' (s.heap.objs.size+1) s.heap.objs.size 0 .none->h'.IsTupleIter s.heap.objs.size l 0->h'.objs.size=s.heap.objs.size+2->(∀b o,s.heap.get? b=some o->h'.get? b=some o)->Q (.ref (s.heap.objs.size+1)) {s with heap:=h'}):wpAny (model prog w) A (call (.type "enumerate") [.ref l]) Q E s:=by
 obtain⟨⟨c,a,g,i⟩,j,hc,n,hd⟩:=f;replace hc:c=.type "tuple":=hc;replace hd:g=.seq items n:=hd;subst hc hd;refine callType_new F.called_enumerate (by decide) (F.typeCall_enumerate_1 _) (F.newCall_enumerate_1 _) (λobj=>F.args_object_init_2 obj _) F.entry_enumerate_new (ir l items n a i) ⟨j,?_⟩;have e:(s.heap.push {cls:=.type "tuple_iterator",data:=.fields #[.ref l,.int 0 0]}).objs.size=s.heap.objs.size+1:=size_push ..;show _/\_;rw[e];have he:IsEnum ((s.heap.push {cls:=.type "tuple_iterator",data:=.fields #[.ref l,.int 0 0]}).push {cls:=.type "enumerate",data:=.fields #[.none,.bool false,.ref s.heap.objs.size,rawInt 0,.none,.none]}) (s.heap.objs.size+1) s.heap.objs.size 0 .none:=by have:=get?_push_size (s.heap.push {cls:=.type "tuple_iterator",data:=.fields #[.ref l,.int 0 0]}) (o:={cls:=.type "enumerate",data:=.fields #[.none,.bool false,.ref s.heap.objs.size,rawInt 0,.none,.none]}) rfl;rw[e]at this;exact this
 refine⟨⟨_,he,rfl⟩,h _ he ⟨_,iG (get?_push_size _ rfl),rfl,rfl⟩ (by rw[size_push,e]) λb o x=>iG (iG x)⟩
end
end PySem
end
section
namespace L2
open PySem PySem.Spec PyProof.Rows
variable{t:Bool}{a:Addr}{h:Heap}
section
variable{X:Cx}{pins:List (Addr×Obj)}{σ:L2.St}{H:Hp}{s:Shared}
theorem Inv.Bh{ch:List Addr}{h':Heap}{o:HO}{t':Nat}(I:Inv X pins σ H s)(k:∀b u,b∉ch->s.heap.get? b=some u->h'.get? b=some u)(m:∀b∈ch,∃u,h'.get? b=some u)(i:∀b∈ch,lA X pins H b)(new:bT X.prog X.w (upd H s.heap.objs.size o) h' s.heap.objs.size o):Inv X pins σ (upd H s.heap.objs.size o) {s with heap:=h',toks:=t'}:=by
 have fr:H s.heap.objs.size=none:=I.hok.fresh (cH);have l:∀b u,H b=some u->b∉ch:=λb u e f=>by rw[(i b f).1]at e;cases e
 have j:∀b u,H b=some u->upd H s.heap.objs.size o b=some u:=λb u e=>by
  have:b≠s.heap.objs.size:=by rintro rfl;rw[fr]at e;cases e
  rw[aC this];exact e
 refine I.call (g':=s.gens) (d':=s.drawn) (ch:=ch) ⟨λb u e n _ g=>k b u g e,λb u e n _ g=>⟨u.slots,k b u g e⟩,λb u e n g=>?_,λb u e g=>⟨u,k b u g e⟩,λb xs e=>j b _ e,λb p u e=>j b _ e,λb ps e=>⟨#[],by rw[j b _ e];simp⟩⟩ ?_ I.bare λb f=>⟨(i b f).2.2.2.1,(i b f).2.1,(i b f).2.2.2.2.1,(i b f).2.2.2.2.2⟩;.have:b≠s.heap.objs.size:=ne_of_lt (lt_size e);rw[aC this];exact n
 . intro b u e;by_cases f:b=s.heap.objs.size;.subst f;rw[aR]at e;cases e;exact new
   . rw[aC f]at e;refine(I.hok b u e).stay (λc v hc q=>k c v ?_ q) (λc q=>j c _ q) λc xs q=>q.map λo _ q=>j c o q;rcases hc with rfl|hc;.exact l _ _ e
     .exact l _ _ hc
end
def Sq(t:Bool)(K:PySem.W.Frag)(H:Hp)(a:Addr)(xs:List V):Prop:=if t then jc K H a xs else gb K H a xs
def pG(t:Bool)(h:Heap)(a:Addr)(xs:Array Value):Prop:=if t then h.IsTuple a xs else h.IsList a xs
def qY(t:Bool)(h:Heap)(i a:Addr)(k:Nat):Prop:=if t then h.IsTupleIter i a k else h.IsListIter i a k
section
variable{X:Cx}{pins:List (Addr×Obj)}{σ:L2.St}{H:Hp}{s:Shared}
theorem Inv.sq{xs:List V}(I:Inv X pins σ H s)(h:Sq t X.K H a xs):∃b:List Value,Vals xs b/\pG t s.heap a b.toArray:=by cases t with|true=>obtain⟨b,c,e,_⟩:=I.tuple h;exact⟨b,c,e⟩|false=>obtain⟨b,c,e,_⟩:=I.list h;exact⟨b,c,e.isList⟩
theorem Inv.uY{xs ys:List V}(I:Inv X pins σ H s)(h:Sq t X.K H a xs)(h':Sq t X.K H a ys):xs=ys:=by cases t with|true=>exact I.kJ h h'|false=>exact I.mY h h'
theorem pG.lt{xs:Array Value}(q:pG t h a xs):a<h.objs.size:=by cases t with|true=>obtain⟨o,e,_⟩:=id q;exact lt_size e|false=>obtain⟨o,e,_⟩:=id q;exact lt_size e
theorem qY.obj{i:Addr}{k:Nat}(q:qY t h i a k):∃o,h.get? i=some o/\∀v,o.data≠.cell v:=by cases t with|true=>obtain⟨o,b,e,c⟩:=id q;exact⟨o,b,λv z=>by rw[c]at z;cases z⟩|false=>obtain⟨o,b,e,c⟩:=id q;exact⟨o,b,λv z=>by rw[c]at z;cases z⟩
theorem qY.keep{h':Heap}{i:Addr}{k:Nat}(q:qY t h i a k)(e:∀o,h.get? i=some o->h'.get? i=some o):qY t h' i a k:=by cases t with|true=>obtain⟨o,b,r⟩:=id q;exact⟨o,e o b,r⟩|false=>obtain⟨o,b,r⟩:=id q;exact⟨o,e o b,r⟩
theorem pG.cls{t:Bool}{h:Heap}{a:Addr}{xs:Array Value}(q:pG t h a xs):∃o,h.get? a=some o/\o.cls=.type (if t then"tuple"else"list"):=by cases t<;>(obtain⟨o,e,c,_⟩:=id q;exact⟨o,e,c⟩)
theorem qY.cls{t:Bool}{h:Heap}{i a:Addr}{k:Nat}(q:qY t h i a k):∃o,h.get? i=some o/\o.cls=.type (if t then"tuple_iterator"else"list_iterator"):=by cases t<;>(obtain⟨o,e,c,_⟩:=id q;exact⟨o,e,c⟩)
theorem pG.keep{h':Heap}{xs:Array Value}(q:pG t h a xs)(e:∀o,h.get? a=some o->h'.get? a=some o):pG t h' a xs:=by cases t<;>(obtain⟨o,b,r⟩:=id q;exact⟨o,e o b,r⟩)
end
noncomputable def vA(t:Bool)(K:PySem.W.Frag)(a:Addr):It:=⟨λi H=>∃xs x,Sq t K H a xs/\xs[i]?=some x,λi H x b=>∃T v,H T=none/\x=.ref T/\b=upd H T (.tup [.int (i:Int),v])/\∀xs,Sq t K H a xs->xs[i]?=some v,λi H=>∃xs,Sq t K H a xs/\xs.length<=i⟩
theorem Lj(t:Bool){prog:Program}{w:World}{A:Around}(f:A.handled=none)(it l:Addr)(e:l≠it)(items:Array Value):Draws prog w A it [it,l] items.size (λi v=>items[i]?=some v) (λi h=>qY t h it l i/\pG t h l items)where
 live:=λ_ _ st=>let⟨o,ho,_⟩:=st.1.obj;⟨o,ho⟩;frame:=λ_ _ _ st g=>⟨st.1.keep (g it (by simp)),st.2.keep (g l (by simp))⟩;item:=λi s Q E hi st j=>by cases t with|false=>exact wpAny_nextOf_list_item st.1 st.2 (x:=items[i]) (by simp[hi]) λh' b c=>j _ h' s.toks (by simp[hi]) ⟨b,st.2.keep λo ho=>c.extBut l o e ho⟩ c|true=>exact fO st.1 st.2 (x:=items[i]) (by simp[hi]) λh' b c=>j _ h' s.toks (by simp[hi]) ⟨b,st.2.keep λo ho=>c.extBut l o e ho⟩ c
 done:=λs Q E st k=>by cases t with|false=>exact wpAny_nextOf_list_end f st.1 st.2 (by simp) k|true=>exact dN f st.1 st.2 (by simp) k
theorem Dt(t:Bool){prog:Program}{w:World}{A:Around}(b:A.handled=none)(it l:Addr)(items:Array Value)(n:Nat)(c:items.size<=n):Draws prog w A it [it,l] n (λ_ _=>True) (λi h=>i=n/\qY t h it l i/\pG t h l items)where live:=λ_ _ st=>let⟨o,ho,_⟩:=st.2.1.obj;⟨o,ho⟩;frame:=λ_ _ _ st e=>⟨st.1,st.2.1.keep (e it (by simp)),st.2.2.keep (e l (by simp))⟩;item:=λi s Q E hi st g=>absurd st.1 (ne_of_lt hi);done:=λs Q E st f=>by cases t with|false=>exact wpAny_nextOf_list_end b st.2.1 st.2.2 (by simp;exact c) f|true=>exact dN b st.2.1 st.2.2 (by simp;exact c) f
theorem Dm(t:Bool){P:Program}{w:World}{K:PySem.W.Frag}{elts:List Expr}{x1}{tp:Pos}(a it e:Addr)(m:e≠it):Turn P w K (.Tuple elts x1 tp) (vA t K a) [e,it] e (λi h=>(∃c,IsEnum h e it (i:Int) c)/\qY t h it a i)where
 mem:=by simp
 obj:=λi h st b hb=>by
  obtain⟨⟨c,h1⟩,g⟩:=st;rcases mem_cons.mp hb with rfl|hb;.exact⟨_,h1,λv z=>by cases z⟩
  . have:b=it:=by simpa using hb
    subst this;exact g.obj
 keep:=λi h h' st k=>by obtain⟨⟨c,h1⟩,g⟩:=st;exact⟨⟨c,k e (by simp) _ h1⟩,g.keep (k it (by simp))⟩
 item:=λX O hw U hc i p s σ H E I F st go=>by
  subst O hw U;obtain⟨⟨c,he⟩,j⟩:=st;obtain⟨xs,x,G,r⟩:=go;obtain⟨l,J,L⟩:=I.sq G;obtain⟨oa,M,n⟩:=L.cls;have Y:e≠a:=by rintro rfl;rw[he]at M;cases M;cases t<;>exact absurd (show Value.type "enumerate"=Value.type _ from n) (by decide)
  have Z:a≠it:=by rintro rfl;obtain⟨o,g,h3⟩:=j.cls;rw[g]at M;cases M;rw[h3]at n;cases t<;>exact absurd n (by decide)
  have ae:i<l.toArray.size:=by rw[size_toArray,<-J.length];exact(gW r).1
  refine wpAny_pyNext_enum_itemD (Lj t (show X.A.in1.handled=none from I.ok.hd hc) it a Z l.toArray) he ⟨j,L⟩ ae m (by simp[m,Y]) λy h' tk N af B ht hsz kp=>?_;refine⟨_,rfl,wpAny_letOwnedTupleGo_enum af λC TJ sb=>?_⟩;obtain⟨u,ag,ah⟩:=J.get r;have ai:y=u:=by
   have N:l[i]?=some y:=by simpa using N
   rw[ag]at N;cases N;rfl
  subst ai;have hT:∀b∈[e,it],b≠s.heap.objs.size:=λb hb=>by
   rcases mem_cons.mp hb with rfl|hb;.exact ne_of_lt (lt_size he)
   . have:b=it:=by simpa using hb
     subst this;obtain⟨o,g,_⟩:=j.obj;exact ne_of_lt (lt_size g)
  have am:s.heap.objs.size≠e:=(hT e (by simp)).symm;have Vw:∀b o,b∉[e,it]->s.heap.get? b=some o->C.get? b=some o:=λb o hb q=>by have h1:b≠e:=λz=>hb (by simp[z]);have g:b≠it:=λz=>hb (by simp[z]);exact sb.extBut b o h1 (kp b o h1 g q)
  have wz:C.get? s.heap.objs.size=some {cls:=.type "tuple",data:=.seq #[.int i tk,y]}:=sb.extBut _ _ am ht;refine⟨.ref s.heap.objs.size,upd H s.heap.objs.size (.tup [.int (i:Int),x]),?_,rfl,⟨_,x,I.fresh,rfl,rfl,λys ap=>?_⟩,⟨⟨_,TJ⟩,?_⟩,λb hb=>?_⟩
  . refine I.Bh (ch:=[e,it]) (t':=tk+1) Vw (λb hb=>?_) (λb hb=>(F b hb)) ⟨(by show 2<=sizeLine;decide),[.int i tk,y],.cons ⟨_,rfl⟩ (.cons ah .nil),⟨_,wz,rfl,_,rfl⟩⟩;rcases mem_cons.mp hb with rfl|hb;.exact⟨_,TJ⟩
    . have:b=it:=by simpa using hb
      subst this;obtain⟨o,g,_⟩:=B.1.obj;exact⟨o,sb.extBut _ _ (Ne.symm m) g⟩
  .rw[I.uY ap G];exact r
  .exact B.1.keep λo=>sb.extBut _ o (Ne.symm m)
  .rw[aC (hT b hb)];exact(F b hb).1
 done:=λX O hw U hc i p s σ H E I F st stop=>by subst O hw U;obtain⟨⟨c,he⟩,j⟩:=st;obtain⟨xs,G,r⟩:=stop;obtain⟨l,J,L⟩:=I.sq G;refine wpAny_pyNext_enum_endD (Dt t (show X.A.in1.handled=none from I.ok.hd hc) it a l.toArray i (by rw[size_toArray,<-J.length];exact r)) he ⟨rfl,j,L⟩ λh' hs=>⟨rfl,?_⟩;have f:=F it (by simp);exact I.turned (t':=s.toks) (λb o hb q=>hs b o hb q) f.1 f.2.1 f.2.2.2.1 f.2.2.2.2.1 f.2.2.2.2.2
 self:=λA i s Q E st q=>wpAny_pyIter_enum st.1.choose_spec q
section
variable{X:Cx}{elts:List Expr}{x1:Nat}{tp:Pos}
def Wv(K:PySem.W.Frag)(c:TE):TI:=λe H R=>c e H λx b=>∃a,x=.ref a/\(∃t,(∃xs,Sq t K b a xs)/\R (vA t K a) b)
theorem boot_enumerate:bootBuiltins "enumerate"=some (.type "enumerate"):=by decide+kernel
theorem Mt{a:Expr}{l:TE}{p pos:Pos}(v:Gl X "enumerate")(y:X.mg "enumerate"=none)(z:PE X a l)(hs:starEach [a] X.env=[(false,eval a X.env)]:=by rfl):PI X (.Tuple elts x1 tp) (.Call (.Name "enumerate" p) [a] [] pos) (Wv X.K l):=by
 intro c s m H R I h;refine Call_ (jt I v y boot_enumerate (PyProof.Rows.callWith_type1 (cT ((dq z iD hs) pos c s m H (λvs e=>match vs with|[x]=>∃a,x=.ref a/\(∃t,(∃xs,Sq t X.K e a xs)/\R (vA t X.K a) e)|_=>False) I h) ?_) hs rfl));rintro G s1⟨vs,e,g,B,j⟩
 . obtain⟨ad,q,k⟩:∃ad,(∃t,(∃xs,Sq t X.K e ad xs)/\R (vA t X.K ad) e)/\vs=[.ref ad]:=by cases vs with|nil=>cases j|cons x r=>cases r with|nil=>obtain⟨ad,rfl,q⟩:=j;exact⟨ad,q,rfl⟩|cons _ _=>cases j
   subst k;obtain⟨u,rfl,C⟩:=B.one;cases C;have fin:∀(h':Heap)(i:Nat->Heap->Prop)(J:It),Turn X.prog X.w X.K (.Tuple elts x1 tp) J [s1.heap.objs.size+1,s1.heap.objs.size] (s1.heap.objs.size+1) i->i 0 h'->IsEnum h' (s1.heap.objs.size+1) s1.heap.objs.size 0 .none->(∀b o,s1.heap.get? b=some o->h'.get? b=some o)->R J e->wpAny (model X.prog X.w) X.A (pyIter (.ref (s1.heap.objs.size+1))) (PIE X c m (.Tuple elts x1 tp) R) X.xe {s1 with heap:=h'}:=λh' i J T t0 he kp q=>by
    refine wpAny_pyIter_enum he ⟨_,_,i,J,e,rfl,g.kept (t':=s1.toks) kp,T,t0,λb hb=>?_,q⟩;have f:s1.heap.objs.size<=b:=by
     rcases mem_cons.mp hb with rfl|hb;.exact le_succ _
     . have:b=s1.heap.objs.size:=by simpa using hb
       rw[this];exact cH
    exact g.yW f (g.hok.fresh f)
   obtain⟨t,⟨xs,E⟩,q⟩:=q;obtain⟨F,L,n⟩:=g.sq E;have T:=Dm (P:=X.prog) (w:=X.w) (K:=X.K) (elts:=elts) (x1:=x1) (tp:=tp) t ad s1.heap.objs.size (s1.heap.objs.size+1) (Nat.succ_ne_self _);cases t with|false=>exact call_enumerate_list n λh' he hi hsz kp=>fin h' _ _ T ⟨⟨_,he⟩,hi⟩ he kp q|true=>exact iz n λh' he hi hsz kp=>fin h' _ _ T ⟨⟨_,he⟩,hi⟩ he kp q
end
end L2
namespace HH
open PySem L2 PySem.Spec PyProof.Rows
section
variable{K:PySem.W.Frag}{F F1 H H1:Hp}{ρ ρ1:List Sl}{σ:L2.St}{ds:List D}{a:Addr}
theorem tL{c e:Hp}{T:Addr}{v w:V}{d1 d2:D}(g:aK c e)(h:e T=none)(i:Rep K c v d1)(j:Rep K c w d2):∃b,Ext c e b (upd e T (.tup [v,w]))/\Rep K b (.ref T) (.tup [d1,d2]):=yS (Q:=λv f=>∃b,Ext c e b f/\Rep K b v (.tup [d1,d2])) g (.cons i (.cons j .nil)) h λv b f x k=>⟨b,x,k⟩
theorem xm{t:Bool}{xs:List V}{e b:Hp}(f:Sq t K b a xs)(r:aF K e xs ds)(s:aK e b)(k:Nat):(∀d,(ds.mapIdx λi d=>D.tup [.int (i:Int),d])[k]?=some d->(vA t K a).go k b/\∀x g,(vA t K a).Hv k b x g->∃c,Ext e b c g/\Rep K c x d)/\((ds.mapIdx λi d=>D.tup [.int (i:Int),d]).length<=k->(vA t K a).stop k b):=by refine⟨λd hd=>?_,λh=>⟨xs,f,by rw[r.length];simpa using h⟩⟩;rw[List.getElem?_mapIdx]at hd;obtain⟨d0,j,l⟩:=map_some hd;subst l;obtain⟨w,h1,m⟩:=r.get j;refine⟨⟨xs,w,f,h1⟩,?_⟩;rintro x g⟨T,v,n,o,p,y⟩;subst o;subst p;have:=y xs f;rw[h1]at this;cases this;exact tL s n (cV _) m
end
section
variable{X:Cx}{c:Call}{e a:Expr}{pa:P}{pos:Pos}{elts:List Expr}{x1:Nat}{tp:Pos}
theorem Bv{x:Str}{C:Pos}(E:x="enumerate")(G:Gl X x)(I:X.mg x=none)(J:SX X c a pa)(hs:starEach [a] X.env=[(false,eval a X.env)]:=by rfl):SI X c (.Tuple elts x1 tp) (.Call (.Name x C) [a] [] pos) (.PB pa):=by subst E;refine qd (Mt G I J.ev hs) ?_;rintro Y H R⟨F,ρ,Z,L,g,e,k⟩;obtain⟨r,M,y,j⟩:=ao e;have m:=aJ j;clear j;obtain⟨j,N⟩:=m;subst N;rw[HH.E21]at y;obtain⟨z,h,O,l⟩:=ao y;have m:=aJ l;clear l;obtain⟨l,Q⟩:=m;subst Q;obtain⟨es,f1,f2⟩:=map_some l;subst f2;cases j;refine⟨F,ρ,z,_,g,O,λv A B s i=>?_⟩;obtain⟨F2,s2,_,f⟩:=s.eG i;cases hd:z.d with|tup o=>rw[hd]at f1 f;cases f1;rw[Rep]at f;obtain⟨ad,xs,rfl,h1,p⟩:=f;exact⟨ad,rfl,true,⟨xs,aK.eZ s2.gs.sub h1⟩,k _ _ _ ⟨s2.gs,λn k A q u B b=>xm (t:=true) (aK.eZ b.gs.sub (aK.eZ b.cW h1)) (p.mono b.cW) b.gs.sub k,λU h w W s3=>⟨s2.trans s3,λv r i=>i.later s2⟩⟩⟩|lst o=>rw[hd]at f1 f;cases f1;rw[Rep]at f;obtain⟨ad,xs,rfl,h1,p⟩:=f;exact⟨ad,rfl,false,⟨xs,s2.gs.sub.seq h1⟩,k _ _ _ ⟨s2.gs,λn k A q u B b=>xm (t:=false) (b.gs.sub.seq (b.cW.seq h1)) (p.mono b.cW) b.gs.sub k,λU h w W s3=>⟨s2.trans s3,λv r i=>i.later s2⟩⟩⟩|_=>rw[hd]at f1;cases f1
end
end HH
end
section
namespace PySem
structure Nx(prog:Program)(w:World)(A:Around)(it src:Addr)(Sx:Nat->Heap->Prop)(get:Nat->Option Value):Prop where
 obj:∀k h,Sx k h->∃o,h.get? it=some o/\∀v,o.data≠.cell v
 keep:∀k h h',Sx k h->(∀o,h.get? it=some o->h'.get? it=some o)->(∀o,h.get? src=some o->h'.get? src=some o)->Sx k h'
 item:∀k(s:Shared)(Q:Value->Shared->Prop)(E:Value->Shared->Prop)x,Sx k s.heap->get k=some x->(∀h',Sx (k+1) h'->SameBut it s.heap h'->Q x {s with heap:=h'})->wpAny (model prog w) A (nextOf (.ref it)) Q E s
 fin:∀k(s:Shared)(Q:Value->Shared->Prop)(E:Value->Shared->Prop),Sx k s.heap->get k=none->(∀h' e,Heap.ExtBut it s.heap h'->(∃o,h'.get? e=some o/\o.cls=.type "StopIteration")->E (.ref e) {s with heap:=h'})->wpAny (model prog w) A (nextOf (.ref it)) Q E s
section
variable{prog:Program}{w:World}{A:Around}{E:Value->Shared->Prop}{s:Shared}
theorem Nx.list(g:A.handled=none)(it l:Addr)(c:l≠it)(items:Array Value):Nx prog w A it l (λk h=>h.IsListIter it l k/\h.IsList l items) (λk=>items[k]?)where obj:=λk h st=>let⟨o,h1,_,h3⟩:=st.1;⟨o,h1,λv z=>by rw[h3]at z;cases z⟩;keep:=λk h h' st a b=>⟨(let⟨o,ho,r⟩:=st.1;⟨o,a o ho,r⟩),(let⟨o,ho,r⟩:=st.2;⟨o,b o ho,r⟩)⟩;item:=λk s Q E x st e i=>wpAny_nextOf_list_item st.1 st.2 e λh' f hs=>i h' ⟨f,(let⟨o,ho,r⟩:=st.2;⟨o,hs.extBut l o c ho,r⟩)⟩ hs;fin:=λk s Q E st e j=>wpAny_nextOf_list_end g st.1 st.2 e j
theorem Nx.tuple(g:A.handled=none)(it l:Addr)(c:l≠it)(items:Array Value):Nx prog w A it l (λk h=>h.IsTupleIter it l k/\h.IsTuple l items) (λk=>items[k]?)where obj:=λk h st=>let⟨o,h1,_,h3⟩:=st.1;⟨o,h1,λv z=>by rw[h3]at z;cases z⟩;keep:=λk h h' st a b=>⟨(let⟨o,ho,r⟩:=st.1;⟨o,a o ho,r⟩),(let⟨o,ho,r⟩:=st.2;⟨o,b o ho,r⟩)⟩;item:=λk s Q E x st e i=>fO st.1 st.2 e λh' f hs=>i h' ⟨f,(let⟨o,ho,r⟩:=st.2;⟨o,hs.extBut l o c ho,r⟩)⟩ hs;fin:=λk s Q E st e j=>dN g st.1 st.2 e j
variable{z TI TO i1 i2 l1 l2:Addr}{k:Nat}{S1 S2:Nat->Heap->Prop}{g1 g2:Nat->Option Value}{a b:Value}
theorem yG{x y:Value}{Q:Value->Shared->Prop}(D:ZipApart z TI TO i1 i2 l1 l2)(r:Nx prog w A i1 l1 S1 g1)(t:Nx prog w A i2 l2 S2 g2)(n:IsZip s.heap z TI TO .none)(C:IsPair s.heap TI (.ref i1) (.ref i2))(F:IsPair s.heap TO a b)(h1:S1 k s.heap)(Y:S2 k s.heap)(Z:g1 k=some x)(hy:g2 k=some y)(hQ:∀ h',IsZip h' z TI TO (rawInt s.heap.objs.size)->IsPair h' TO x y->S1 (k+1) h'->S2 (k+1) h'->IsPair h' s.heap.objs.size x y->h'.objs.size=s.heap.objs.size+1->(∀c o,c≠z->c≠TO->c≠i1->c≠i2->s.heap.get? c=some o->h'.get? c=some o)->Q (.ref s.heap.objs.size) {s with heap:=h'}):wpAny (model prog w) A (Builtin.«zip.__next__» ⟨[.ref z],[]⟩) (λfin s'=>∃v,fin=.done (.ret v)/\Q v s') E s:=by
 show wpAny _ _ (field (.ref z) 2>>=_) _ _ _;refine wpAny_bind (wpAny_field n rfl (x:=.bool false) rfl ?_);show wpAny _ _ (field (.ref z) 3>>=_) _ _ _;refine wpAny_bind (wpAny_field n rfl (x:=.ref TI) rfl (wpAny_bind (wpAny_seqItems C rfl ?_)));show wpAny _ _ (ownedTupleIsFree (.ref z)>>=_) _ _ _;refine wpAny_bind ?_;unfold ownedTupleIsFree;refine wpAny_bind (wpAny_field n rfl (x:=.none) rfl (wpAny_pure ?_));simp only[if_true];refine wpAny_bind (wpAny_rule (wpAny_bind (wpAny_field n rfl (x:=.ref TO) rfl (wpAny_bind (wpAny_setField_rec n (by simp) λt1 G g=>?_)))));have G:IsZip t1 z TI TO .ellipsis:=G;refine wpAny_bind ?_;simp only[List.zipIdx_cons,List.zipIdx_nil,forIn_cons,forIn_nil];refine wpAny_bind (wpAny_bind (wpAny_onRaise ?_));show wpAny _ _ (nextOf (.ref i1)>>=_) _ _ _;have q1:S1 k t1:=r.keep _ _ _ h1 (λo e=>g.extBut _ _ D.i1z e) λo e=>g.extBut _ _ D.l1z e;refine wpAny_bind (r.item k _ _ _ x q1 Z λt2 q2 j=>wpAny_pure ?_);have M:IsPair t2 TO a b:=j.extBut _ _ D.TOi1 (g.extBut _ _ D.TOz F);refine wpAny_bind (wpAny_seqItems M rfl (wpAny_bind (wpAny_updateSeq_pair M λN H h=>?_)));have H:IsPair N TO x b:=H;refine wpAny_bind (wpAny_letGo (wpAny_pure (wpAny_bind (wpAny_bind (wpAny_onRaise ?_)))));show wpAny _ _ (nextOf (.ref i2)>>=_) _ _ _;have w3:S2 k N:=t.keep _ _ _ Y (λo e=>h.extBut _ _ D.TOi2.symm (j.extBut _ _ D.i12.symm (g.extBut _ _ D.i2z e))) λo e=>h.extBut _ _ D.l2TO (j.extBut _ _ D.l2i1 (g.extBut _ _ D.l2z e));refine wpAny_bind (t.item k _ _ _ y w3 hy λt4 w4 l=>wpAny_pure ?_);have O:IsPair t4 TO x b:=l.extBut _ _ D.TOi2 H;refine wpAny_bind (wpAny_seqItems O rfl (wpAny_bind (wpAny_updateSeq_pair O λf u i=>?_)));have u:IsPair f TO x y:=u;refine wpAny_bind (wpAny_letGo (wpAny_pure (wpAny_pure (wpAny_bind (wpAny_seqItems u rfl (wpAny_bind (wpAny_newTuple ?_)))))));have hsz:f.objs.size=s.heap.objs.size:=by rw[i.1,l.1,h.1,j.1,g.1]
 have U:IsZip f z TI TO .ellipsis:=i.extBut _ _ D.TOz.symm (l.extBut _ _ D.i2z.symm (h.extBut _ _ D.TOz.symm (j.extBut _ _ D.i1z.symm G)));have kp:∀c o,c≠z->c≠TO->c≠i1->c≠i2->s.heap.get? c=some o->f.get? c=some o:=λc o c1 c2 c3 c4 e=>i.extBut _ _ c2 (l.extBut _ _ c4 (h.extBut _ _ c2 (j.extBut _ _ c3 (g.extBut _ _ c1 e))));have q5:S1 (k+1) f:=r.keep _ _ _ q2 (λo e=>i.extBut _ _ D.TOi1.symm (l.extBut _ _ D.i12 (h.extBut _ _ D.TOi1.symm e))) λo e=>i.extBut _ _ D.l1TO (l.extBut _ _ D.l1i2 (h.extBut _ _ D.l1TO e));have w5:S2 (k+1) f:=t.keep _ _ _ w4 (λo e=>i.extBut _ _ D.TOi2.symm e) λo e=>i.extBut _ _ D.l2TO e;have p:z<f.objs.size:=lt_size U;show wpAny _ _ (ownedTupleHandOut (.ref z) (.ref f.objs.size)>>=_) _ _ _;refine wpAny_bind ?_;unfold ownedTupleHandOut;have z6:IsZip (f.push {cls:=.type "tuple",data:=.seq #[x,y]}) z TI TO .ellipsis:=iG U;refine wpAny_bind (wpAny_setField_rec z6 (by simp) λt7 I J=>?_);have I:IsZip t7 z TI TO (rawInt f.objs.size):=I;refine wpAny_setField_rec I (by simp) λq B L=>?_;have B:IsZip q z TI TO (rawInt f.objs.size):=B;have m:∀c o,c≠z->f.get? c=some o->q.get? c=some o:=λc o c1 e=>L.extBut _ _ c1 (J.extBut _ _ c1 (iG e));have W:IsPair q f.objs.size x y:=L.extBut _ _ (Nat.ne_of_gt p) (J.extBut _ _ (Nat.ne_of_gt p) (get?_push_size _ rfl));have X:q.objs.size=f.objs.size+1:=by rw[L.1,J.1,size_push]
 rw[hsz]at B W X;refine wpAny_pure ⟨_,rfl,?_⟩;show Q (.ref f.objs.size) _;rw[hsz];exact hQ q B (m _ _ D.TOz u) (r.keep _ _ _ q5 (λo e=>m _ o D.i1z e) λo e=>m _ o D.l1z e) (t.keep _ _ _ w5 (λo e=>m _ o D.i2z e) λo e=>m _ o D.l2z e) W X λc o c1 c2 c3 c4 e=>m c o c1 (kp c o c1 c2 c3 c4 e)
theorem Bj{Q:Fin->Shared->Prop}(D:ZipApart z TI TO i1 i2 l1 l2)(r:Nx prog w A i1 l1 S1 g1)(C:Nx prog w A i2 l2 S2 g2)(n:IsZip s.heap z TI TO .none)(t:IsPair s.heap TI (.ref i1) (.ref i2))(u:IsPair s.heap TO a b)(h1:S1 k s.heap)(N:S2 k s.heap)(p:g1 k=none\/g2 k=none)(F:∀h' e,(∀c o,c≠z->c≠TO->c≠i1->c≠i2->s.heap.get? c=some o->h'.get? c=some o)->(∃o,h'.get? e=some o/\o.cls=.type "StopIteration")->E (.ref e) {s with heap:=h'}):wpAny (model prog w) A (Builtin.«zip.__next__» ⟨[.ref z],[]⟩) Q E s:=by
 show wpAny _ _ (field (.ref z) 2>>=_) _ _ _;refine wpAny_bind (wpAny_field n rfl (x:=.bool false) rfl ?_);show wpAny _ _ (field (.ref z) 3>>=_) _ _ _;refine wpAny_bind (wpAny_field n rfl (x:=.ref TI) rfl (wpAny_bind (wpAny_seqItems t rfl ?_)));show wpAny _ _ (ownedTupleIsFree (.ref z)>>=_) _ _ _;refine wpAny_bind ?_;unfold ownedTupleIsFree;refine wpAny_bind (wpAny_field n rfl (x:=.none) rfl (wpAny_pure ?_));simp only[if_true];refine wpAny_bind (wpAny_rule (wpAny_bind (wpAny_field n rfl (x:=.ref TO) rfl (wpAny_bind (wpAny_setField_rec n (by simp) λt1 q j=>?_)))));have q:IsZip t1 z TI TO .ellipsis:=q;refine wpAny_bind ?_;simp only[List.zipIdx_cons,List.zipIdx_nil,forIn_cons,forIn_nil];refine wpAny_bind (wpAny_bind (wpAny_onRaise ?_));show wpAny _ _ (nextOf (.ref i1)>>=_) _ _ _
 have G:S1 k t1:=r.keep _ _ _ h1 (λo e=>j.extBut _ _ D.i1z e) λo e=>j.extBut _ _ D.l1z e;cases hx:g1 k with|none=>
   refine wpAny_bind (r.fin k _ _ _ G hx λv e i he=>?_);obtain⟨y,f,g⟩:=he;have H:IsZip v z TI TO .ellipsis:=i _ _ D.i1z.symm q;have l:e≠z:=λx=>by subst x;rw[H]at f;cases f;simp at g
   exact wpAny_setField_rec H (by simp) λB _ m=>F B e (λc o c1 _ c3 _ x=>m.extBut _ _ c1 (i _ _ c3 (j.extBut _ _ c1 x))) ⟨y,m.extBut _ _ l f,g⟩|some x=>
   have O:g2 k=none:=by rcases p with h|h;rw[hx]at h;cases h;exact h
   refine wpAny_bind (r.item k _ _ _ x G hx λv Y i=>wpAny_pure ?_);have I:IsPair v TO a b:=i.extBut _ _ D.TOi1 (j.extBut _ _ D.TOz u);refine wpAny_bind (wpAny_seqItems I rfl (wpAny_bind (wpAny_updateSeq_pair I λB Z m=>?_)));refine wpAny_bind (wpAny_letGo (wpAny_pure (wpAny_bind (wpAny_bind (wpAny_onRaise ?_)))));show wpAny _ _ (nextOf (.ref i2)>>=_) _ _ _;have U:S2 k B:=C.keep _ _ _ N (λo e=>m.extBut _ _ D.TOi2.symm (i.extBut _ _ D.i12.symm (j.extBut _ _ D.i2z e))) λo e=>m.extBut _ _ D.l2TO (i.extBut _ _ D.l2i1 (j.extBut _ _ D.l2z e));refine wpAny_bind (C.fin k _ _ _ U O λW e J he=>?_);obtain⟨y,f,g⟩:=he;have L:IsZip W z TI TO .ellipsis:=J _ _ D.i2z.symm (m.extBut _ _ D.TOz.symm (i.extBut _ _ D.i1z.symm q));have l:e≠z:=λx=>by subst x;rw[L]at f;cases f;simp at g
   exact wpAny_setField_rec L (by simp) λX _ M=>F X e (λc o c1 c2 c3 c4 x=>M.extBut _ _ c1 (J _ _ c4 (m.extBut _ _ c2 (i.extBut _ _ c3 (j.extBut _ _ c1 x))))) ⟨y,M.extBut _ _ l f,g⟩
theorem j8{x y:Value}{Q:Option Value->Shared->Prop}(D:ZipApart z TI TO i1 i2 l1 l2)(i:Nx prog w A.in1 i1 l1 S1 g1)(j:Nx prog w A.in1 i2 l2 S2 g2)(g:IsZip s.heap z TI TO .none)(e:IsPair s.heap TI (.ref i1) (.ref i2))(f:IsPair s.heap TO a b)(h1:S1 k s.heap)(l:S2 k s.heap)(m:g1 k=some x)(n:g2 k=some y)(p:∀ h',IsZip h' z TI TO (rawInt s.heap.objs.size)->IsPair h' TO x y->S1 (k+1) h'->S2 (k+1) h'->IsPair h' s.heap.objs.size x y->h'.objs.size=s.heap.objs.size+1->(∀c o,c≠z->c≠TO->c≠i1->c≠i2->s.heap.get? c=some o->h'.get? c=some o)->Q (some (.ref s.heap.objs.size)) {s with heap:=h'}):wpAny (model prog w) A (pyNext (.ref z)) Q E s:=by have h:s.TypeIs (.ref z) "zip":=⟨_,g,rfl⟩;unfold pyNext;exact wpAny_bind (wpAny_attempt (wpAny_callSpecial?_slot (name:=Str.ofString "__next__") h F.slot_zip_next (wpAny_call_entry F.slot_zip_next h F.entry_zip_next (yG D i j g e f h1 l m n λh' q r t u v B C=>wpAny_pure (p h' q r t u v B C)) (F.args_zip_next_1 _))))
theorem lZ{Q:Option Value->Shared->Prop}(D:ZipApart z TI TO i1 i2 l1 l2)(l:Nx prog w A.in1 i1 l1 S1 g1)(m:Nx prog w A.in1 i2 l2 S2 g2)(i:IsZip s.heap z TI TO .none)(g:IsPair s.heap TI (.ref i1) (.ref i2))(h:IsPair s.heap TO a b)(h1:S1 k s.heap)(n:S2 k s.heap)(f:g1 k=none\/g2 k=none)(p:∀h',(∀c o,c≠z->c≠TO->c≠i1->c≠i2->s.heap.get? c=some o->h'.get? c=some o)->Q none {s with heap:=h'}):wpAny (model prog w) A (pyNext (.ref z)) Q E s:=by have j:s.TypeIs (.ref z) "zip":=⟨_,i,rfl⟩;unfold pyNext;refine wpAny_bind (wpAny_attempt (wpAny_callSpecial?_slot (name:=Str.ofString "__next__") j F.slot_zip_next (wpAny_call_entry F.slot_zip_next j F.entry_zip_next (Bj D l m i g h h1 n f λh' e q he=>?_) (F.args_zip_next_1 _))));obtain⟨o,ho,hc⟩:=he;exact wpAny_bind (wpAny_isInstance (T:="StopIteration") (b:=true) ⟨o,ho,hc⟩ isSubtype_stop (wpAny_pure (p _ q)))
end
end PySem
end
section
namespace L2
open PySem PySem.Spec PyProof.Rows
section
variable{X:Cx}{pins:List (Addr×Obj)}{σ:L2.St}{H:Hp}{s:Shared}
theorem GQ(t:Bool){prog:Program}{w:World}{A:Around}(b:A.handled=none)(it l:Addr)(a:l≠it)(items:Array Value):Nx prog w A it l (λk h=>qY t h it l k/\pG t h l items) (λk=>items[k]?):=by cases t with|true=>exact Nx.tuple b it l a items|false=>exact Nx.list b it l a items
theorem Inv.Al{ch:List Addr}{h':Heap}(I:Inv X pins σ H s)(k:∀b u,b∉ch->s.heap.get? b=some u->h'.get? b=some u)(g:∀b∈ch,lA X pins H b):Inv X pins σ H {s with heap:=h'}:=by
 have h:∀b u,H b=some u->b∉ch:=λb u e a=>by rw[(g b a).1]at e;cases e
 refine I.call (g':=s.gens) (d':=s.drawn) (t':=s.toks) (ch:=ch) ⟨λb u e n _ f=>k b u f e,λb u e n _ f=>⟨u.slots,k b u f e⟩,λb u e n f=>n,λb u e f=>⟨u,k b u f e⟩,λb xs e=>e,λb i u e=>e,λb ps e=>⟨#[],by rw[e];simp⟩⟩ ?_ I.bare λb a=>⟨(g b a).2.2.2.1,(g b a).2.1,(g b a).2.2.2.2.1,(g b a).2.2.2.2.2⟩;intro b u e;refine(I.hok b u e).stay (λc v hc q=>k c v ?_ q) (λc q=>q) λc xs q=>q;rcases hc with rfl|hc;.exact h _ _ e
 .exact h _ _ hc
end
noncomputable def R4(t1 c:Bool)(K:PySem.W.Frag)(a b:Addr):It:=⟨λi H=>∃ xs ys x y,Sq t1 K H a xs/\Sq c K H b ys/\xs[i]?=some x/\ys[i]?=some y,λi H x e=>∃T v w,H T=none/\x=.ref T/\e=upd H T (.tup [v,w])/\(∀xs,Sq t1 K H a xs->xs[i]?=some v)/\∀ys,Sq c K H b ys->ys[i]?=some w,λi H=>∃xs ys,Sq t1 K H a xs/\Sq c K H b ys/\(xs.length<=i\/ys.length<=i)⟩
theorem Dh{P:Program}{w:World}{K:PySem.W.Frag}{elts:List Expr}{x1}{tp:Pos}(t1 C:Bool){z TI TO i1 i2 t B:Addr}(D:ZipApart z TI TO i1 i2 t B):Turn P w K (.Tuple elts x1 tp) (R4 t1 C K t B) [z,TI,TO,i1,i2] z (λi h=>IsZip h z TI TO .none/\IsPair h TI (.ref i1) (.ref i2)/\(∃a b,IsPair h TO a b)/\qY t1 h i1 t i/\qY C h i2 B i)where
 mem:=by simp
 obj:=λi h st b c=>by
  obtain⟨h1,j,⟨u,v,n⟩,p,r⟩:=st;simp only[mem_cons,not_mem_nil,or_false]at c;rcases c with rfl|rfl|rfl|rfl|rfl;.exact⟨_,h1,λv z=>by cases z⟩
  .exact⟨_,j,λv z=>by cases z⟩
  .exact⟨_,n,λv z=>by cases z⟩
  .exact p.obj
  .exact r.obj
 keep:=λi h h' st k=>by obtain⟨h1,j,⟨u,v,n⟩,p,r⟩:=st;exact⟨k z (by simp) _ h1,k TI (by simp) _ j,⟨u,v,k TO (by simp) _ n⟩,p.keep (k i1 (by simp)),r.keep (k i2 (by simp))⟩
 item:=λX O hw U hc i F s σ H E I L st go=>by
  subst O hw U;obtain⟨h1,j,⟨u,v,n⟩,p,r⟩:=st;obtain⟨xs,ys,x,y,l,m,hx,hy⟩:=go;obtain⟨Y,Z,PK⟩:=I.sq l;obtain⟨f,HJ,Jm⟩:=I.sq m;obtain⟨M,ae,af⟩:=Z.get hx;obtain⟨N,ag,ah⟩:=HJ.get hy;have G:X.A.in1.handled=none:=I.ok.hd hc;refine j8 D (GQ t1 G i1 t D.l1i1 Y.toArray) (GQ C G i2 B D.l2i2 f.toArray) h1 j n (k:=i) ⟨p,PK⟩ ⟨r,Jm⟩ (x:=M) (y:=N) (by simpa using ae) (by simpa using ag) λh' z1 p1 s1 s2 pT hsz kp=>?_;refine⟨_,rfl,wpAny_letOwnedTupleGo_zip z1 λg z2 sb=>?_⟩;have J:∀b∈[z,TI,TO,i1,i2],b≠s.heap.objs.size:=λb c=>by
   simp only[mem_cons,not_mem_nil,or_false]at c;rcases c with rfl|rfl|rfl|rfl|rfl;.exact ne_of_lt (lt_size h1)
   .exact ne_of_lt (lt_size j)
   .exact ne_of_lt (lt_size n)
   .exact ne_of_lt (lt_size p.obj.choose_spec.1)
   .exact ne_of_lt (lt_size r.obj.choose_spec.1)
  have Vw:∀b o,b∉[z,TO,i1,i2]->s.heap.get? b=some o->g.get? b=some o:=λb o c q=>by simp only[mem_cons,not_mem_nil,or_false,not_or]at c;exact sb.extBut b o c.1 (kp b o c.1 c.2.1 c.2.2.1 c.2.2.2 q)
  have ai:IsPair g s.heap.objs.size M N:=sb.extBut _ _ (J z (by simp)).symm pT;have p2:IsPair g TO M N:=sb.extBut _ _ D.TOz p1;have j1:qY t1 g i1 t (i+1):=s1.1.keep λo e=>sb.extBut _ _ D.i1z e;have j2:qY C g i2 B (i+1):=s2.1.keep λo e=>sb.extBut _ _ D.i2z e;refine⟨.ref s.heap.objs.size,upd H s.heap.objs.size (.tup [x,y]),?_,rfl,⟨_,x,y,I.fresh,rfl,rfl,λzs hz=>?_,λzs hz=>?_⟩,⟨z2,Vw TI _ ?_ j,⟨_,_,p2⟩,j1,j2⟩,λb c=>?_⟩
  . refine I.Bh (ch:=[z,TO,i1,i2]) (t':=s.toks) Vw (λb c=>?_) (λb c=>L b ?_) ⟨(by show 2<=sizeLine;decide),[M,N],.cons af (.cons ah .nil),⟨_,ai,rfl,_,rfl⟩⟩
    . simp only[mem_cons,not_mem_nil,or_false]at c;rcases c with rfl|rfl|rfl|rfl;.exact⟨_,z2⟩
      .exact⟨_,p2⟩
      .exact⟨_,j1.obj.choose_spec.1⟩
      .exact⟨_,j2.obj.choose_spec.1⟩
    .simp only[mem_cons,not_mem_nil,or_false]at c ⊢;rcases c with h|h|h|h<;>simp[h]
  .rw[I.uY hz l];exact hx
  .rw[I.uY hz m];exact hy
  .simp[D.TIz,D.TITO,D.TIi1,D.TIi2]
  .rw[aC (J b c)];exact(L b c).1
 done:=λX O hw U hc i F s σ H E I L st stop=>by
  subst O hw U;obtain⟨h1,j,⟨u,v,n⟩,p,r⟩:=st;obtain⟨xs,ys,l,m,hx⟩:=stop;obtain⟨Y,Z,PK⟩:=I.sq l;obtain⟨f,HJ,Jm⟩:=I.sq m;have G:X.A.in1.handled=none:=I.ok.hd hc;refine lZ D (GQ t1 G i1 t D.l1i1 Y.toArray) (GQ C G i2 B D.l2i2 f.toArray) h1 j n (k:=i) ⟨p,PK⟩ ⟨r,Jm⟩ ?_ λh' kp=>⟨rfl,?_⟩
  . rcases hx with hx|hx;.left;rw[Z.length]at hx;simpa using hx
    .right;rw[HJ.length]at hx;simpa using hx
  .exact I.Al (ch:=[z,TO,i1,i2]) (λb u c q=>by simp only[mem_cons,not_mem_nil,or_false,not_or]at c;exact kp b u c.1 c.2.1 c.2.2.1 c.2.2.2 q) λb c=>L b (by simp only[mem_cons,not_mem_nil,or_false]at c ⊢;rcases c with h|h|h|h<;>simp[h])
 self:=λA i s Q E st q=>wpAny_pyIter_zip st.1 q
noncomputable def MK(t:Bool)(l:Addr):Obj:={cls:=.type (if t then"tuple_iterator"else"list_iterator"),data:=.fields #[.ref l,.int 0 0]}
section
variable{prog:Program}{w:World}{A:Around}{E:Value->Shared->Prop}{s:Shared}{t t1 t2:Bool}{l1 l2:Addr}{xs ys:Array Value}{Q:Value->Shared->Prop}
theorem Dv(a:pG t s.heap l1 xs)(b:Q (.ref s.heap.objs.size) {s with heap:=s.heap.push (MK t l1)}):wpAny (model prog w) A (pyIter (.ref l1)) Q E s:=by
 cases t;.exact wpAny_pyIter_list a b
 .exact wpAny_pyIter_tuple a b
theorem pG.push{h:Heap}(o:Obj)(q:pG t h l1 xs):pG t (h.push o) l1 xs:=by
 cases t;.exact Heap.IsList.push q _
 .exact Heap.IsTuple.push q _
theorem qY.new{h:Heap}(e:h.get? l2=some (MK t l1)):qY t h l2 l1 0:=by cases t<;>exact⟨_,e,rfl,rfl⟩
noncomputable def RM(l1 l2:Addr):Obj:={cls:=.type "zip",data:=.fields #[.none,.bool false,.bool false,.ref l1,.ref l2]}
noncomputable def Hn(u v:Value):Obj:={cls:=.type "tuple",data:=.seq #[u,v]}
theorem yI(t1 t2:Bool)(l1 l2:Addr)(xs ys:Array Value):Meets (Builtin.«zip.__new__» ⟨[.type "zip",.ref l1,.ref l2],[]⟩) (λ_ R s=>pG t1 s.heap l1 xs/\pG t2 s.heap l2 ys/\R (.ok (.ret (.ref (s.heap.objs.size+4)))) {s with heap:=((((s.heap.push (MK t1 l1)).push (MK t2 l2)).push (Hn (.ref s.heap.objs.size) (.ref (s.heap.objs.size+1)))).push (Hn .none .none)).push (RM (s.heap.objs.size+2) (s.heap.objs.size+3))}):=.of_wp λprog w A R s h=>by obtain⟨f,g,d,i,os⟩:=s;obtain⟨a,b,h⟩:=h;have j:=sub_zip;have c:pG t1 (Shared.heap ⟨f,g,d,i,os⟩) l1 xs:=a;have e:pG t2 (Shared.heap ⟨f.push (MK t1 l1),g,d,i,os⟩) l2 ys:=b.push _;wp_walk using Dv c,Dv e;simp only[size_push]at*;exact⟨_,rfl,h⟩
theorem jL{h h':Heap}{o:Obj}{n:Nat}(e:h.push o=h')(a:h.objs.size=n)(f:o.isFreed=false):h'.objs.size=n+1/\h'.get? n=some o/\∀c u,h.get? c=some u->h'.get? c=some u:=by subst e a;exact⟨size_push _ _,get?_push_size _ f,λ_ _=>get?_push_of_some _⟩
theorem yZ(f:pG t1 s.heap l1 xs)(g:pG t2 s.heap l2 ys)(h:∀ h',IsZip h' (s.heap.objs.size+4) (s.heap.objs.size+2) (s.heap.objs.size+3) .none->IsPair h' (s.heap.objs.size+2) (.ref s.heap.objs.size) (.ref (s.heap.objs.size+1))->IsPair h' (s.heap.objs.size+3) .none .none->qY t1 h' s.heap.objs.size l1 0->qY t2 h' (s.heap.objs.size+1) l2 0->(∀c o,s.heap.get? c=some o->h'.get? c=some o)->Q (.ref (s.heap.objs.size+4)) {s with heap:=h'}):wpAny (model prog w) A (call (.type "zip") [.ref l1,.ref l2]) Q E s:=by refine callType_new F.called_zip (by decide) (F.typeCall_zip_2 _ _) (F.newCall_zip_2 _ _) (λobj=>F.args_object_init_3 obj _ _) F.entry_zip_new (yI t1 t2 l1 l2 xs ys) ⟨f,g,?_⟩;generalize l:s.heap.push (MK t1 l1)=h1;obtain⟨m,n,p⟩:=jL l rfl rfl;generalize q:h1.push (MK t2 l2)=r;obtain⟨u,v,j⟩:=jL q m rfl;generalize x:r.push (Hn _ _)=y;obtain⟨z,B,i⟩:=jL x u rfl;generalize C:y.push (Hn _ _)=G;obtain⟨H,I,b⟩:=jL C z rfl;generalize J:G.push (RM _ _)=L;obtain⟨_,k,a⟩:=jL J H rfl;exact⟨⟨_,k,rfl⟩,h L k (a _ _ (b _ _ B)) (a _ _ I) (.new (a _ _ (b _ _ (i _ _ (j _ _ n))))) (.new (a _ _ (b _ _ (i _ _ v)))) λc o e=>a _ _ (b _ _ (i _ _ (j _ _ (p _ _ e))))⟩
end
section
variable{X:Cx}{elts:List Expr}{x1:Nat}{tp:Pos}
theorem J2{n l m:Nat}(h1:l<n)(a:m<n):ZipApart (n+4) (n+2) (n+3) n (n+1) l m:=by constructor<;>exact λh=>absurd (show(_:Nat)=_ from h) (by omega)
def XF(K:PySem.W.Frag)(R:It->Hp->Prop)(vs:List V)(c:Hp):Prop:=∃t1 e a b,vs=[.ref a,.ref b]/\(∃xs,Sq t1 K c a xs)/\(∃ys,Sq e K c b ys)/\R (R4 t1 e K a b) c
def WX(K:PySem.W.Frag)(a:TA):TI:=λb H R=>a b H (XF K R)
theorem boot_zip:bootBuiltins "zip"=some (.type "zip"):=by decide+kernel
theorem JH{a b:Expr}{k:TA}{p pos:Pos}(t:Gl X "zip")(w:X.mg "zip"=none)(x:PA X [a,b] k)(hs:starEach [a,b] X.env=[(false,eval a X.env),(false,eval b X.env)]:=by rfl)(c:starEach [b] X.env=[(false,eval b X.env)]:=by rfl):PI X (.Tuple elts x1 tp) (.Call (.Name "zip" p) [a,b] [] pos) (WX X.K k):=by
 intro e s y H R I h;refine Call_ (jt I t w boot_zip (PyProof.Rows.callWith_type1 (cT (x pos e s y H _ I h) ?_) (by rw[hs,c]) (by rw[c];rfl)));rintro Q s1⟨vs,z,f,A,B⟩;obtain⟨t1,C,E,F,rfl,⟨xs,i⟩,⟨ys,j⟩,q⟩:=B;obtain⟨u,v,rfl,G,J⟩:=A.two;cases G;cases J;obtain⟨U,W,l⟩:=f.sq i;obtain⟨m,Y,n⟩:=f.sq j;have b1:=l.lt;have b2:=n.lt;refine yZ l n λh' o L M N O kp=>?_;have D:ZipApart (s1.heap.objs.size+4) (s1.heap.objs.size+2) (s1.heap.objs.size+3) s1.heap.objs.size (s1.heap.objs.size+1) E F:=J2 b1 b2;refine wpAny_pyIter_zip o ⟨_,_,_,_,z,rfl,f.kept (t':=s1.toks) kp,Dh t1 C D,⟨o,L,⟨_,_,M⟩,N,O⟩,λb r=>?_,q⟩;have g:s1.heap.objs.size<=b:=by simp only[mem_cons,not_mem_nil,or_false]at r;rcases r with rfl|rfl|rfl|rfl|rfl<;>first|exact Nat.le_add_right _ _|exact cH
 exact f.yW g (f.hok.fresh g)
end
end L2
namespace HH
open PySem L2 PySem.Spec PyProof.Rows
variable{x:Str}
section
variable{K:PySem.W.Frag}{F F1 H H1:Hp}{ρ ρ1:List Sl}{σ:L2.St}{ds es:List D}{a b:Addr}
theorem aK.sq{t:Bool}{xs:List V}(e:aK F H)(h:Sq t K F a xs):Sq t K H a xs:=by cases t with|true=>exact aK.eZ e h|false=>exact e.seq h
theorem Gj{t1 j:Bool}{xs ys:List V}{l c:Hp}(e:Sq t1 K c a xs)(f:Sq j K c b ys)(o:aF K l xs ds)(q:aF K l ys es)(s:aK l c)(k:Nat):(∀d,((ds.zip es).map λp=>D.tup [p.1,p.2])[k]?=some d->(R4 t1 j K a b).go k c/\∀x m,(R4 t1 j K a b).Hv k c x m->∃g,Ext l c g m/\Rep K g x d)/\(((ds.zip es).map λp=>D.tup [p.1,p.2]).length<=k->(R4 t1 j K a b).stop k c):=by refine⟨λd hd=>?_,λh=>⟨xs,ys,e,f,by rw[o.length,q.length];rw[length_map,List.length_zip]at h;omega⟩⟩;rw[getElem?_map]at hd;obtain⟨⟨d0,d1⟩,r,t⟩:=map_some hd;subst t;obtain⟨f1,f2⟩:=List.getElem?_zip_eq_some.mp r;obtain⟨w,h1,u⟩:=o.get f1;obtain⟨z,i,n⟩:=q.get f2;refine⟨⟨xs,ys,w,z,e,f,h1,i⟩,?_⟩;rintro x m⟨T,v,G,A,B,C,y,E⟩;subst B;subst C;have:=y xs e;rw[h1]at this;cases this;have:=E ys f;rw[i]at this;cases this;exact tL s A u n
theorem Bp{v:V}{d:D}{ds:List D}(h:Rep K F v d)(e:items d=some ds):∃t a xs,v=.ref a/\Sq t K F a xs/\aF K F xs ds:=by cases d with|tup es=>cases e;rw[Rep]at h;obtain⟨a,xs,rfl,h1,c⟩:=h;exact⟨true,a,xs,rfl,h1,c⟩|lst es=>cases e;rw[Rep]at h;obtain⟨a,xs,rfl,h1,c⟩:=h;exact⟨false,a,xs,rfl,h1,c⟩|_=>cases e
end
section
variable{X:Cx}{c:Call}{e a b:Expr}{pa pb:P}{pos:Pos}{elts:List Expr}{x1:Nat}{tp:Pos}
theorem Bk{w:Pos}(y:x="zip")(z:Gl X x)(A:X.mg x=none)(B:SX X c a pa)(C:SX X c b pb)(hs:starEach [a,b] X.env=[(false,eval a X.env),(false,eval b X.env)]:=by rfl)(f:starEach [b] X.env=[(false,eval b X.env)]:=by rfl):SI X c (.Tuple elts x1 tp) (.Call (.Name x w) [a,b] [] pos) (.zip pa pb):=by subst y;refine qd (JH z A (mL B (mL C aG f) (by rw[hs,f])).1 hs f) ?_;rintro σ H R⟨F,ρ,ds,E,g,e,k⟩;obtain⟨r,G,p,l⟩:=ao e;have o:=aJ l;clear l;obtain⟨l,I⟩:=o;subst I;rw[HH.E22]at p;obtain⟨x0,j,J,L⟩:=ao p;obtain⟨M,N,O,m⟩:=ao L;have o:=aJ m;clear m;obtain⟨m,Q⟩:=o;subst Q;obtain⟨us,f1,U⟩:=fB m;obtain⟨ws,f2,f3⟩:=map_some U;subst f3;cases l;refine⟨F,ρ,[x0.d,M.d],_,g,by rw[rR,J];show(evs c [pb] j).bind _=_;rw[rR,O];rfl,λvs W Y s h=>?_⟩;obtain⟨v,r',rfl,Z,h⟩:=h.cz;obtain⟨u,ae,rfl,ru,h⟩:=h.cz;rw[h.eV];obtain⟨t1,a1,xs,rfl,q,r1⟩:=Bp Z f1;obtain⟨t2,a2,ys,rfl,t,r2⟩:=Bp ru f2;exact⟨t1,t2,a1,a2,rfl,⟨xs,aK.sq s.gs.sub q⟩,⟨ys,aK.sq s.gs.sub t⟩,k _ _ _ ⟨s.gs,λn k W af ag Y i=>Gj (aK.sq i.gs.sub (aK.sq i.cW q)) (aK.sq i.gs.sub (aK.sq i.cW t)) (r1.mono i.cW) (r2.mono i.cW) i.gs.sub k,λF3 j ah H3 s3=>⟨s.trans s3,λv r h=>h.later s⟩⟩⟩
end
structure cU(K:PySem.W.Frag)(x:Str)(st:Stmt):Prop where ex:∃f fd,PySem.W.nsIn K mainGlobals x=some (some (.ref f))/\lF K x x st f fd
section
variable{Pg:Program}{w:World}{K:PySem.W.Frag}{mg:Str->Option Value}{base h:Heap}
theorem Mr{st:Stmt}{f:Addr}{g:Value}{i j:Option Addr}{b:Array (Option Value)}{kV e m cdv ct:Value}(a:PySem.W.nsIn K mainGlobals x=some (some (.ref f)))(l:K.lookup f=some ⟨g,i,.func (PySem.W.fnOf x x (gQ st) (eE st) (aH st) .none kV e m j cdv ct),b⟩)(c:PySem.W.codeIn K cdv x=true)(k:keepIn K (.ref f)=true):cU K x st:=⟨_,_,a,Kw l c k⟩
theorem dz{Γ:Tab}{wl i np:Nat}{st:Stmt}{ps:List Str}(X:K.In h)(G:h.Ns mainGlobals mg)(D:cU K x st)(j:ps.length=np)(k:∀(kV g l:Value)(m:Option Addr)(cdv ct:Value)(c:List Value),c.length=ps.length->bindArgs (PySem.W.fnOf x x (gQ st) (eE st) (aH st) .none kV g l m cdv ct) ⟨c,[]⟩=pure (ps.zip c)):bO Pg w K mg base 0 (run Γ wl 0) i x np:=by obtain⟨f,fd,a,F⟩:=D.ex;exact⟨f,fd,ps,⟨λvs H Q E s=>s.1,λA outer s H args c vs Q E hr e b v sp=>by obtain⟨_,F,as,r,n,_,z,_⟩:=sp;cases z⟩,mg_of X G a,F.kp,F.binds k,j⟩
theorem du{Γ:Tab}{wl n i np:Nat}{st:Stmt}{ps:List Str}{d:Fd}(X:K.In h)(G:h.Ns mainGlobals mg)(D:cU K x st)(j:ps.length=np)(b:Γ i=some d)(k:∀(kV c l:Value)(m:Option Addr)(cdv ct:Value)(g:List Value),g.length=ps.length->bindArgs (PySem.W.fnOf x x (gQ st) (eE st) (aH st) .none kV c l m cdv ct) ⟨g,[]⟩=pure (ps.zip g))(ok:∀f fd,lF K x x st f fd->lz Pg w K mg base Af (n+1) f fd ps (GR K np (λargs=>enter (run Γ wl n) wl d args))):bO Pg w K mg base (n+1) (run Γ wl (n+1)) i x np:=by
 obtain⟨f,fd,a,F⟩:=D.ex;refine⟨f,fd,ps,?_,mg_of X G a,F.kp,F.binds k,j⟩;have e:run Γ wl (n+1) i=λargs=>enter (run Γ wl n) wl d args:=by funext args;show(match Γ i with|some d=>enter (run Γ wl n) wl d args|none=>.stuck)=_;rw[b]
 rw[e,j];exact ok f fd F
theorem pQ{F:Hp}:∀ns:List Int,aF K F (ns.map V.int) (ns.map D.int)|[]=>.nil|n::ns=>.cons (cV n) (pQ ns)
theorem yM{H:Hp}{a:Addr}{ns:List Int}{g:List Sl->Res R}{as:List Sl}(l:gb K H a (ns.map V.int))(hr:g [.val false (.lst (ns.map D.int))]=.ok (.val (.bl true)) as):GR K 1 g [.ref a] H (λv _=>v=.bl true) λ_ _ _=>False:=by
 refine⟨rfl,H,_,_,as,⟨.refl _,rfl,λi b d e=>?_,λi s m e k=>?_,λi j c h=>?_⟩,hr,λv n o p s f=>?_⟩;.match i,e with|0,e=>cases e;refine⟨.ref a,rfl,?_⟩;rw[Rep];exact⟨a,_,rfl,l,pQ ns⟩|i+1,e=>simp at e
 .match i,e with|0,e=>cases e;cases k|i+1,e=>simp at e
 .obtain⟨⟨s,m,e,k⟩,_⟩:=h;match i,e with|0,e=>cases e;cases k|i+1,e=>simp at e
 .have f:Rep K n v (.bl true):=f;rw[Rep]at f;exact f
end
end HH
end
section
namespace HH
open PySem
variable{n:Nat}{c:Call}{ρ:List Sl}{is:List Nat}{ds:List D}
def Res.sat{b:Type}(Q:b->List Sl->Prop)(x:Res b):Prop:=match x with|.ok a ρ=>Q a ρ|.exc _ _=>False|.stuck=>False
section
variable{α β:Type}{Q Q':α->List Sl->Prop}
@[simp]theorem Bq{a:α}{ρ:List Sl}:(Res.ok a ρ).sat Q=Q a ρ:=rfl
@[simp]theorem T6{k:Nat}{ρ:List Sl}:(Res.exc k ρ:Res α).sat Q=False:=rfl
@[simp]theorem Ov:(Res.stuck:Res α).sat Q=False:=rfl
theorem bW{x:Res β}{f:β->List Sl->Res α}:(x.bind f).sat Q=x.sat λa ρ=>(f a ρ).sat Q:=by cases x<;>rfl
@[simp]theorem U6{p:Prop}[Decidable p]{x y:Res α}:(if p then x else y).sat Q=((p->x.sat Q)/\(¬ p->y.sat Q)):=by by_cases h:p<;>simp[h]
@[simp]theorem pB{a:α}{ρ:List Sl}:(lift (some a) ρ).sat Q=Q a ρ:=rfl
@[simp]theorem DY{ρ:List Sl}:(lift (none:Option α) ρ).sat Q=False:=rfl
@[simp]theorem G6{p:Prop}[Decidable p]{a:α}{ρ:List Sl}:(lift (if p then some a else none) ρ).sat Q=(p/\Q a ρ):=by by_cases h:p<;>simp[h]
theorem Res.sat.imp{x:Res α}(h:x.sat Q)(k:∀a ρ,Q a ρ->Q' a ρ):x.sat Q':=by cases x with|ok a ρ=>exact k a ρ h|exc _ _=>exact h|stuck=>exact h
theorem sat_iff{x:Res α}:x.sat Q↔∃a ρ,x=.ok a ρ/\Q a ρ:=by cases x with|ok a ρ=>exact⟨λh=>⟨a,ρ,rfl,h⟩,λ⟨_,_,e,h⟩=>by cases e;exact h⟩|exc _ _=>exact⟨λh=>h.elim,λ⟨_,_,e,_⟩=>by cases e⟩|stuck=>exact⟨λh=>h.elim,λ⟨_,_,e,_⟩=>by cases e⟩
end
noncomputable def fr:Sl->Bool|.aU=>true|.val b _=>!b|.own b _=>!b|.lent _=>false|.gY _=>false|.qD _=>false|.hold _=>false
@[simp]theorem W6:fr .aU=true:=rfl
@[simp]theorem W5{b:Bool}{d:D}:fr (.val b d)=!b:=rfl
@[simp]theorem Yr{b:Bool}{d:List D}:fr (.own b d)=!b:=rfl
@[simp]theorem U3{d:List D}:fr (.lent d)=false:=rfl
theorem Lp(ρ:List Sl)(i:Nat)(s:Sl):put ρ i s=match ρ[i]?with|some t=>if fr t=true then some (ρ.set i s)else none|none=>none:=by unfold put;cases h:ρ[i]?with|none=>rfl|some t=>cases t with|aU=>rfl|val b d=>cases b<;>rfl|own b d=>cases b<;>rfl|lent d=>rfl|gY m=>rfl|qD m=>rfl|hold m=>rfl
theorem CN{Γ:Tab}{w i:Nat}{d:Fd}{args:List Sl}(h:Γ i=some d):run Γ w (n+1) i args=enter (run Γ w n) w d args:=by rw[run,h]
noncomputable def fin(np:Nat):Fl->List Sl->Option (R×List Sl)|.next,ρ=>some (.val .non,ρ.take np)|.ret r,ρ=>some (r,ρ.take np)|_,_=>none
def eQ(np:Nat)(Q:R->List Sl->Prop)(a:Fl)(ρ:List Sl):Prop:=match a with|.next=>Q (.val .non) (ρ.take np)|.ret r=>Q r (ρ.take np)|_=>False
def sQ(c:Call)(n:Nat)(r:List S)(Q:Fl->List Sl->Prop)(fl:Fl)(ρ:List Sl):Prop:=match fl with|.next=>(je c n r ρ).sat Q|fl=>Q fl ρ
def fQ(J:List Sl->Prop)(Q:Fl->List Sl->Prop)(a:Fl)(ρ:List Sl):Prop:=match a with|.next=>J ρ|.cont=>J ρ|.brk=>Q .next ρ|.ret v=>Q (.ret v) ρ
section
variable{np:Nat}{Q:R->List Sl->Prop}{ρ:List Sl}{v:R}{c:Call}{n:Nat}{r:List S}{Q':Fl->List Sl->Prop}{J:List Sl->Prop}
@[simp]theorem Ut:eQ np Q .next ρ=Q (.val .non) (ρ.take np):=rfl
@[simp]theorem Wa:eQ np Q (.ret v) ρ=Q v (ρ.take np):=rfl
@[simp]theorem Wy:eQ np Q .brk ρ=False:=rfl
@[simp]theorem Vj:eQ np Q .cont ρ=False:=rfl
@[simp]theorem Fv:sQ c n r Q' .next ρ=(je c n r ρ).sat Q':=rfl
@[simp]theorem Yc:sQ c n r Q' (.ret v) ρ=Q' (.ret v) ρ:=rfl
@[simp]theorem Xg:sQ c n r Q' .brk ρ=Q' .brk ρ:=rfl
@[simp]theorem Ue:sQ c n r Q' .cont ρ=Q' .cont ρ:=rfl
@[simp]theorem Ui:fQ J Q' .next ρ=J ρ:=rfl
@[simp]theorem Vl:fQ J Q' .cont ρ=J ρ:=rfl
@[simp]theorem XX:fQ J Q' .brk ρ=Q' .next ρ:=rfl
@[simp]theorem Wh:fQ J Q' (.ret v) ρ=Q' (.ret v) ρ:=rfl
end
theorem yE{d:Fd}{args:List Sl}{Q:R->List Sl->Prop}(a:args.length=d.np)(hd:d.np<=d.nn)(h:(je c n d.body (args++replicate (d.nn-d.np) .aU)).sat (eQ d.np Q)):(enter c n d args).sat Q:=by unfold enter;rw[if_pos ⟨a,hd⟩];revert h;cases je c n d.body (args++replicate (d.nn-d.np) .aU)with|stuck=>exact λh=>False.elim h|exc _ _=>exact λh=>False.elim h|ok b ρ=>cases b<;>first|exact id|exact λh=>False.elim h
theorem bM{Γ:Tab}{w i:Nat}{d:Fd}{args:List Sl}{Q:R->List Sl->Prop}(a:Γ i=some d)(b:args.length=d.np)(hd:d.np<=d.nn)(h:(je (run Γ w n) w d.body (args++replicate (d.nn-d.np) .aU)).sat (eQ d.np Q)):(run Γ w (n+1) i args).sat Q:=by rw[CN a];exact yE b hd h
theorem ak{s:S}{r:List S}{Q:Fl->List Sl->Prop}(h:(ex c n s ρ).sat (sQ c n r Q)):(je c n (s::r) ρ).sat Q:=by rw[xs1,bW];refine h.imp λa b q=>?_;cases a<;>exact q
theorem zf{s:S}{r:List S}{Q:Fl->List Sl->Prop}(h:(ex c n s ρ).sat (sQ c n r Q)):sQ c n (s::r) Q .next ρ:=ak h
@[simp]theorem Vh{c:Call}{n:Nat}{ρ:List Sl}{Q:Fl->List Sl->Prop}:(je c n [] ρ).sat Q=Q .next ρ:=by rw[xs0];rfl
theorem mO{s:S}{r:List S}{Q:Fl->List Sl->Prop}(M:List Sl->Prop)(h:(ex c n s ρ).sat λb a=>b=.next/\M a)(k:∀a,M a->(je c n r a).sat Q):(je c n (s::r) ρ).sat Q:=ak (h.imp λb a⟨e,q⟩=>by subst e;exact k a q)
theorem cC{is:List Nat}{one:Bool}{body:List Sl->Res Fl}(J:List D->List Sl->Prop){Q:Fl->List Sl->Prop}(b:∀d r ρ,J (d::r) ρ->∃a,cj ρ is one d=some a/\(body a).sat (fQ (J r) Q))(f:∀ρ,J [] ρ->Q .next ρ):∀{ds:List D}{ρ:List Sl},J ds ρ->(jW is one body ds ρ).sat Q|[],ρ,j=>f ρ j|d::r,ρ,j=>by obtain⟨a,e,h⟩:=b d r ρ j;rw[Dp,e];show((body a).bind _).sat Q;rw[bW];refine h.imp λg i q=>?_;cases g with|next=>exact cC J b f q|cont=>exact cC J b f q|brk=>exact q|ret v=>exact q
theorem iY{is:List Nat}{one:Bool}{a:List Sl->Res Bool}{o:Ev}(J:List Sl->Prop)(g:D->Option D){Q:List D->List Sl->Prop}:∀{ds acc:List D}{ρ:List Sl},J ρ->(∀ d,d ∈ ds->∀ ρ,J ρ->∃ f,cj ρ is one d=some f/\(a f).sat λb i=>if b=true then(o i).sat λr p=>g d=some r.d/\J p else g d=none/\J i)->(∀ ρ,J ρ->Q (acc++ds.filterMap g) ρ)->(turns is one a o ds acc ρ).sat Q|[],acc,ρ,j,h,k=>by rw[uX];simpa using k ρ j|d::r,acc,ρ,j,h,k=>by obtain⟨f,e,h1⟩:=h d (by simp) ρ j;rw[vh,e];show((a f).bind _).sat Q;rw[bW];refine h1.imp λb i q=>?_;cases b with|true=>rw[if_pos rfl]at q;rw[if_pos rfl,bW];refine q.imp λx p⟨t,j3⟩=>?_;refine iY J g j3 (λd' l=>h d' (by simp[l])) λm s=>?_;have:=k m s;rw[filterMap_cons,t]at this;rw[append_assoc];exact this|false=>rw[if_neg (by simp)]at q;rw[if_neg (by simp)];refine iY J g q.2 (λd' l=>h d' (by simp[l])) λm s=>?_;have:=k m s;rw[filterMap_cons,q.1]at this;exact this
theorem vO{one:Bool}{b:Ev}(J:List Sl->Prop)(g:D->D){Q:List D->List Sl->Prop}(j:J ρ)(h:∀d,d∈ds->∀ρ,J ρ->∃a,cj ρ is one d=some a/\(b a).sat λr f=>g d=r.d/\J f)(k:∀ρ,J ρ->Q (ds.map g) ρ):(turns is one (ur c none) b ds [] ρ).sat Q:=iY J (λd=>some (g d)) j (λd hd ρ j=>by obtain⟨a,e,h1⟩:=h d hd ρ j;refine⟨a,e,?_⟩;rw[ur,Bq,if_pos rfl];exact h1.imp λr f q=>⟨by rw[q.1],q.2⟩) λρ j=>by simpa using k ρ j
section
variable{ρ l:List Sl}{a:Sl}{i j:Int}{k m:Nat}{b b':Bool}{s:Str}{d:D}{ds es:List D}{e f:Ev}{x:Option Sl}{c:Call}
@[simp]theorem Lf:cg .int .non=false:=rfl
@[simp]theorem NB:cg .int (.bl b)=true:=rfl
@[simp]theorem Ks:cg .int (.int i)=true:=rfl
@[simp]theorem K3:cg .int (.str s)=false:=rfl
@[simp]theorem Mz:cg .int (.tup ds)=false:=rfl
@[simp]theorem J1:cg .int (.lst ds)=false:=rfl
@[simp]theorem Jh:cg .bool .non=false:=rfl
@[simp]theorem Kh:cg .bool (.bl b)=true:=rfl
@[simp]theorem Ij:cg .bool (.int i)=false:=rfl
@[simp]theorem Ig:cg .bool (.str s)=false:=rfl
@[simp]theorem HQ:cg .bool (.tup ds)=false:=rfl
@[simp]theorem IV:cg .bool (.lst ds)=false:=rfl
@[simp]theorem Js:cg .str .non=false:=rfl
@[simp]theorem Pq:cg .str (.bl b)=false:=rfl
@[simp]theorem J3:cg .str (.int i)=false:=rfl
@[simp]theorem JF:cg .str (.str s)=true:=rfl
@[simp]theorem Lk:cg .str (.tup ds)=false:=rfl
@[simp]theorem Ke:cg .str (.lst ds)=false:=rfl
@[simp]theorem FZ:cg .tuple .non=false:=rfl
@[simp]theorem HS:cg .tuple (.bl b)=false:=rfl
@[simp]theorem Hg:cg .tuple (.int i)=false:=rfl
@[simp]theorem Fz:cg .tuple (.str s)=false:=rfl
@[simp]theorem Ff:cg .tuple (.tup ds)=true:=rfl
@[simp]theorem Gx:cg .tuple (.lst ds)=false:=rfl
@[simp]theorem Ie:cg .list .non=false:=rfl
@[simp]theorem K7:cg .list (.bl b)=false:=rfl
@[simp]theorem Je:cg .list (.int i)=false:=rfl
@[simp]theorem Iz:cg .list (.str s)=false:=rfl
@[simp]theorem HN:cg .list (.tup ds)=false:=rfl
@[simp]theorem Il:cg .list (.lst ds)=true:=rfl
@[simp]theorem Ja:cg .none .non=true:=rfl
@[simp]theorem Jz:cg .none (.bl b)=false:=rfl
@[simp]theorem Jb:cg .none (.int i)=false:=rfl
@[simp]theorem Iu:cg .none (.str s)=false:=rfl
@[simp]theorem Jc:cg .none (.tup ds)=false:=rfl
@[simp]theorem Ip:cg .none (.lst ds)=false:=rfl
@[simp]theorem Ot:gV .non=true:=rfl
@[simp]theorem RT:gV (.bl b)=false:=rfl
@[simp]theorem Ph:gV (.int i)=false:=rfl
@[simp]theorem Od:gV (.str s)=false:=rfl
@[simp]theorem Oa:gV (.tup ds)=false:=rfl
@[simp]theorem Oo:gV (.lst ds)=false:=rfl
@[simp]theorem RP:flat .non=true:=rfl
@[simp]theorem UG:flat (.bl b)=true:=rfl
@[simp]theorem Ro:flat (.int i)=true:=rfl
@[simp]theorem RB:flat (.str s)=true:=rfl
@[simp]theorem QT:flat (.tup ds)=false:=rfl
@[simp]theorem QL:flat (.lst ds)=false:=rfl
@[simp]theorem Xj:(R.val d).d=d:=rfl
@[simp]theorem KC:(R.own ds).d=.lst ds:=rfl
@[simp]theorem Rp:uV (.val d)=.val false d:=rfl
@[simp]theorem QW:uV (.own ds)=.own false ds:=rfl
@[simp]theorem O4:qe (.val d)=.dat d:=rfl
@[simp]theorem Oi:qe (.own ds)=.tmp ds:=rfl
@[simp]theorem Uz:o9 (.int i)=some i:=rfl
@[simp]theorem Ws:uU (.bl b)=some b:=rfl
@[simp]theorem Py:items (.lst ds)=some ds:=rfl
@[simp]theorem O9:items (.tup ds)=some ds:=rfl
@[simp]theorem Mu:Lb (.tup ds)=some ds:=rfl
@[simp]theorem MT:oX (.lst ds)=some ds:=rfl
@[simp]theorem Ua:pH .add=nY:=rfl
@[simp]theorem Ux:pH .sub=sI:=rfl
@[simp]theorem Us:pH .mul=nU:=rfl
@[simp]theorem Ti:pH .fdiv=nJ:=rfl
@[simp]theorem U4:pH .mod=sJ:=rfl
@[simp]theorem UW:pH .pow=uv:=rfl
@[simp]theorem O6:nY (.int i) (.int j)=some (.val (.int (i+j))):=rfl
@[simp]theorem Ou:nY (.lst ds) (.lst es)=if ds.length+es.length<=lim then some (.own (ds++es))else none:=rfl
@[simp]theorem Oh:nY (.tup ds) (.tup es)=if ds.length+es.length<=lim then some (.val (.tup (ds++es)))else none:=rfl
@[simp]theorem Pn:sI (.int i) (.int j)=some (.val (.int (i-j))):=rfl
@[simp]theorem Nm:nU (.int i) (.int j)=if((-18446744073709551616<i/\i<18446744073709551616)\/(-18446744073709551616<j/\j<18446744073709551616))then some (.val (.int (i*j)))else none:=rfl
@[simp]theorem Lh:nJ (.int i) (.int j)=if 0<j/\j<1606938044258990275541962092341162602522202993782792835301376 then some (.val (.int (i/j)))else none:=rfl
@[simp]theorem Ol:sJ (.int i) (.int j)=if 0<j then some (.val (.int (i%j)))else none:=rfl
@[simp]theorem N8:uv (.int i) (.int j)=if 0<=j/\j<=1000/\i.natAbs<18446744073709551616 then some (.val (.int (i^j.toNat)))else none:=rfl
@[simp]theorem Va:vd (.lst ds) (.int i)=(at' ds i).map .val:=rfl
@[simp]theorem Uu:vd (.tup ds) (.int i)=(at' ds i).map .val:=rfl
@[simp]theorem Q8:Ca (.int i)=some (.val (.int (-i))):=rfl
@[simp]theorem NK:cm .eq (.int i) (.int j)=some (i==j):=rfl
@[simp]theorem O5:cm .ne (.int i) (.int j)=some (!(i==j)):=rfl
@[simp]theorem S5:cm .eq (.bl b) (.bl b')=some (b==b'):=rfl
@[simp]theorem Qi:cm .ne (.bl b) (.bl b')=some (!(b==b')):=rfl
@[simp]theorem Pk:cm .lt (.int i) (.int j)=some (decide (i<j)):=rfl
@[simp]theorem Ox:cm .le (.int i) (.int j)=some (decide (i<=j)):=rfl
@[simp]theorem O1:cm .gt (.int i) (.int j)=some (decide (j<i)):=rfl
@[simp]theorem Px:cm .ge (.int i) (.int j)=some (decide (j<=i)):=rfl
@[simp]theorem Wu:cm .M8 d .non=some (gV d):=rfl
@[simp]theorem Uc:cm .uN d .non=some (!gV d):=rfl
@[simp]theorem Ia:blt .len [.lst ds]=some (.val (.int ds.length)):=rfl
@[simp]theorem Jd:blt .len [.tup ds]=some (.val (.int ds.length)):=rfl
@[simp]theorem GX:blt .list [.lst ds]=some (.own ds):=rfl
@[simp]theorem Fy:blt .list [.tup ds]=some (.own ds):=rfl
@[simp]theorem Ef:blt .tuple [.lst ds]=some (.val (.tup ds)):=rfl
@[simp]theorem Ea:blt .tuple [.tup ds]=some (.val (.tup ds)):=rfl
@[simp]theorem Rz:blt .min2 [.int i,.int j]=some (.val (.int (if j<i then j else i))):=rfl
@[simp]theorem Rg:blt .max2 [.int i,.int j]=some (.val (.int (if i<j then j else i))):=rfl
@[simp]theorem Eu:blt .all [.lst ds]=(ds.mapM uU).map λbs=>.val (.bl (bs.all id)):=rfl
@[simp]theorem Pj:isVar (.var k)=some k:=rfl
@[simp]theorem T7:pk (a::l) k=match(a::l)[k]?with|some (.val _ d)=>some d|some (.own _ ds)=>some (.lst ds)|some (.lent ds)=>some (.lst ds)|_=>none:=rfl
@[simp]theorem Rf:R0 (a::l) k=match pk (a::l) k with|some (.lst ds)=>some ds|_=>none:=rfl
@[simp]theorem Ql:fP (some k) e ρ=lift (pk ρ k) ρ:=rfl
@[simp]theorem Su:fP none e ρ=(e ρ).bind λr ρ=>.ok r.d ρ:=rfl
@[simp]theorem N5{y:Option Nat}:gj (some k) e y f ρ=(lift (pk ρ k) ρ).bind λ_ ρ=>(fP y f ρ).bind λy ρ=>(lift (pk ρ k) ρ).bind λx ρ=>.ok (x,y) ρ:=rfl
@[simp]theorem N6{y:Option Nat}:gj none e y f ρ=(fP none e ρ).bind λx ρ=>(fP y f ρ).bind λy ρ=>.ok (x,y) ρ:=rfl
@[simp]theorem OJ{es:List D}:dJ (.own b ds) (some (.own b' es))=.own b es:=rfl
@[simp]theorem Nz:dJ (.own b ds) (some (.val b' d))=.val b d:=rfl
@[simp]theorem Ad:dJ a none=a:=by cases a<;>rfl
@[simp]theorem yJ:dJ (.val b d) x=.val b d:=by cases x<;>rfl
@[simp]theorem Ni:dJ .aU x=.aU:=by cases x<;>rfl
@[simp]theorem vC:dJ (.lent ds) x=.lent ds:=by cases x<;>rfl
@[simp]theorem Sg:cj ρ [k] true d=put ρ k (.val false d):=rfl
@[simp]theorem NT{is:List Nat}:cj ρ is false (.tup ds)=putAll ρ is ds:=by cases is<;>rfl
@[simp]theorem Ma:srcOf none e ρ=(e ρ).bind λr ρ=>lift (items r.d) ρ:=rfl
@[simp]theorem JZ:srcOf (some k) e (a::l)=match(a::l)[k]?with|some (.val _ d)=>lift (items d) (a::l)|some (.own _ ds)=>.ok ds ((a::l).set k (.lent ds))|some (.lent ds)=>.ok ds (a::l)|_=>.stuck:=rfl
@[simp]theorem HW{g:List Sl}:bH g none ρ=ρ:=rfl
@[simp]theorem IK:bH (a::l) (some k) ρ=match(a::l)[k]?with|some (.own b ds)=>ρ.set k (.own b ds)|_=>ρ:=rfl
@[simp]theorem SJ{s:Sl}:put (a::l) k s=match(a::l)[k]?with|some t=>if fr t=true then some ((a::l).set k s)else none|none=>none:=Lp ..
@[simp]theorem J6:putAll ρ [] []=some ρ:=rfl
@[simp]theorem Io{is:List Nat}:putAll ρ (k::is) (d::ds)=(put ρ k (.val false d)).bind λρ=>putAll ρ is ds:=rfl
end
@[simp]theorem at_0{a:Type}{a0:a}{l:List a}:at' (a0::l) 0=some a0:=by unfold at' lW;rw[if_pos (by decide),if_pos (by simp only[length_cons];omega)];rfl
@[simp]theorem at_1{a:Type}{a0 b:a}{l:List a}:at' (a0::b::l) 1=some b:=by unfold at' lW;rw[if_pos (by decide),if_pos (by simp only[length_cons];omega)];rfl
@[simp]theorem at_2{a:Type}{a0 e b:a}{l:List a}:at' (a0::e::b::l) 2=some b:=by unfold at' lW;rw[if_pos (by decide),if_pos (by simp only[length_cons];omega)];rfl
@[simp]theorem at_3{a:Type}{a0 e f b:a}{l:List a}:at' (a0::e::f::b::l) 3=some b:=by unfold at' lW;rw[if_pos (by decide),if_pos (by simp only[length_cons];omega)];rfl
@[simp]theorem at_4{a:Type}{a0 e f g b:a}{l:List a}:at' (a0::e::f::g::b::l) 4=some b:=by unfold at' lW;rw[if_pos (by decide),if_pos (by simp only[length_cons];omega)];rfl
@[simp]theorem at_5{a:Type}{a0 e f g h b:a}{l:List a}:at' (a0::e::f::g::h::b::l) 5=some b:=by unfold at' lW;rw[if_pos (by decide),if_pos (by simp only[length_cons];omega)];rfl
@[simp]theorem at_6{a:Type}{a0 e f g h i b:a}{l:List a}:at' (a0::e::f::g::h::i::b::l) 6=some b:=by unfold at' lW;rw[if_pos (by decide),if_pos (by simp only[length_cons];omega)];rfl
@[simp]theorem at_7{a:Type}{a0 e f g h i j b:a}{l:List a}:at' (a0::e::f::g::h::i::j::b::l) 7=some b:=by unfold at' lW;rw[if_pos (by decide),if_pos (by simp only[length_cons];omega)];rfl
theorem vK{a:Type}{l:List a}{i:Int}(h:0<=i)(h':i<l.length):at' l i=l[i.toNat]?:=by unfold at' lW;rw[if_pos h,if_pos h'];rfl
theorem Cv{a:Type}{l:List a}{k:Nat}(h':k<l.length):at' l (k:Int)=l[k]?:=by rw[vK (by omega) (by omega)];simp
@[simp]theorem OD{d:D}:isVar (.con d)=none:=rfl
@[simp]theorem NP{o:Op}{p q:P}:isVar (.bin o p q)=none:=rfl
@[simp]theorem Pu{p:P}:isVar (.neg p)=none:=rfl
@[simp]theorem O2{p:P}:isVar (.not p)=none:=rfl
@[simp]theorem Oj{p q:P}:isVar (.and p q)=none:=rfl
@[simp]theorem QQ{p q:P}:isVar (.or p q)=none:=rfl
@[simp]theorem Nq{o:Cm}{p q:P}:isVar (.cmp o p q)=none:=rfl
@[simp]theorem Ii{o a:Cm}{p q r:P}:isVar (.chain o a p q r)=none:=rfl
@[simp]theorem Nv{p q r:P}:isVar (.YH p q r)=none:=rfl
@[simp]theorem Ob{as:List P}:isVar (.tup as)=none:=rfl
@[simp]theorem Nt{as:List P}:isVar (.lst as)=none:=rfl
@[simp]theorem Oe{p q:P}:isVar (.idx p q)=none:=rfl
@[simp]theorem Ji{p q r:P}:isVar (.slice p q r)=none:=rfl
@[simp]theorem Kp{f:Nat}{as:List P}:isVar (.call f as)=none:=rfl
@[simp]theorem Pb{b:Ur}{as:List P}:isVar (.blt b as)=none:=rfl
@[simp]theorem Lw{a:List Ty}{p:P}:isVar (.inst a p)=none:=rfl
@[simp]theorem Lq{p e:P}{n:Nat}{is:List Nat}{one:Bool}{t:Option P}:isVar (.comp p n is one t e)=none:=rfl
@[simp]theorem Np{p q:P}:isVar (.mV p q)=none:=rfl
@[simp]theorem O8{p:P}:isVar (.PB p)=none:=rfl
@[simp]theorem Nj{p q:P}:isVar (.zip p q)=none:=rfl
noncomputable def lR(c:Call)(is:List Nat)(one:Bool)(a:Option P)(b:P)(ds:List D)(ρ:List Sl):Res (List D):=turns is one (ur c a) (ev c b) ds [] ρ
@[simp]theorem Ug{c:Call}{src f:P}{n:Nat}{is:List Nat}{one:Bool}{b:Option P}{ρ:List Sl}:ev c (.comp src n is one b f) ρ=(srcOf (isVar src) (ev c src) ρ).bind λds a=>if ds.length<=lim then(lR c is one b f ds (a++replicate n .aU)).bind λxs e=>.ok (.own xs) (bH ρ (isVar src) (e.take a.length))else .stuck:=(rfl)
noncomputable def Gy(c:Call)(n:Nat)(t:P)(body:List S)(k:Nat)(ρ:List Sl):Res Fl:=vg (iw (ev c t)) (je c n body) k ρ
theorem rz{b e h:Type}{x:Res e}{f:e->List Sl->Res b}{g:b->List Sl->Res h}:(x.bind f).bind g=x.bind λa ρ=>(f a ρ).bind g:=by cases x<;>rfl
@[simp]theorem WK{Γ:Tab}{w n i:Nat}{args:List Sl}{b:Type}{f:R->List Sl->Res b}{Q:b->List Sl->Prop}:((run Γ w n i args).bind f).sat Q=(run Γ w n i args).sat λa ρ=>(f a ρ).sat Q:=bW
@[simp]theorem Xi{Γ:Tab}{w n i:Nat}{args:List Sl}{b e:Type}{f:R->List Sl->Res b}{g:b->List Sl->Res e}:((run Γ w n i args).bind f).bind g=(run Γ w n i args).bind λa ρ=>(f a ρ).bind g:=rz
@[simp]theorem U8{c:Call}{is:List Nat}{one:Bool}{b:Option P}{e:P}{ds:List D}{ρ:List Sl}{g:Type}{f:List D->List Sl->Res g}{Q:g->List Sl->Prop}:((lR c is one b e ds ρ).bind f).sat Q=(lR c is one b e ds ρ).sat λa ρ=>(f a ρ).sat Q:=bW
@[simp]theorem U9{c:Call}{is:List Nat}{one:Bool}{b:Option P}{e:P}{ds:List D}{ρ:List Sl}{h i:Type}{f:List D->List Sl->Res h}{g:h->List Sl->Res i}:((lR c is one b e ds ρ).bind f).bind g=(lR c is one b e ds ρ).bind λa ρ=>(f a ρ).bind g:=rz
@[simp]theorem Wk{is:List Nat}{one:Bool}{b:List Sl->Res Fl}{ds:List D}{ρ:List Sl}{e:Type}{f:Fl->List Sl->Res e}{Q:e->List Sl->Prop}:((jW is one b ds ρ).bind f).sat Q=(jW is one b ds ρ).sat λa ρ=>(f a ρ).sat Q:=bW
@[simp]theorem T5{b e:Type}{p:Prop}[Decidable p]{a:e}{ρ:List Sl}{f:e->List Sl->Res b}{Q:b->List Sl->Prop}:((lift (if p then some a else none) ρ).bind f).sat Q=(p/\(f a ρ).sat Q):=by by_cases h:p<;>simp[h,lift,Res.bind]
@[simp]theorem Uy{b e h:Type}{p:Prop}[Decidable p]{a:e}{ρ:List Sl}{f:e->List Sl->Res b}{g:b->List Sl->Res h}:((lift (if p then some a else none) ρ).bind f).bind g=(lift (if p then some a else none) ρ).bind λa ρ=>(f a ρ).bind g:=rz
@[simp]theorem bb_ite{b a:Type}{p:Prop}[Decidable p]{x y:Res a}{f:a->List Sl->Res b}:(if p then x else y).bind f=if p then x.bind f else y.bind f:=by by_cases h:p<;>simp[h]
@[simp]theorem Xe{c:Call}{n k:Nat}{t:P}{b:List S}{ρ:List Sl}{e:Type}{f:Fl->List Sl->Res e}{Q:e->List Sl->Prop}:((Gy c n t b k ρ).bind f).sat Q=(Gy c n t b k ρ).sat λa ρ=>(f a ρ).sat Q:=bW
@[simp]theorem Xb{b e:Type}{a:b}{ρ:List Sl}{f:b->List Sl->Res e}:(Res.ok a ρ).bind f=f a ρ:=rfl
@[simp]theorem Og{a b:Type}{f:a->List Sl->Res b}:(Res.stuck:Res a).bind f=.stuck:=rfl
@[simp]theorem Tj{b:Type}{a:b}{ρ:List Sl}:lift (some a) ρ=.ok a ρ:=rfl
@[simp]theorem Te{a:Type}{ρ:List Sl}:lift (none:Option a) ρ=.stuck:=rfl
noncomputable def zQ:List Sl->Nat->Sl->List Sl|[],_,_=>[]|t::ρ,0,s=>dJ t (some s)::ρ|t::ρ,k+1,s=>t::zQ ρ k s
theorem nT{k:Nat}{s:Sl}:zQ [] k s=[]:=rfl
theorem oU{t:Sl}{ρ:List Sl}{s:Sl}:zQ (t::ρ) 0 s=dJ t (some s)::ρ:=rfl
theorem oV{t:Sl}{ρ:List Sl}{k:Nat}{s:Sl}:zQ (t::ρ) (k+1) s=t::zQ ρ k s:=rfl
noncomputable def bk:List Arg->List Sl->List Sl->List Sl|.dR k::as,s::ss,ρ=>bk as ss (zQ ρ k s)|.dat _::as,_::ss,ρ=>bk as ss ρ|.tmp _::as,_::ss,ρ=>bk as ss ρ|_,_,ρ=>ρ
section
variable{t s:Sl}{ρ ss:List Sl}{k:Nat}{as:List Arg}{d:D}{ds:List D}
@[simp]theorem ZZ:zQ (t::ρ) 0 s=dJ t (some s)::ρ:=rfl
@[simp]theorem ZX:zQ (t::ρ) (k+1) s=t::zQ ρ k s:=rfl
@[simp]theorem Kf:bk (.dR k::as) (s::ss) ρ=bk as ss (zQ ρ k s):=rfl
@[simp]theorem Kz:bk (.dat d::as) (s::ss) ρ=bk as ss ρ:=rfl
@[simp]theorem Jv:bk (.tmp ds::as) (s::ss) ρ=bk as ss ρ:=rfl
@[simp]theorem Wj:bk [] ss ρ=ρ:=rfl
end
theorem vY{s:Sl}:∀{ρ:List Sl}{k j:Nat},(zQ ρ k s)[j]?=(ρ[j]?).map λt=>if j=k then dJ t (some s)else t|[],_,_=>by simp[nT,oU,oV]|t::ρ,0,0=>by simp[nT,oU,oV]|t::ρ,0,j+1=>by simp[nT,oU,oV]|t::ρ,k+1,0=>by simp[nT,oU,oV]|t::ρ,k+1,j+1=>by have:=vY (s:=s) (ρ:=ρ) (k:=k) (j:=j);simp only[nT,oU,oV,List.getElem?_cons_succ,this];congr 1;funext t;simp
theorem uF{as:List Arg}{ss:List Sl}:∀{ρ:List Sl}{i j:Nat},(dG as ss i ρ)[j]?=(ρ[j]?).map λt=>dJ t (aP (i+j) as ss)|[],_,_=>by simp[mZ,jr]|t::ρ,i,0=>by simp[mZ,jr]|t::ρ,i,j+1=>by have:=uF (as:=as) (ss:=ss) (ρ:=ρ) (i:=i+1) (j:=j);simp only[mZ,jr,List.getElem?_cons_succ,this];rw[show i+1+j=i+(j+1)by omega]
def Zz(t:Sl):Prop:=∀x,dJ t x=t
def Mh(ρ:List Sl):List Arg->Prop|[]=>True|.dR k::as=>(Arg.dR k∈as->∀t,ρ[k]?=some t->Zz t)/\Mh ρ as|_::as=>Mh ρ as
theorem mJ{ρ:List Sl}:∀{as:List Arg}{a:List Sl},Mh ρ as->(∀k,Arg.dR k∈as->∀t,a[k]?=some t->ρ[k]?=some t\/Zz t)->Mh a as
 |[],_,_,_=>trivial|.dR k::as,a,h,g=>⟨λf t i=>by
  rcases g k (by simp) t i with e|e;.exact h.1 f t e
  .exact e,mJ h.2 λj b=>g j (by simp[b])⟩|.dat _::as,a,h,g=>mJ (as:=as) h λj b=>g j (by simp[b])|.tmp _::as,a,h,g=>mJ (as:=as) h λj b=>g j (by simp[b])
theorem jV{k:Nat}:∀{as:List Arg}{ss:List Sl},Arg.dR k∉as->aP k as ss=none|[],_,_=>by unfold aP;rfl|.dR j::as,[],_=>rfl|.dat _::as,[],_=>rfl|.tmp _::as,[],_=>rfl|.dR j::as,s::ss,h=>by simp only[mem_cons,Arg.dR.injEq,not_or]at h;rw[aP,if_neg (λe=>h.1 e.symm),jV h.2]|.dat _::as,s::ss,h=>by simp only[mem_cons,not_or]at h;rw[aP,jV h.2]|.tmp _::as,s::ss,h=>by simp only[mem_cons,not_or]at h;rw[aP,jV h.2]
theorem wV:∀{as:List Arg}{ss ρ:List Sl},Mh ρ as->∀j,(bk as ss ρ)[j]?=(ρ[j]?).map λt=>dJ t (aP j as ss)
 |[],ss,ρ,_,j=>by cases ss<;>simp[aP]|.dR k::as,[],ρ,_,j=>by rw[show bk (.dR k::as) [] ρ=ρ from rfl];simp[aP]|.dat d::as,[],ρ,_,j=>by rw[show bk (.dat d::as) [] ρ=ρ from rfl];simp[aP]|.tmp d::as,[],ρ,_,j=>by rw[show bk (.tmp d::as) [] ρ=ρ from rfl];simp[aP]|.dat _::as,s::ss,ρ,h,j=>by rw[Kz,aP];exact wV (as:=as) h j|.tmp _::as,s::ss,ρ,h,j=>by rw[Jv,aP];exact wV (as:=as) h j|.dR k::as,s::ss,ρ,h,j=>by
   have f:Mh (zQ ρ k s) as:=mJ h.2 λi hi t a=>by rw[vY]at a;cases e:ρ[i]?with|none=>rw[e]at a;cases a|some t0=>
      rw[e]at a;by_cases c:i=k;.subst c;have hs:=h.1 hi t0 e;simp[hs (some s)]at a;exact .inl (by rw[a])
      .simp[c]at a;exact .inl (by rw[a])
   rw[Kf,wV f j,vY,aP];cases e:ρ[j]?with|none=>rfl|some t0=>
     simp only[Option.map_some];by_cases c:j=k
     . subst c;rw[if_pos rfl,if_pos rfl];by_cases b:Arg.dR j∈as;.have hs:=h.1 b t0 e;rw[hs (some s),hs]
       .rw[jV b,Ad]
     .rw[if_neg c,if_neg (λz=>c z.symm)]
theorem eU{ρ:List Sl}{k:Nat}{b:Bool}{ds:List D}(e:ρ[k]?=some (.own b ds)):∀{as:List Arg}{u:List Nat}{r:List Sl},k∈u->bK ρ as u=some r->Arg.dR k∉as
 |[],_,_,_,_=>by simp|.dat _::as,u,r,a,h=>by simp only[u9,vX,wu,ni,map_eq_some_iff]at h;obtain⟨r',h,_⟩:=h;simp[eU e a h]|.tmp _::as,u,r,a,h=>by simp only[u9,vX,wu,ni,map_eq_some_iff]at h;obtain⟨r',h,_⟩:=h;simp[eU e a h]|.dR i::as,u,r,a,h=>by
   rw[ni]at h;have hi:i≠k:=by rintro rfl;rw[e]at h;simp[a]at h
   have:Arg.dR k∉as:=by
    split at h;.obtain⟨r',h,_⟩:=map_eq_some_iff.mp h;exact eU e a h
    . split at h;.cases h
      .obtain⟨r',h,_⟩:=map_eq_some_iff.mp h;exact eU e (by simp[a]) h
    . split at h;.cases h
      .obtain⟨r',h,_⟩:=map_eq_some_iff.mp h;exact eU e (by simp[a]) h
    .cases h
   simp[this];exact λz=>hi z.symm
theorem eN{ρ:List Sl}:∀{as:List Arg}{u:List Nat}{r:List Sl},bK ρ as u=some r->Mh ρ as
 |[],_,_,_=>trivial|.dat _::as,u,r,h=>by obtain⟨r',h,_⟩:=map_eq_some_iff.mp h;exact eN (as:=as) h|.tmp _::as,u,r,h=>by obtain⟨r',h,_⟩:=map_eq_some_iff.mp h;exact eN (as:=as) h|.dR i::as,u,r,h=>by
   rw[ni]at h;split at h;.rename_i b d q;obtain⟨r',h,_⟩:=map_eq_some_iff.mp h;exact⟨λ_ t a=>by rw[q]at a;cases a;exact λx=>yJ,eN h⟩
   . rename_i b ds q;split at h;.cases h
     .obtain⟨r',h,_⟩:=map_eq_some_iff.mp h;exact⟨λe=>absurd e (eU q (by simp) h),eN h⟩
   . rename_i ds q;split at h;.cases h
     .obtain⟨r',h,_⟩:=map_eq_some_iff.mp h;exact⟨λ_ t a=>by rw[q]at a;cases a;exact λx=>vC,eN h⟩
   .cases h
theorem RJ{as:List Arg}{ss r:List Sl}{u:List Nat}(h:bK ρ as u=some r):dG as ss 0 ρ=bk as ss ρ:=by apply List.ext_getElem?;intro j;rw[uF,wV (eN h),Nat.zero_add]
@[simp]theorem O3{c:Call}{k:Nat}{as:List Arg}{ρ:List Sl}:m7 c k as ρ=match bK ρ as []with|none=>.stuck|some args=>(c k args).bind λr a=>.ok r (bk as a ρ):=by unfold m7;cases e:bK ρ as []with|none=>rfl|some args=>simp only[<-RJ (r:=args) e];cases c k args<;>rfl
theorem dj{one:Bool}{a:P}(J:List Sl->Prop)(g:D->D){Q:List D->List Sl->Prop}(j:J ρ)(h:∀d,d∈ds->∀ρ,J ρ->∃b,cj ρ is one d=some b/\(ev c a b).sat λr e=>g d=r.d/\J e)(k:∀ρ,J ρ->Q (ds.map g) ρ):(lR c is one none a ds ρ).sat Q:=vO J g j h k
theorem Nu{one:Bool}{i t:P}(J:List Sl->Prop)(g:D->Option D){Q:List D->List Sl->Prop}(j:J ρ)(h:∀d,d∈ds->∀ρ,J ρ->∃a,cj ρ is one d=some a/\(ev c t a).sat λr f=>∃b,r.d=.bl b/\if b=true then(ev c i f).sat λr l=>g d=some r.d/\J l else g d=none/\J f)(k:∀ρ,J ρ->Q (ds.filterMap g) ρ):(lR c is one (some t) i ds ρ).sat Q:=iY J g j (λd hd ρ j=>by obtain⟨a,e,h1⟩:=h d hd ρ j;refine⟨a,e,?_⟩;rw[ur,iw,bW];refine h1.imp λr f⟨b,e,q⟩=>?_;rw[e];exact q) λρ j=>by simpa using k ρ j
theorem tY{c:Call}{n:Nat}{t:P}{body:List S}(J:Nat->List Sl->Prop){Q:Fl->List Sl->Prop}(h:∀m ρ,J m ρ->(ev c t ρ).sat λr a=>∃b,r.d=.bl b/\if b=true then(je c n body a).sat (fQ (λf=>∃g,g<m/\J g f) Q)else Q .next a):∀{k m:Nat}{ρ:List Sl},m<k->J m ρ->(Gy c n t body k ρ).sat Q|0,m,ρ,i,_=>absurd i (Nat.not_lt_zero _)|k+1,m,ρ,i,j=>by unfold Gy;rw[Ka,bW,iw,bW];refine(h m ρ j).imp λr a⟨b,e,q⟩=>?_;rw[e];show(if b=true then _ else _:Res Fl).sat Q;cases b with|false=>rw[if_neg (by simp)]at q;rw[if_neg (by simp)];exact q|true=>rw[if_pos rfl]at q;rw[if_pos rfl,bW];refine q.imp λp f q=>?_;cases p with|next=>obtain⟨g,l,o⟩:=q;exact tY J h (lt_of_lt_of_le l (Nat.lt_succ_iff.mp i)) o|cont=>obtain⟨g,l,o⟩:=q;exact tY J h (lt_of_lt_of_le l (Nat.lt_succ_iff.mp i)) o|brk=>exact q|ret v=>exact q
@[simp]theorem Zw:type_of%@HH.E1:=@HH.E1
@[simp]theorem Z4:type_of%@HH.E2:=@HH.E2
@[simp]theorem Zh:type_of%@HH.E3:=@HH.E3
@[simp]theorem Zi:type_of%@HH.E4:=@HH.E4
@[simp]theorem Z8:type_of%@HH.E5:=@HH.E5
@[simp]theorem ZK:type_of%@HH.E6:=@HH.E6
@[simp]theorem aaa:type_of%@HH.E7:=@HH.E7
@[simp]theorem Z3:type_of%@HH.E8:=@HH.E8
@[simp]theorem Yi:type_of%@HH.E9:=@HH.E9
@[simp]theorem Xf:type_of%@HH.E10:=@HH.E10
@[simp]theorem WN:type_of%@HH.E11:=@HH.E11
@[simp]theorem W3:type_of%@HH.E12:=@HH.E12
@[simp]theorem Xc:type_of%@HH.E13:=@HH.E13
@[simp]theorem V0:type_of%@HH.E14:=@HH.E14
@[simp]theorem Yj:type_of%@HH.E15:=@HH.E15
@[simp]theorem Xx:type_of%@HH.E16:=@HH.E16
@[simp]theorem VP:type_of%@HH.E17:=@HH.E17
@[simp]theorem Vg:type_of%@HH.Qj:=@HH.Qj
@[simp]theorem Xd:type_of%@HH.E18:=@HH.E18
@[simp]theorem V1:type_of%@HH.E19:=@HH.E19
@[simp]theorem Xa:type_of%@HH.E20:=@HH.E20
@[simp]theorem Xy:type_of%@HH.E21:=@HH.E21
@[simp]theorem Xo:type_of%@HH.E22:=@HH.E22
@[simp]theorem Zk:type_of%@HH.X1:=@HH.X1
@[simp]theorem Z0:type_of%@HH.X2:=@HH.X2
@[simp]theorem ZQ:type_of%@HH.X3:=@HH.X3
@[simp]theorem Z7:type_of%@HH.X4:=@HH.X4
@[simp]theorem Zj:type_of%@HH.X5:=@HH.X5
@[simp]theorem Zu:type_of%@HH.X6:=@HH.X6
@[simp]theorem Zr:type_of%@HH.X7:=@HH.X7
@[simp]theorem Zq:type_of%@HH.X8:=@HH.X8
@[simp]theorem Wc:type_of%@HH.X9:=@HH.X9
@[simp]theorem V7:type_of%@HH.Vk:=@HH.Vk
@[simp]theorem Yp:type_of%@HH.ZS:=@HH.ZS
@[simp]theorem VM:type_of%@HH.Wi:=@HH.Wi
@[simp]theorem XM:type_of%@HH.Yv:=@HH.Yv
@[simp]theorem Wx:type_of%@HH.iw.eq_1:=@HH.iw.eq_1
@[simp]theorem Wf:type_of%@HH.evs.eq_1:=@HH.evs.eq_1
@[simp]theorem Yd:type_of%@HH.evs.eq_2:=@HH.evs.eq_2
@[simp]theorem XH:type_of%@HH.vf.eq_1:=@HH.vf.eq_1
@[simp]theorem Xq:type_of%@HH.vf.eq_2:=@HH.vf.eq_2
@[simp]theorem Yk:type_of%@HH.ur.eq_1:=@HH.ur.eq_1
@[simp]theorem V5:type_of%@HH.ur.eq_2:=@HH.ur.eq_2
@[simp]theorem XR:type_of%@HH.lX.eq_1:=@HH.lX.eq_1
@[simp]theorem Tg:type_of%@HH.bK.eq_1:=@HH.bK.eq_1
@[simp]theorem Qt:type_of%@HH.bK.eq_2:=@HH.bK.eq_2
@[simp]theorem RQ:type_of%@HH.bK.eq_3:=@HH.bK.eq_3
@[simp]theorem Q3:type_of%@HH.bK.eq_4:=@HH.bK.eq_4
@[simp]theorem Rm:type_of%@HH.dG.eq_1:=@HH.dG.eq_1
@[simp]theorem Rb:type_of%@HH.dG.eq_2:=@HH.dG.eq_2
@[simp]theorem QJ:type_of%@HH.aP.eq_1:=@HH.aP.eq_1
@[simp]theorem Sv:type_of%@HH.aP.eq_2:=@HH.aP.eq_2
@[simp]theorem Qm:type_of%@HH.aP.eq_3:=@HH.aP.eq_3
@[simp]theorem Q0:type_of%@HH.aP.eq_4:=@HH.aP.eq_4
end HH
end
section
namespace HH
open PySem L2 PySem.Spec PyProof.Rows
section
variable{X:Cx}{c:Call}{a b:Expr}{pa pb:P}{pos:Pos}
theorem gf{K:PySem.W.Frag}{F:Hp}:∀{ns:List Int}{ys:List V},aF K F ys (ns.map D.int)->ys=ns.map V.int|[],ys,h=>by rw[h.eV];rfl|n::ns,ys,h=>by obtain⟨v,r,rfl,h1,t⟩:=h.cz;rw[Rep]at h1;rw[h1,gf t];rfl
end
end HH
end
section
namespace HH
open PySem
section
variable{i j:Int}{ds es:List D}{d:D}{b b':Bool}
@[simp]theorem Uh:pH .shl=Br:=rfl
@[simp]theorem Ul:pH .shr=Dq:=rfl
@[simp]theorem Tc:pH .band=vy:=rfl
@[simp]theorem Oz:Br (.int i) (.int j)=if 0<=j/\j<=1000/\i.natAbs<18446744073709551616 then some (.val (.int (i*2^j.toNat)))else none:=rfl
@[simp]theorem NQ:Dq (.int i) (.int j)=if 0<=j then some (.val (.int (i/2^j.toNat)))else none:=rfl
@[simp]theorem KZ:vy (.int i) (.int j)=some (.val (.int (Builtin.bitAnd i j))):=rfl
@[simp]theorem Om:nU (.lst ds) (.int i)=if 0<=i/\0<ds.length/\ds.length*i.toNat<=lim then some (.own (replicate i.toNat ds).flatten)else none:=rfl
@[simp]theorem Ow:nU (.tup ds) (.int i)=if 0<=i/\0<ds.length/\ds.length*i.toNat<=lim then some (.val (.tup (replicate i.toNat ds).flatten))else none:=rfl
@[simp]theorem VG:cm .isT (.bl b) (.bl true)=some b:=rfl
@[simp]theorem Vd:cm .Tt (.bl b) (.bl true)=some (!b):=rfl
@[simp]theorem Ud:blt .sum [.lst ds]=(ds.mapM o9).map λns=>.val (.int ns.sum):=rfl
end
@[simp]theorem Xm:type_of%@HH.WD:=@HH.WD
theorem Dg{ns:List Int}:(ns.map D.int).mapM o9=some ns:=by induction ns with|nil=>rfl|cons n ns a=>simp[a]
@[simp]theorem Ny{ns:List Int}:ns.mapM (o9 ∘ D.int)=some ns:=by rw[<-Dg (ns:=ns),List.mapM_map]
@[simp]theorem Sh{bs:List Bool}:bs.mapM (uU ∘ D.bl)=some bs:=by induction bs with|nil=>rfl|cons b bs a=>simp[a]
theorem Vb{S:List Int}{i:Int}:((S.map D.int).any λy=>jb y (.int i))=S.contains i:=by induction S with|nil=>rfl|cons s S a=>rw[map_cons,any_cons,contains_cons,a,Zv];rw[show(s==i)=(i==s)from Bool.eq_iff_iff.mpr ⟨λh=>by simp at h ⊢;exact h.symm,λh=>by simp at h ⊢;exact h.symm⟩]
theorem RZ{S:List Int}:(S.map D.int).all flat=true:=by rw[all_eq_true];intro d hd;obtain⟨i,_,rfl⟩:=List.mem_map.mp hd;rfl
theorem mQ{n:Nat}{S:List Int}:gO (n+1) (.lst (S.map D.int))=true:=by rw[bh,all_eq_true];intro d hd;obtain⟨i,_,rfl⟩:=List.mem_map.mp hd;cases n<;>rfl
theorem nR:∀{S T:List Int},gD (S.map D.int) (T.map D.int)=(S==T)|[],[]=>by simp[jw,gK,m9,m5]|[],_::_=>by simp[jw,gK,m9,m5]|_::_,[]=>by simp[jw,gK,m9,m5]|s::S,t::T=>by rw[map_cons,map_cons,gK,nR,Zv];rfl
theorem FN{S T:List Int}:cm .eq (.lst (S.map D.int)) (.lst (T.map D.int))=some (S==T):=by show Cu _ _=_;unfold Cu;rw[mQ,mQ,Uo,nR];rfl
theorem Um{S T:List Int}:cm .ne (.lst (S.map D.int)) (.lst (T.map D.int))=some (!(S==T)):=by show vW _ _=_;unfold vW;rw[mQ,mQ,Uo,nR];rfl
theorem Hd{S:List Int}:cm .eq (.lst (S.map D.int)) (.lst [])=some S.isEmpty:=by rw[show(.lst []:D)=.lst (([]:List Int).map D.int)from rfl,FN];cases S<;>rfl
theorem fZ{a:Type}{l:List a}{f:a->D}{k:Nat}{x:a}(h:l[k]?=some x):at' (l.map f) (k:Int)=some (f x):=by have b:=(gW h).1;rw[Cv (by simpa using b),getElem?_map,h];rfl
theorem Ln{n k:Nat}(h:k<n):lW n (k:Int)=some k:=by unfold lW;rw[if_pos (by omega),if_pos (by omega)];simp
theorem dg{is:List Nat}{one:Bool}{body:List Sl->Res Fl}{g:Nat->D}{N:Nat}(J:Nat->List Sl->Prop){Q:Fl->List Sl->Prop}(c:∀i ρ,i<N->J i ρ->∃a,cj ρ is one (g i)=some a/\(body a).sat (fQ (J (i+1)) Q))(f:∀ρ,J N ρ->Q .next ρ){ρ:List Sl}(h0:J 0 ρ):(jW is one body ((List.range N).map g) ρ).sat Q:=by
 refine cC (λr ρ=>∃i,i<=N/\r=((List.range N).map g).drop i/\J i ρ) ?_ ?_ ⟨0,vZ,rfl,h0⟩
 . rintro d r ρ⟨i,hi,e,j⟩;have b:i<N:=by
    rcases Nat.lt_or_ge i N with h|h;.exact h
    .rw[List.drop_eq_nil_of_le (by simpa using h)]at e;cases e
   rw[drop_eq_getElem_cons (by simpa using b)]at e;injection e with e1 e2;simp at e1;subst e1;obtain⟨a,h1,k⟩:=c i ρ b j;refine⟨a,h1,k.imp λl m q=>?_⟩;cases l with|next=>exact⟨i+1,b,e2,q⟩|cont=>exact⟨i+1,b,e2,q⟩|brk=>exact q|ret v=>exact q
 . rintro ρ⟨i,hi,e,j⟩;have:i=N:=by have n:=congrArg List.length e;simp at n;omega
   subst this;exact f ρ j
theorem pW{c:Call}{is:List Nat}{one:Bool}{b:P}(J:List Sl->Prop)(P:D->Prop){Q:List D->List Sl->Prop}{g:List D}{ρ:List Sl}(j:J ρ)(h:∀d,d∈g->∀ρ,J ρ->∃a,cj ρ is one d=some a/\(ev c b a).sat λr f=>P r.d/\J f)(k:∀xs ρ,J ρ->xs.length=g.length->(∀x∈xs,P x)->Q xs ρ):(lR c is one none b g ρ).sat Q:=by suffices hh:∀(g:List D)(acc:List D)(ρ:List Sl),J ρ->(∀x∈acc,P x)->(∀d,d∈g->∀ρ,J ρ->∃a,cj ρ is one d=some a/\(ev c b a).sat λr f=>P r.d/\J f)->(turns is one (ur c none) (ev c b) g acc ρ).sat λxs ρ=>J ρ/\(∀x∈xs,P x)/\xs.length=acc.length+g.length from(hh g [] ρ j (by simp) h).imp λxs ρ⟨i,q2,q3⟩=>k xs ρ i (by simpa using q3) q2;intro g;induction g with|nil=>intro acc ρ j l _;rw[uX];exact⟨j,l,by simp⟩|cons d r n=>
   intro acc ρ j l h;obtain⟨a,e,h1⟩:=h d (by simp) ρ j;rw[vh,e];show((ur c none a).bind _).sat _;rw[ur];show((ev c b a).bind _).sat _;rw[bW];refine h1.imp λx f⟨p,j3⟩=>?_;refine(n (acc++[x.d]) f j3 (λy hy=>?_) λd' m=>h d' (by simp[m])).imp λxs ρ⟨i,q2,q3⟩=>⟨i,q2,by simp at q3 ⊢;omega⟩;rcases mem_append.mp hy with hy|hy;.exact l y hy
   .rw[List.mem_singleton.mp hy];exact p
inductive A3(a b c:Prop):Prop where|mk(ha:a)(hb:b)(hc:c)
inductive A4(a b c d:Prop):Prop where|mk(ha:a)(hb:b)(hc:c)(hd:d)
inductive A5(a b c d e:Prop):Prop where|mk(ha:a)(hb:b)(hc:c)(hd:d)(he:e)
inductive A6(a b c d e f:Prop):Prop where|mk(ha:a)(hb:b)(hc:c)(hd:d)(he:e)(hf:f)
inductive A7(a b c d e f g:Prop):Prop where|mk(ha:a)(hb:b)(hc:c)(hd:d)(he:e)(hf:f)(hg:g)
inductive A8(a b c d e f g h:Prop):Prop where|mk(ha:a)(hb:b)(hc:c)(hd:d)(he:e)(hf:f)(hg:g)(hh:h)
inductive A9(a b c d e f g h i:Prop):Prop where|mk(ha:a)(hb:b)(hc:c)(hd:d)(he:e)(hf:f)(hg:g)(hh:h)(hi:i)
end HH
end
section
namespace HH
open PySem L2 PySem.Spec PyProof.Rows
section
variable{X:Cx}{c:Call}{n:Nat}{e a b d tg:Expr}{p pa pb pd:P}{pos:Pos}
theorem kW{g:TG}{is:List Nat}(he:SX X c e p)(s:PG X tg g)(i:Ez X.K (λρ d=>cj ρ is false d) g)(hs:swapsWithSole [tg] e pos.line X.env=pure false:=by rfl)(hw:swappedStores [tg] e X.env=pure none:=by rfl)(h1:(assignEach [tg] X.env).map (·.2)=[assign tg X.env]:=by rfl):SS X c n (.Assign [tg] e pos) (.Hx is p):=by
 refine ik (Bu he.ev s hs hw h1) ?_;rintro D t H⟨F,ρ,C,u,w,e,k⟩;rw[HH.X7]at e;obtain⟨r,f,x,e⟩:=ao e;refine⟨F,ρ,r,f,w,x,λv E l s1 y=>?_⟩;obtain⟨m,s2,_,o⟩:=s1.eG y;split at e;.rename_i q hd;obtain⟨z,A,h,e⟩:=ao e;cases e;have B:=aJ h;clear h;obtain⟨h,G⟩:=B;rw[hd]at o;exact i v (.tup q) m f _ t l _ s2.gs o (by show cj f is false (.tup q)=_;cases is<;>exact h) λj s3=>k m j l (s2.trans s3)
 .cases e
end
end HH
end
section
namespace HT
open PySem PySem.Spec PyProof.Rows
section
variable{prog:Program}{w:World}{A:Around}{E:Value->Shared->Prop}{s:Shared}
theorem ue{t c:Addr}{a:Array Value}{vl g:Value}{lo hi:Option Int}{Q:Value->Shared->Prop}(b:IsTup s.heap t a)(hs:s.heap.IsSliceOf c vl g .none)(i:IsPart vl lo)(j:IsPart g hi)(h1:cM a.size 0 lo=0)(k:cM a.size a.size hi=a.size)(h:Q (.ref t) s):wpAny (model prog w) A (getItem (.ref t) (.ref c)) Q E s:=by
 obtain⟨os,e,f,l⟩:=id hs;have m:s.TypeIs (.ref c) "slice":=⟨os,e,f⟩;unfold getItem;try with_reducible refine wpAny_holding ?_
 first|refine wpAny_bind (wpAny_pure ?_)|skip
 refine wpAny_bind (wpAny_sequenceKey b.typeIs (by decide) (wpAny_bind (wpAny_callSpecial?_slot (name:=Str.ofString "__getitem__") b.typeIs slot_tuple_getitem (wpAny_call_entry slot_tuple_getitem b.typeIs entry_tuple_getitem ?_ (args_tuple_getitem _ _)))));show wpAny _ _ (tupleItemsOf (.ref t)>>=_) _ _ s;refine wpAny_bind (tupleItemsOf_ b (wpAny_bind (wpAny_typeOf m ?_)));rw[if_pos (by decide)];refine wpAny_bind (gk hs i j ?_);have n:((((cM a.size 0 lo:Nat):Int)==0&&(1:Int)==1&&(cM a.size a.size hi-cM a.size 0 lo)==a.size)=true):=by rw[h1,k];simp
 show wpAny _ _ (if(((cM a.size 0 lo:Nat):Int)==0&&(1:Int)==1&&(cM a.size a.size hi-cM a.size 0 lo)==a.size)=true then _ else _) _ _ s;rw[if_pos n];unfold Builtin.Tuple.tupleIsExact;refine wpAny_bind (wpAny_bind (wpAny_typeOf b.typeIs (wpAny_pure ?_)));rw[if_pos (by decide)];exact wpAny_bind (wpAny_rule (wpAny_pure ⟨_,rfl,wpAny_pure h⟩))
end
end HT
namespace HH
open PySem L2 PySem.Spec PyProof.Rows
noncomputable def VH:Expr->Bool|.Starred _ _=>false|_=>true
theorem gP{e:Expr}{c:List Expr}{env:Env}(h:VH e=true):starEach (e::c) env=(false,eval e env)::starEach c env:=by cases e with|Starred a b=>cases h|_=>rw[starEach];(intro e p z;cases z)
noncomputable def nG:List Int->List Expr->Option (List Expr)|[],a=>some a|i::is,.Constant (.int j) _ _::a=>if i=j then nG is a else none|_,_=>none
theorem wK{X:L2.Cx}{c:Call}:∀(is:List Int){f a:List Expr}{b:List P},nG is f=some a->SA X c a b->SA X c f (is.map (λi=>P.con (.int i))++b)|[],f,a,b,h,r=>by cases h;exact r|i::is,[],a,b,h,r=>by cases h|i::is,e::f,a,b,h,r=>by cases e with
   |Constant v k p=>cases v with
     |int j=>
       replace h:(if i=j then nG is f else none)=some a:=h;split at h;.rename_i g;subst g;exact mL aa (wK is h r) (gP rfl)
       .cases h|_=>cases h
   |_=>cases h
theorem qO{n d:Nat}{o:Option Int}:HT.cM n d o=HH.cM n d o:=by cases o with|none=>rfl|some v=>
   show(if v<0 then(v+(n:Int)).toNat else min v.toNat n)=(if 0<=v then min v.toNat n else(v+n).toNat);by_cases h:0<=v;.rw[if_pos h,if_neg (by omega)]
   .rw[if_neg h,if_pos (by omega)]
theorem Dd{xs:List V}{lo hi:Option Int}:uz xs lo hi=HH.cut xs lo hi:=by unfold uz HH.cut;rw[qO,qO]
theorem aF.cut{K:PySem.W.Frag}{F:Hp}{a:List D}{vs:List V}{lo hi:Option Int}(h:aF K F vs a):aF K F (HH.cut vs lo hi) (HH.cut a lo hi):=by unfold HH.cut;rw[h.length];exact(h.drop _).take _
section
variable{X:Cx}{c:Call}{n:Nat}{e a b:Expr}{p pa pb pl ph:P}{pos p2:Pos}{lo hi:Option Expr}
def Yw(K:PySem.W.Frag):V->Option Int->Option Int->Hp->VK->Prop:=λx lo hi H Q=>∃F d r,aK F H/\di K F H x d/\zP d (some lo) (some hi)=some r/\∀v g f,Ext F H g f->cA K g f H v r->Q v f
theorem RN:Uk X (Yw X.K):=by rintro f s u H x v vl w lo hi y Q I l hs pl m⟨F,d,r,h,z,he,k⟩;cases d with|lst o=>cases he;obtain⟨a,xs,rfl,j,i⟩:=z.lst h;refine Ey f s u H _ v vl w lo hi y Q I l hs pl m ⟨a,xs,rfl,j,λp q=>?_⟩;rw[Dd];exact vQ h i.cut q k|tup o=>
   cases he;obtain⟨a,xs,rfl,j,i,rt⟩:=z.tup h;by_cases hw:HT.cM xs.length 0 lo=0/\HT.cM xs.length xs.length hi=xs.length
   . cases l;obtain⟨t,B,A,C⟩:=I.tuple j;have g:t.toArray.size=xs.length:=by rw[size_toArray];exact B.length.symm
     refine⟨"tuple",_,slot_tuple_getitem.lookup,A.typeIs,HT.ue A hs pl m (by rw[g];exact hw.1) (by rw[g];exact hw.2) ⟨.ref a,H,I,rfl,?_⟩⟩;have hc:HH.cut o lo hi=o:=by unfold HH.cut;rw[<-i.length,<-qO,<-qO,hw.1,hw.2];simp[i.length]
     rw[hc]at k;exact cA.dw h rt k
   .refine K5 f s u H _ v vl w lo hi y Q I l hs pl m ⟨a,xs,rfl,j,hw,λp q=>?_⟩;rw[Dd];exact yS h i.cut q k|_=>cases he
def SO(X:Cx)(c:Call)(o:Option Expr)(p:P):Prop:=∃t,PO X o t/\∀{g:L2.St}{H F:Hp}{ρ f:List Sl}{d:D}{i:Option Int}{Q:Option Int->Hp->Prop},GS X.K F ρ g H->fP (isVar p) (HH.ev c p) ρ=.ok d f->part p d=some i->(∀j h,bV X.K F ρ g H j f g h->Q i h)->t g H Q
theorem dH:SO X c none (.con .non):=by refine⟨_,Hk,λ{l H F ρ f d i Q}g e h k=>?_⟩;cases(show some none=some i from h);have j:(HH.ev c (.con .non) ρ).bind (λr ρ=>.ok r.d ρ)=.ok d f:=e;clear e;rw[HH.E2]at j;cases j;exact k F H (.refl g)
theorem cN(h:SX X c e p)(l:zm p=false:=by rfl):SO X c (some e) p:=by obtain⟨t,h1,m⟩:=h.fP;refine⟨_,G7 h1,λ{y H F ρ o d i Q}g e f k=>?_⟩;unfold part at f;rw[l,if_neg (by decide)]at f;obtain⟨j,q,r⟩:=map_some f;cases iM q;subst r;exact m g e λv u w s x=>⟨j,x.int,k u w s⟩
theorem uB{d:D}{x y:Option (Option Int)}{r:R}(h:zP d x y=some r):∃lo hi,x=some lo/\y=some hi:=by cases x with|none=>cases d<;>cases h|some lo=>cases y with|none=>cases d<;>cases h|some hi=>exact⟨lo,hi,rfl,rfl⟩
theorem cD(Z:SX X c a pa)(hl:SO X c lo pl)(hh:SO X c hi ph):SX X c (.Subscript a (.Slice lo hi none p2) pos) (.slice pa pl ph):=by obtain⟨tl,l1,l2⟩:=hl;obtain⟨th,h1,h2⟩:=hh;cases hv:isVar pa with|none=>refine⟨gh (tG RN Z.ev l1 h1) ?_,λi h=>by cases h⟩;rintro σ H Q⟨F,ρ,r,A,g,e,k⟩;rw[HH.E14,hv]at e;obtain⟨x,B,f,j⟩:=ao e;clear e;have TQ:(HH.ev c pa ρ).bind (λr ρ=>.ok r.d ρ)=.ok x B:=f;clear f;obtain⟨rx,ae,e1,C⟩:=ao TQ;clear TQ;cases C;obtain⟨y,E,G,l⟩:=ao j;clear j;obtain⟨z,I,J,m⟩:=ao l;clear l;obtain⟨e,L⟩:=aJ m;clear m;subst L;obtain⟨M,N,o,q⟩:=uB e;rw[o,q]at e;refine⟨F,ρ,rx,_,g,e1,λv F1 H1 s1 rr=>?_⟩;obtain⟨F2,s2,_,rp⟩:=s1.eG rr;refine l2 s2.gs G o λF3 H3 s3=>h2 s3.gs J q λO H4 s4=>?_;have s5:=s2.trans (s3.trans s4);refine⟨O,_,r,s4.gs.sub,.inl ((rp.mono s3.cW).mono s4.cW),e,λv U W x Y=>?_⟩;exact k v U W (s5.trans (x.stp s5.gs)) (.later s5 (Y.pK s5.gs))|some i=>refine⟨gh (tG RN (Z.var i hv) l1 h1) ?_,λi h=>by cases h⟩;rintro σ H Q⟨F,ρ,r,A,g,e,k⟩;rw[HH.E14,hv]at e;obtain⟨x0,af,s,j⟩:=ao e;clear e;obtain⟨C,DN⟩:=aJ s;clear s;subst DN;obtain⟨y,E,G,l⟩:=ao j;clear j;obtain⟨z,I,J,m⟩:=ao l;clear l;obtain⟨x,ag,t,ed⟩:=ao m;clear m;obtain⟨e5,e6⟩:=aJ t;clear t;subst e6;obtain⟨e,L⟩:=aJ ed;clear ed;subst L;obtain⟨M,N,o,q⟩:=uB e;rw[o,q]at e;obtain⟨v,u,_⟩:=g.pk C;refine⟨v,u,l2 g G o λF3 H3 s3=>h2 s3.gs J q λO H4 s4=>?_⟩;have s5:=s3.trans s4;obtain⟨v',w,pv⟩:=s5.gs.pk e5;rw[u]at w;cases w;refine⟨O,_,r,s4.gs.sub,pv,e,λv U W x Y=>?_⟩;exact k v U W (s5.trans (x.stp s5.gs)) (.later s5 (Y.pK s5.gs))
theorem Ry:dm X (.builtin "abs") (El X.K λx=>blt .abs [x]):=by rintro f s g H xs h Q I r⟨x,j,F,d,r',l,m,he,k⟩;cases d with|int i=>cases(show some _=some r' from he);exact Ar f s g H xs h Q I r ⟨i,by rw[j,m.int],cA.dw l (cV _) k⟩|_=>cases he
theorem boot_abs:bootBuiltins "abs"=some (.builtin "abs"):=by decide+kernel
theorem Cy{x:Str}{f:Pos}(g:x="abs")(i:Gl X x)(j:X.mg x=none)(k:SX X c a pa)(hs:starEach [a] X.env=(false,eval a X.env)::starEach [] X.env:=by rfl):SX X c (.Call (.Name x f) [a] [] pos) (.blt .abs [pa]):=by subst g;exact lN (λh=>dW Ry i j boot_abs h (he:=hs)) k (λρ=>rfl) rfl hs
theorem Bs{i:Nat}{x:Str}{t:Pos}{op:Operator}{sub:Bool}(ho:Up X op (VJ λi j=>if sub then i-j else i+j))(w:X.N.Nodup)(hi:X.N[i]?=some x)(y:Loc X.env.scope x)(he:SX X c e p)(z:X.fn x=true\/X.env.scope.names.lookup x=some .local:=by first|exact .inl rfl|exact .inr rfl|assumption):SS X c n (.AugAssign (.Name x t) op e pos) (.aug i sub p):=by
 obtain⟨te,h1,A⟩:=he.fP;refine ik (Kv w hi y h1 ho z) ?_;rintro D σ H⟨F,ρ,fl,B,g,e,k⟩;rw[HH.WD]at e;obtain⟨a0,C,f,q⟩:=ao e;clear e;obtain⟨E,G⟩:=aJ f;clear f;subst G;obtain⟨b0,I,J,m⟩:=ao q;clear q;obtain⟨v,o,L⟩:=g.pk E;refine⟨v,o,A g J λu s M s1 O=>?_⟩;split at m;.rename_i i1 h;obtain⟨Q,U,l,W⟩:=ao m;clear m;cases W;obtain⟨Y,e3⟩:=aJ l;clear l;have Z:Rep X.K s (.int (if sub then i1-h else i1+h)) (.int (if sub then i1-h else i1+h)):=cV _;exact⟨i1,h,L.int,O.int,k s _ M (bV.put (r:=.val (.int _)) s1 Z Y)⟩
 .cases m
theorem xr:Up X .Add (VJ λi j=>if false then i-j else i+j):=K6
end
end HH
end
section
namespace L2
open PySem PySem.Spec PyProof.Rows
end L2
namespace HH
open PySem L2 PySem.Spec PyProof.Rows
section
variable{X:Cx}{c:Call}{a b d:Expr}{pa pb pd:P}{pos:Pos}
theorem sS{o p:Cm}{op j:CmpOp}(ho:dZ X (compareOp op) (rD X.K (lX o)))(y:dZ X (compareOp j) (rD X.K (lX p)))(C:SX X c a pa)(E:SX X c b pb)(hd:SX X c d pd)(G:lastMarks [op,j] [b,d]=false:=by with_unfolding_all rfl):ST X c (.Compare a [op,j] [b,d] pos) (.chain o p pa pb pd):=by
 obtain⟨I,J,h1,L,M⟩:=C.gj E;obtain⟨N,O,U⟩:=hd.fP;refine tH (Cj ho y h1 L O G) λσ H Q q=>lC (t:=CP (rD X.K (lX o)) (rD X.K (lX p)) I J N) (λQ z=>?_) q;obtain⟨F,ρ,r,W,g,e,k⟩:=z;rw[HH.E9]at e;obtain⟨l,Y,Z,e⟩:=ao e;obtain⟨t,ae,i,e⟩:=ao e;have zz:=aJ i;clear i;obtain⟨i,A⟩:=zz;subst A;have f:flat l.2=true/\cm o l.1 l.2=some t:=by
  split at i;.rename_i hf;exact⟨hf,i⟩
  .cases i
 obtain⟨f,i⟩:=f;refine M g Z λv u F' H' s pv n=>⟨F',l.1,l.2,.val (.bl t),s.gs.sub,pv,n,by unfold lX;rw[i];rfl,λw B H2 x m=>?_⟩;have s2:=s.trans (x.stp s.gs);have m:Rep X.K B w (.bl t):=m;rw[Rep]at m;subst m;refine⟨t,rfl,?_⟩;cases t with|false=>rw[if_neg Bool.false_ne_true]at e ⊢;cases e;exact k _ B H2 s2 (show Rep X.K B _ _ from fj _)|true=>
   rw[if_pos rfl]at e ⊢;obtain⟨z,af,A,e⟩:=ao e;obtain⟨e4,e5⟩:=aJ e;subst e5;refine U s2.gs A λw F3 H3 s3 pw=>⟨F3,l.2,z,r,s3.gs.sub,?_,pw,e4,λw' F4 H4 x4 m=>?_⟩
   . have x1:=x.fs;have x2:=s3.cW;rcases n with n|⟨_,_,_,_,_,_,h⟩;.exact .inl ((n.mono x1).mono x2)
     .rw[h]at f;cases f
   .have s4:=s2.trans s3;exact k w' F4 H4 (s4.trans (x4.stp s4.gs)) (.later s4 (m.pK s4.gs))
end
end HH
end
section
namespace HT
open PySem PySem.Spec PyProof.Rows
section
variable{prog:Program}{w:World}{A:Around}{E:Value->Shared->Prop}{s:Shared}
theorem Bo(xs:Array Value):((List.range xs.size).filterMap λ(m:Nat)=>xs[((xs.size:Int)-1+(m:Int)*(-1)).toNat]?).toArray=xs.toList.reverse.toArray:=by
 have a:∀k,k<=xs.size->(List.range k).filterMap (λ(m:Nat)=>xs[((xs.size:Int)-1+(m:Int)*(-1)).toNat]?)=xs.toList.reverse.take k:=by intro k;induction k with|zero=>intro _;rfl|succ k b=>
    intro h;have c:((xs.size:Int)-1+(k:Int)*(-1)).toNat=xs.size-1-k:=by omega
    have e:k<xs.toList.reverse.length:=by simp;omega
    rw[List.range_succ,List.filterMap_append,b (by omega),List.take_succ_eq_append_getElem e];congr 1;simp only[filterMap_cons,List.filterMap_nil,c];rw[Array.getElem?_eq_getElem (by omega)];simp
 rw[a _ (cH),take_of_length_le (by simp)]
end
end HT
namespace HH
open PySem L2 PySem.Spec PyProof.Rows
theorem sY:∀{xs:List V}{a:List Value},Vals xs a->Vals xs.reverse a.reverse|_,_,.nil=>.nil|_,_,.cons r b=>by rw[reverse_cons,reverse_cons];exact(sY b).append (.cons r .nil)
theorem tX{K:PySem.W.Frag}{F:Hp}:∀{a:List D}{vs:List V},aF K F vs a->aF K F vs.reverse a.reverse|[],vs,h=>by rw[h.eV];exact .nil|d::a,vs,h=>by obtain⟨v,r,rfl,h1,b⟩:=h.cz;rw[reverse_cons,reverse_cons];exact(tX b).append (.cons h1 .nil)
section
variable{X:Cx}{c:Call}{e a:Expr}{te:TE}{pa:P}{pos p1 p2 p3:Pos}
theorem zc{r:V->Hp->VK->Prop}{j}(hr:∀(f:List (Addr×Obj))(s:Shared)(g:L2.St)(H:Hp)(x:V)(v:Value)(t:Tok)(k:Addr)(Q:VK),Inv X f g H s->RelV x v->s.heap.IsSliceOf k .none .none (.int (-1) t)->r x H Q->∃T id,typeLookup (.type T) "__getitem__"=pure (some (.builtin id))/\s.TypeIs v T/\wpAny (model X.prog X.w) X.A (getItem v (.ref k)) (EP X f g Q) X.xe s)(he:PE X e te):PE X (.Subscript e (.Slice none none (some (.UnaryOp .USub (.Constant (.int 1) j p1) p2)) p3) pos) (Wb r te):=by intro f s g H Q I h;refine Subscript_ (cT (he f s g H _ I h) ?_);rintro v s1⟨x,l,m,n,o⟩;refine wpAny_Slice ?_;rw[evalPart_none];refine wpAny_pure (wpAny_pure ?_);rw[evalPart_some];refine cT (HX CG Cq f s1 g l (λy i=>y=.int (-1)/\i=l) m ⟨1,rfl,rfl,rfl⟩) ?_;rintro J s2⟨y,i,p,u,z,B⟩;subst z B;obtain⟨t,rfl⟩:=u;have C:Inv X f g i {s2 with heap:=s2.heap.push {cls:=.type "slice",data:=.fields #[.none,.none,.int (-1) t]}}:=p.kept (t':=s2.toks) λb L q=>iG q;obtain⟨T,id,E,F,G⟩:=hr f {s2 with heap:=s2.heap.push {cls:=.type "slice",data:=.fields #[.none,.none,.int (-1) t]}} g i x v t s2.heap.objs.size Q C n (Heap.IsSliceOf.new ..) o;show wpAny (model X.prog X.w) X.A (subscriptTail e (.Slice none none (some (.UnaryOp .USub (.Constant (.int 1) j p1) p2)) p3) v (.ref s2.heap.objs.size)) (EP X f g Q) X.xe {s2 with heap:=s2.heap.push {cls:=.type "slice",data:=.fields #[.none,.none,.int (-1) t]}};exact tail_any (ops:=[v,.ref s2.heap.objs.size]) F E G (by with_unfolding_all rfl)
end
end HH
end
section
namespace HH
open PySem
theorem jJ:∀a b:List Int,aQ a b=true->aQ b a=false
 |[],[],h=>by simp[aQ]at h|[],_::_,_=>by simp[aQ]|_::_,[],h=>by simp[aQ]at h|x::a,y::b,h=>by
   simp only[aQ,or_eq_true,decide_eq_true_eq,and_eq_true]at h;simp only[aQ,Bool.or_eq_false_iff,decide_eq_false_iff_not,Bool.and_eq_false_iff];rcases h with h|⟨h,h'⟩;.exact⟨by omega,.inl (by omega)⟩
   .exact⟨by omega,.inr (jJ a b h')⟩
theorem v5:∀a b c:List Int,aQ b a=false->aQ c b=false->aQ c a=false
 |[],_,c,_,_=>by cases c<;>simp[aQ]|_::_,[],_,h,_=>by simp[aQ]at h|_::_,_::_,[],_,h=>by simp[aQ]at h|x::a,y::b,z::c,h1,f=>by
   simp only[aQ,Bool.or_eq_false_iff,decide_eq_false_iff_not,Bool.and_eq_false_iff]at h1 f ⊢;refine⟨by omega,?_⟩;by_cases e:z=x;.right;exact v5 a b c (h1.2.resolve_left (by omega)) (f.2.resolve_left (by omega))
   .exact .inl e
theorem uK:∀a b:List Int,aQ a b=false->aQ b a=false->a=b
 |[],[],_,_=>rfl|[],_::_,h,_=>by simp[aQ]at h|_::_,[],_,h=>by simp[aQ]at h|x::a,y::b,h1,c=>by
   simp only[aQ,Bool.or_eq_false_iff,decide_eq_false_iff_not,Bool.and_eq_false_iff]at h1 c;have e:x=y:=by omega
   subst e;rw[uK a b (h1.2.resolve_left (by simp)) (c.2.resolve_left (by simp))]
theorem uH:∀{xs ys:List D},xs.all cI=true->ys.all cI=true->xs.map cJ=ys.map cJ->xs=ys
 |[],[],_,_,_=>rfl|[],_::_,_,_,h=>by simp at h|_::_,[],_,_,h=>by simp at h|x::xs,y::ys,h1,a,h=>by
   simp only[all_cons,and_eq_true]at h1 a;simp only[map_cons,List.cons.injEq]at h;obtain⟨i,rfl⟩:∃i,x=.int i:=by cases x<;>first|exact⟨_,rfl⟩|(have q:=h1.1;simp[cI]at q;done)
   obtain⟨j,rfl⟩:∃j,y=.int j:=by cases y<;>first|exact⟨_,rfl⟩|(have q:=a.1;simp[cI]at q;done)
   rw[uH h1.2 a.2 h.2,show i=j from h.1]
theorem xH{x y:D}(h:(cI x=true/\cI y=true)\/(gZ x=true/\gZ y=true))(e:bw x=bw y):x=y:=by
 rcases h with⟨h1,a⟩|⟨h1,a⟩
 . cases x<;>first|(simp[cI]at h1;done)|skip
   cases y<;>first|(simp[cI]at a;done)|skip
   simpa[bw]using e
 . cases x<;>first|(simp[gZ]at h1;done)|skip
   cases y<;>first|(simp[gZ]at a;done)|skip
   rename_i xs ys;cases xs<;>first|(simp[gZ]at h1;done)|skip
   cases ys<;>first|(simp[gZ]at a;done)|skip
   rw[uH h1 a e]
noncomputable def jh(a b:D):Bool:=!aQ (bw b) (bw a)
theorem oJ(a:List D):(qm a).Perm a:=List.mergeSort_perm ..
theorem Fq(a b c:D)(h1:jh a b=true)(e:jh b c=true):jh a c=true:=by simp only[jh,not_eq_true']at*;exact v5 _ _ _ h1 e
theorem Az(a b:D):(jh a b||jh b a)=true:=by simp only[jh,or_eq_true,not_eq_true'];cases h:aQ (bw b) (bw a)with|false=>exact .inl rfl|true=>exact .inr (jJ _ _ h)
theorem nW(c:List D):(qm c).Pairwise λa b=>jh a b=true:=List.pairwise_mergeSort Fq Az c
theorem qX{a:List D}(h:sortable a=true):∀x∈a,∀y∈a,bw x=bw y->x=y:=by
 simp only[sortable,and_eq_true,or_eq_true,all_eq_true]at h;intro x b y c e;rcases h.2 with h|h;.exact xH (.inl ⟨h x b,h y c⟩) e
 .exact xH (.inr ⟨h x b,h y c⟩) e
theorem uA{c l:List D}(h:sortable c=true)(p:l.Perm c)(s:l.Pairwise λa b=>jh a b=true):l=qm c:=by refine List.Perm.eq_of_pairwise (le:=λa b=>jh a b=true) (λa b f g h1 e=>?_) s (nW c) (p.trans (oJ c).symm);simp only[jh,not_eq_true']at h1 e;exact qX h a (p.mem_iff.mp f) b ((oJ c).mem_iff.mp g) (uK _ _ e h1)
end HH
end
section
namespace HH
open PySem PyProof.Rows
variable{xs a b ys x0:Array Keyed}{i n lo hi j ia ib na nb u:Nat}{k x:Keyed}{st':SortSt}
noncomputable abbrev SM:=StateT SortSt Sem
noncomputable def gal:Bool->Keyed->Array Keyed->Nat->Nat->Nat->SM (Option Nat):=sortPriv%PySem.Builtin.gallop
noncomputable def JM(l:Bool)(k:Keyed)(xs:Array Keyed)(b i:Nat):SM (Option Bool):=elem' xs (b+i)>>=λx=>if l=true then lt' x k else lt' k x>>=λo=>pure (o.map λx=>!x)
noncomputable def Ax(l:Bool)(k:Keyed)(xs:Array Keyed)(b n lo hi:Nat):SM (Option Nat):=(forIn [0:n] ((none,lo,hi):Option (Option Nat)× Nat × Nat) λ_ c=>if c.2.1 ≥ c.2.2 then pure (.done (none,c.2.1,c.2.2))else JM l k xs b (c.2.1+(c.2.2-c.2.1)/2)>>=λo=>match o with|some m=>if m=true then pure (.yield (none,c.2.1+(c.2.2-c.2.1)/2+1,c.2.2))else pure (.yield (none,c.2.1,c.2.1+(c.2.2-c.2.1)/2))|_=>pure (.done (some none,c.2.1,c.2.2)))>>=λc=>match c.1 with|some r=>pure r|none=>pure (some c.2.2)
theorem Mp(l:Bool)(k:Keyed)(xs:Array Keyed)(b n h:Nat):gal l k xs b n h=JM l k xs b h>>=λo=>match o with
 |some r=>if r=true then(forIn [0:n] ((none,0,1):Option (Option Nat)× Nat × Nat) λ_ c=>if c.2.2 ≥ n-h then pure (.done (none,c.2.1,c.2.2))else JM l k xs b (h+c.2.2)>>=λo=>match o with|some m=>if(!m)=true then pure (.done (none,c.2.1,c.2.2))else pure (.yield (none,c.2.2,2*c.2.2+1))|_=>pure (.done (some none,c.2.1,c.2.2)))>>=λc=>match c.1 with|some r=>pure r|none=>Ax l k xs b n (h+c.2.1+1) (h+min c.2.2 (n-h))else(forIn [0:n] ((none,0,1):Option (Option Nat)× Nat × Nat) λ_ c=>if c.2.2 ≥ h+1 then pure (.done (none,c.2.1,c.2.2))else JM l k xs b (h-c.2.2)>>=λo=>match o with|some m=>if m=true then pure (.done (none,c.2.1,c.2.2))else pure (.yield (none,c.2.2,2*c.2.2+1))|_=>pure (.done (some none,c.2.1,c.2.2)))>>=λc=>match c.1 with|some r=>pure r|none=>Ax l k xs b n (h+1-min c.2.2 (h+1)) (h-c.2.1)
 |_=>pure none:=by unfold Ax;show JM l k xs b h>>=_=_;congr 1;funext o;cases o with|none=>rfl|some r=>dsimp only;cases r with
   |true=>simp only[if_true];congr 1;funext c;obtain⟨c1,c2,c3⟩:=c;cases c1 with|some r=>rfl|none=>dsimp only;congr 1;funext c;obtain⟨c1,c2,c3⟩:=c;cases c1<;>rfl
   |false=>simp only[false_eq_true,if_false];congr 1;funext c;obtain⟨c1,c2,c3⟩:=c;cases c1 with|some r=>rfl|none=>dsimp only;congr 1;funext c;obtain⟨c1,c2,c3⟩:=c;cases c1<;>rfl
structure Rk(M:Model)(A:Around)(E:Value->Shared->Prop)(s:Shared)(κ:SortKind)(ok:Keyed->Prop)(K:Keyed->Int):Prop where lt:∀{x y:Keyed}{Q:Option Bool->SortSt->Prop}{st:SortSt},ok x->ok y->kindOf st=κ->Q (some (decide (K x<K y))) st->wpS M A E s (lt' x y) Q st
section
variable{M:Model}{A:Around}{E:Value->Shared->Prop}{s:Shared}{κ:SortKind}{ok:Keyed->Prop}{K:Keyed->Int}
noncomputable def it(xs:Array Keyed)(i:Nat):Keyed:=xs.getD i (Value.none,Value.none)
theorem rK(h:i<xs.size):xs[i]?=some (it xs i):=by unfold it;simp[getD,h]
theorem dh(h:i<xs.size):it xs i∈xs.toList:=by
 have:it xs i=xs[i]:=by unfold it;simp[getD,h]
 rw[this];simp
theorem aZ{Q:Keyed->SortSt->Prop}{st:SortSt}(h:i<xs.size)(q:Q (it xs i) st):wpS M A E s (elem' xs i) Q st:=by rw[elem'_eq,rK h];exact wpS_pure q
noncomputable def bb(K:Keyed->Int)(l:Bool)(k x:Keyed):Bool:=if l=true then decide (K x<K k)else !decide (K k<K x)
theorem qT(R:Rk M A E s κ ok K){l:Bool}{b:Nat}{Q:Option Bool->SortSt->Prop}{st:SortSt}(c:ok k)(e:∀x∈xs.toList,ok x)(hi:b+i<xs.size)(hs:kindOf st=κ)(q:Q (some (bb K l k (it xs (b+i)))) st):wpS M A E s (JM l k xs b i) Q st:=by unfold JM;refine wpS_bind (aZ hi ?_);have ho:=e _ (dh hi);cases l with|true=>exact R.lt ho c hs q|false=>exact wpS_bind (R.lt c ho hs (wpS_pure q))
def G5(K:Keyed->Int)(l:Bool)(k:Keyed)(xs:Array Keyed)(b n:Nat):Prop:=∀i j,i<=j->j<n->bb K l k (it xs (b+j))=true->bb K l k (it xs (b+i))=true
theorem xG(R:Rk M A E s κ ok K){l:Bool}{b:Nat}{Q:Option Nat->SortSt->Prop}{st:SortSt}(r:ok k)(t:∀x∈xs.toList,ok x)(F:b+n<=xs.size)(hs:kindOf st=κ)(hc:G5 K l k xs b n)(h1:lo<=hi)(v:hi<=n)(w:∀i,i<lo->bb K l k (it xs (b+i))=true)(y:∀i,hi<=i->i<n->bb K l k (it xs (b+i))=false)(q:∀m,m<=n->(∀i,i<m->bb K l k (it xs (b+i))=true)->(∀i,m<=i->i<n->bb K l k (it xs (b+i))=false)->Q (some m) st):wpS M A E s (Ax l k xs b n lo hi) Q st:=by
 unfold Ax;refine wpS_bind (wpS_mono (wpS_forRange (I:=λx c st'=>st'=st/\∃lo hi,c=(none,lo,hi)/\lo<=hi/\hi<=n/\hi-lo<=n-x/\(∀i,i<lo->bb K l k (it xs (b+i))=true)/\∀i,hi<=i->i<n->bb K l k (it xs (b+i))=false) (Q:=λc st'=>st'=st/\∃m,c=(none,m,m)/\m<=n/\(∀i,i<m->bb K l k (it xs (b+i))=true)/\∀i,m<=i->i<n->bb K l k (it xs (b+i))=false) ?_ ?_ ⟨rfl,lo,hi,rfl,h1,v,by omega,w,y⟩) ?_)
 . rintro x c st' _ B⟨rfl,lo,hi,rfl,o,f,p,g,h⟩;dsimp only;by_cases e:lo ≥ hi
   . rw[if_pos e];have:lo=hi:=by omega
     subst this;exact wpS_pure ⟨rfl,lo,rfl,f,g,h⟩
   .rw[if_neg e];refine wpS_bind (qT R r t (by omega) hs ?_);cases c:bb K l k (it xs (b+(lo+(hi-lo)/2)))with|true=>dsimp only;rw[if_pos rfl];exact wpS_pure ⟨rfl,_,_,rfl,by omega,f,by omega,λi C=>hc i (lo+(hi-lo)/2) (by omega) (by omega) c,h⟩|false=>dsimp only;rw[if_neg (by simp)];refine wpS_pure ⟨rfl,_,_,rfl,by omega,by omega,by omega,g,λi i1 i2=>?_⟩;cases z:bb K l k (it xs (b+i))with|false=>rfl|true=>have:=hc (lo+(hi-lo)/2) i i1 i2 z;rw[c]at this;cases this
 . rintro c st'⟨rfl,lo,hi,rfl,o,f,p,g,h⟩;have:lo=hi:=by omega
   subst this;exact⟨rfl,lo,rfl,f,g,h⟩
 .rintro c st'⟨rfl,m,rfl,o,f,p⟩;exact wpS_pure (q m o f p)
theorem kI(R:Rk M A E s κ ok K){l:Bool}{b h:Nat}{Q:Option Nat->SortSt->Prop}{st:SortSt}(r:ok k)(t:∀x∈xs.toList,ok x)(F:b+n<=xs.size)(N:h<n)(hs:kindOf st=κ)(hc:G5 K l k xs b n)(q:∀m,m<=n->(∀i,i<m->bb K l k (it xs (b+i))=true)->(∀i,m<=i->i<n->bb K l k (it xs (b+i))=false)->Q (some m) st):wpS M A E s (gal l k xs b n h) Q st:=by
 have G:∀{i:Nat},i<n->bb K l k (it xs (b+i))=true->∀j,j<=i->bb K l k (it xs (b+j))=true:=λhi c j J=>hc _ _ J hi c;have H:∀{i:Nat},bb K l k (it xs (b+i))=false->∀j,i<=j->j<n->bb K l k (it xs (b+j))=false:=λ{i}c j h1 v=>by cases z:bb K l k (it xs (b+j))with|false=>rfl|true=>have:=hc i j h1 v z;rw[c]at this;cases this
 rw[Mp];refine wpS_bind (qT R r t (by omega) hs ?_);cases c0:bb K l k (it xs (b+h))with
 |true=>
   dsimp only;rw[if_pos rfl];refine wpS_bind (wpS_mono (wpS_forRange (I:=λx c st'=>st'=st/\∃a o,c=(none,a,o)/\x+1<=o/\a<o/\h+a<n/\bb K l k (it xs (b+(h+a)))=true) (Q:=λc st'=>st'=st/\∃a o,c=(none,a,o)/\a<o/\h+a<n/\bb K l k (it xs (b+(h+a)))=true/\(n-h<=o\/o<n-h/\bb K l k (it xs (b+(h+o)))=false)) ?_ ?_ ⟨rfl,0,1,rfl,by omega,by omega,by omega,by simpa using c0⟩) ?_)
   . rintro x c st' _ w⟨rfl,a,o,rfl,y,p,g,f⟩;dsimp only;by_cases e:o ≥ n-h;.rw[if_pos e];exact wpS_pure ⟨rfl,a,o,rfl,p,g,f,.inl e⟩
     .rw[if_neg e];refine wpS_bind (qT R r t (by omega) hs ?_);cases c:bb K l k (it xs (b+(h+o)))with|true=>dsimp only;rw[if_neg (by simp)];exact wpS_pure ⟨rfl,_,_,rfl,by omega,by omega,by omega,c⟩|false=>dsimp only;rw[if_pos (by simp)];exact wpS_pure ⟨rfl,a,o,rfl,p,g,f,.inr ⟨by omega,c⟩⟩
   .rintro c st'⟨rfl,a,o,rfl,y,p,g,f⟩;exact⟨rfl,a,o,rfl,p,g,f,.inl (by omega)⟩
   . rintro c st'⟨rfl,a,o,rfl,p,g,f,B⟩;dsimp only;refine xG R r t F hs hc (by omega) (by omega) (λi hi=>G g f i (by omega)) (λi h1 v=>?_) q;rcases B with z|⟨L,C⟩;.omega
     .exact H C i (by omega) v|false=>
   dsimp only;rw[if_neg (by simp)];refine wpS_bind (wpS_mono (wpS_forRange (I:=λx c st'=>st'=st/\∃a o,c=(none,a,o)/\x+1<=o/\a<o/\a<=h/\bb K l k (it xs (b+(h-a)))=false) (Q:=λc st'=>st'=st/\∃a o,c=(none,a,o)/\a<o/\a<=h/\bb K l k (it xs (b+(h-a)))=false/\(h+1<=o\/o<h+1/\bb K l k (it xs (b+(h-o)))=true)) ?_ ?_ ⟨rfl,0,1,rfl,by omega,by omega,by omega,by simpa using c0⟩) ?_)
   . rintro x c st' _ w⟨rfl,a,o,rfl,y,p,g,f⟩;dsimp only;by_cases e:o ≥ h+1;.rw[if_pos e];exact wpS_pure ⟨rfl,a,o,rfl,p,g,f,.inl e⟩
     .rw[if_neg e];refine wpS_bind (qT R r t (by omega) hs ?_);cases c:bb K l k (it xs (b+(h-o)))with|false=>dsimp only;rw[if_neg (by simp)];exact wpS_pure ⟨rfl,_,_,rfl,by omega,by omega,by omega,c⟩|true=>dsimp only;rw[if_pos rfl];exact wpS_pure ⟨rfl,a,o,rfl,p,g,f,.inr ⟨by omega,c⟩⟩
   .rintro c st'⟨rfl,a,o,rfl,y,p,g,f⟩;exact⟨rfl,a,o,rfl,p,g,f,.inl (by omega)⟩
   . rintro c st'⟨rfl,a,o,rfl,p,g,f,B⟩;dsimp only;refine xG R r t F hs hc (by omega) (by omega) (λi hi=>?_) (λi h1 v=>H f i (by omega) v) q;rcases B with z|⟨L,C⟩;.omega
     .exact G (by omega) C i (by omega)
end
section
variable{K:Keyed->Int}{T out A B P:List Keyed}{x y z:Keyed}
def SL(K:Keyed->Int)(l:List Keyed):Prop:=l.Pairwise λx y=>K x<=K y
theorem cG{l k:List Keyed}:SL K (l++k)↔SL K l/\SL K k/\∀x∈l,∀y∈k,K x<=K y:=pairwise_append
structure MW(K:Keyed->Int)(T out A B:List Keyed):Prop where
 perm:(out++(A++B)).Perm T
 sa:SL K (out++A)sb:SL K (out++B)
theorem MW.Sy(w:MW K T out (P++A) B)(h:∀x∈P,∀y∈B,K x<=K y):MW K T (out++P) A B:=by
 refine⟨by simpa using w.perm,by simpa using w.sa,?_⟩;have h1:=cG.mp w.sb;have e:=cG.mp (show SL K ((out++P)++A)by simpa using w.sa);refine cG.mpr ⟨e.1,h1.2.1,λx hx y c=>?_⟩;rcases mem_append.mp hx with hx|hx;.exact h1.2.2 x hx y c
 .exact h x hx y c
theorem MW.RG(w:MW K T out A (P++B))(h:∀x∈P,∀y∈A,K x<=K y):MW K T (out++P) A B:=by
 have h1:=cG.mp w.sa;have e:=cG.mp (show SL K ((out++P)++B)by simpa using w.sb);refine⟨?_,cG.mpr ⟨e.1,h1.2.1,λx hx y c=>?_⟩,by simpa using w.sb⟩;.refine List.Perm.trans ?_ w.perm;rw[append_assoc];refine List.Perm.append_left out ?_;rw[<-append_assoc,<-append_assoc];exact List.perm_append_comm.append_right B
 . rcases mem_append.mp hx with hx|hx;.exact h1.2.2 x hx y c
   .exact h x hx y c
theorem MW.WL(w:MW K T out A []):(out++A).Perm T/\SL K (out++A):=⟨by simpa using w.perm,w.sa⟩
theorem MW.Xz(w:MW K T out [] B):(out++B).Perm T/\SL K (out++B):=⟨by simpa using w.perm,w.sb⟩
theorem MW.last(w:MW K T out [z] B)(h:∀y∈B,K y<=K z):(out++B++[z]).Perm T/\SL K (out++B++[z]):=by
 refine⟨?_,cG.mpr ⟨w.sb,List.pairwise_singleton _ _,λx hx y c=>?_⟩⟩;.refine List.Perm.trans ?_ w.perm;rw[append_assoc];exact List.Perm.append_left out List.perm_append_comm
 . rw[List.mem_singleton.mp c];rcases mem_append.mp hx with hx|hx;.exact(cG.mp w.sa).2.2 x hx z (by simp)
   .exact h x hx
theorem rH(h:i<a.size):a.toList.drop i=it a i::a.toList.drop (i+1):=by
 have e:it a i=a.toList[i]:=by unfold it;simp[getD,h]
 rw[e];exact drop_eq_getElem_cons (by simpa using h)
theorem iu(h:j<=a.size):(a.extract i j).toList=(a.toList.drop i).take (j-i):=by simp[Array.toList_extract,List.extract]
theorem iV:(a.extract i a.size).toList=a.toList.drop i:=by rw[iu (cH)];exact take_of_length_le (by simp)
theorem jq{k:Nat}(h:i+k<=a.size):a.toList.drop i=(a.extract i (i+k)).toList++a.toList.drop (i+k):=by rw[iu h,Nat.add_sub_cancel_left];rw[show a.toList.drop (i+k)=(a.toList.drop i).drop k by rw[List.drop_drop]];exact(take_append_drop k _).symm
theorem ext_mem{k:Nat}(h:i+k<=a.size)(c:x∈(a.extract i (i+k)).toList):∃j,j<k/\x=it a (i+j):=by rw[iu h,Nat.add_sub_cancel_left]at c;obtain⟨j,f,e⟩:=List.mem_iff_getElem.mp c;simp only[length_take,length_drop,length_toList]at f;refine⟨j,by omega,?_⟩;rw[<-e];unfold it;simp[getD,show i+j<a.size by omega]
theorem iQ(c:x∈a.toList.drop i):∃j,i<=j/\j<a.size/\x=it a j:=by obtain⟨j,f,e⟩:=List.mem_iff_getElem.mp c;simp only[length_drop,length_toList]at f;refine⟨i+j,by omega,by omega,?_⟩;rw[<-e];unfold it;simp[getD,show i+j<a.size by omega]
def rZ(K:Keyed->Int)(a:Array Keyed):Prop:=∀i j,i<=j->j<a.size->K (it a i)<=K (it a j)
theorem oW(h:rZ K a):SL K a.toList:=by
 unfold SL;rw[List.pairwise_iff_getElem];intro i j hi f g;have:=h i j (by omega) (by simpa using f);have c:i<a.size:=by simpa using hi
 have e:j<a.size:=by simpa using f
 unfold it at this;simpa[getD,c,e]using this
end
section
variable{M:Model}{A:Around}{E:Value->Shared->Prop}{s:Shared}{κ:SortKind}{ok:Keyed->Prop}{K:Keyed->Int}
structure o8(st st':SortSt):Prop where
 kind:kindOf st'=kindOf st
 arr:arrOf st'=arrOf st
 pend:pendingOf st'=pendingOf st
 fail:failedOf st'=failedOf st
theorem o8.refl(st:SortSt):o8 st st:=⟨rfl,rfl,rfl,rfl⟩
theorem o8.trans{a b c:SortSt}(h:o8 a b)(k:o8 b c):o8 a c:=⟨k.kind.trans h.kind,k.arr.trans h.arr,k.pend.trans h.pend,k.fail.trans h.fail⟩
noncomputable def setG:Nat->SM Unit:=sortPriv%PySem.Builtin.setMinGallop
theorem mC{g:Nat}{Q:Unit->SortSt->Prop}{st:SortSt}(q:∀st',o8 st st'->Q () st'):wpS M A E s (setG g) Q st:=wpS_modify (q _ ⟨rfl,rfl,rfl,rfl⟩)
theorem wp_rule{x:String}{Q:Unit->SortSt->Prop}{st:SortSt}(q:Q () st):wpS M A E s (liftM (rule x):SM Unit) Q st:=wpS_lift (wpAny_rule ⟨rfl,q⟩)
noncomputable def mlo:Array Keyed->Array Keyed->SM (Array Keyed):=sortPriv%PySem.Builtin.mergeLo
structure MI(K:Keyed->Int)(a b out:Array Keyed)(ia ib:Nat):Prop where
 i1:ia+1<a.size
 i2:ib<b.size
 w:MW K (a.toList++b.toList) out.toList (a.toList.drop ia) (b.toList.drop ib)
structure Fin(K:Keyed->Int)(a b out:Array Keyed):Prop where perm:out.toList.Perm (a.toList++b.toList)qm:SL K out.toList
theorem jf{c:Array Keyed}(h:ib=b.size)(w:MW K (a.toList++b.toList) c.toList (a.toList.drop ia) (b.toList.drop ib)):Fin K a b (c++a.extract ia a.size++b.extract ib b.size):=by
 have e:b.toList.drop ib=[]:=by rw[h];simp
 rw[e]at w;obtain⟨h1,f⟩:=w.WL;refine⟨?_,?_⟩<;>rw[toList_append,toList_append,iV,iV,e,append_nil]<;>assumption
theorem yC{c:Array Keyed}(h:ia=a.size)(w:MW K (a.toList++b.toList) c.toList (a.toList.drop ia) (b.toList.drop ib)):Fin K a b (c++a.extract ia a.size++b.extract ib b.size):=by
 have e:a.toList.drop ia=[]:=by rw[h];simp
 rw[e]at w;obtain⟨h1,f⟩:=w.Xz;refine⟨?_,?_⟩<;>rw[toList_append,toList_append,iV,iV,e,append_nil]<;>assumption
theorem jU{c:Array Keyed}(h:ia+1=a.size)(f:∀i,i<b.size->K (it b i)<=K (it a (a.size-1)))(w:MW K (a.toList++b.toList) c.toList (a.toList.drop ia) (b.toList.drop ib)):Fin K a b (c++b.extract ib b.size++a.extract ia a.size):=by
 have e:a.toList.drop ia=[it a ia]:=by rw[rH (by omega),h];simp
 rw[e]at w;obtain⟨h1,m⟩:=w.last λy g=>by obtain⟨j,_,l,rfl⟩:=iQ g;rw[show ia=a.size-1 by omega];exact f j l
 refine⟨?_,?_⟩<;>rw[toList_append,toList_append,iV,iV,e]<;>assumption
theorem MW.pR{c:Array Keyed}(h:ia<a.size)(w:MW K (a.toList++b.toList) c.toList (a.toList.drop ia) (b.toList.drop ib))(e:rZ K b)(f:ib<b.size->K (it a ia)<=K (it b ib)):MW K (a.toList++b.toList) (c.push (it a ia)).toList (a.toList.drop (ia+1)) (b.toList.drop ib):=by rw[rH h]at w;rw[toList_push];refine MW.Sy (P:=[it a ia]) w λx g y l=>?_;rw[List.mem_singleton.mp g];obtain⟨j,m,o,rfl⟩:=iQ l;exact Int.le_trans (f (by omega)) (e _ _ m o)
theorem MW.qx{c:Array Keyed}(h:ib<b.size)(w:MW K (a.toList++b.toList) c.toList (a.toList.drop ia) (b.toList.drop ib))(e:rZ K a)(f:ia<a.size->K (it b ib)<=K (it a ia)):MW K (a.toList++b.toList) (c.push (it b ib)).toList (a.toList.drop ia) (b.toList.drop (ib+1)):=by rw[rH h]at w;rw[toList_push];refine MW.RG (P:=[it b ib]) w λx g y l=>?_;rw[List.mem_singleton.mp g];obtain⟨j,m,o,rfl⟩:=iQ l;exact Int.le_trans (f (by omega)) (e _ _ m o)
theorem MW.BR{c:Array Keyed}{k:Nat}(h:ia+k<=a.size)(w:MW K (a.toList++b.toList) c.toList (a.toList.drop ia) (b.toList.drop ib))(e:rZ K b)(f:∀j,j<k->ib<b.size->K (it a (ia+j))<=K (it b ib)):MW K (a.toList++b.toList) (c++a.extract ia (ia+k)).toList (a.toList.drop (ia+k)) (b.toList.drop ib):=by rw[jq h]at w;rw[toList_append];refine MW.Sy w λx g y l=>?_;obtain⟨i,hi,rfl⟩:=ext_mem h g;obtain⟨j,m,o,rfl⟩:=iQ l;exact Int.le_trans (f i hi (by omega)) (e _ _ m o)
theorem MW.Ae{c:Array Keyed}{k:Nat}(h:ib+k<=b.size)(w:MW K (a.toList++b.toList) c.toList (a.toList.drop ia) (b.toList.drop ib))(e:rZ K a)(f:∀j,j<k->ia<a.size->K (it b (ib+j))<=K (it a ia)):MW K (a.toList++b.toList) (c++b.extract ib (ib+k)).toList (a.toList.drop ia) (b.toList.drop (ib+k)):=by rw[jq h]at w;rw[toList_append];refine MW.RG w λx g y l=>?_;obtain⟨i,hi,rfl⟩:=ext_mem h g;obtain⟨j,m,o,rfl⟩:=iQ l;exact Int.le_trans (f i hi (by omega)) (e _ _ m o)
theorem rQ{l:Bool}{b:Nat}(h:rZ K a)(f:b+n<=a.size):G5 K l k a b n:=λi j e g c=>by have:=h (b+i) (b+j) (by omega) (by omega);unfold bb at*;cases l with|true=>simp only[if_true,decide_eq_true_eq]at*;omega|false=>simp only[false_eq_true,if_false,not_eq_true',decide_eq_false_iff_not]at*;omega
end
section
variable{M:Model}{A:Around}{E:Value->Shared->Prop}{s:Shared}{κ:SortKind}{ok:Keyed->Prop}{K:Keyed->Int}
theorem Bb{e f:Type}{T:PUnit->e->SM f}{c:Prop}{d:Decidable c}{x y:e}{Q:f->SortSt->Prop}{st:SortSt}(h:∀r u,wpS M A E s (T r u) Q st):wpS M A E s (@ite _ c d (T ⟨⟩ x) (T ⟨⟩ y)) Q st:=by split<;>exact h _ _
theorem mF{e f g:Type}{T:PUnit->e->f->SM g}{c:Prop}{d:Decidable c}{B:SM g}{x:e}{y:f}{Q:g->SortSt->Prop}{st:SortSt}(C:e->f->Prop)(h:∀r u v,C u v->wpS M A E s (T r u v) Q st)(l:c->(∀r u v,C u v->wpS M A E s (T r u v) Q st)->wpS M A E s B Q st)(m:¬ c->C x y):wpS M A E s (@ite _ c d B (T ⟨⟩ x y)) Q st:=by
 split;.exact l ‹_› h
 .exact h _ _ _ (m ‹_›)
abbrev MQ{f:Type}(K:Keyed->Int)(a b:Array Keyed)(st:SortSt)(c:Option (Array Keyed)×f)(st':SortSt):Prop:=o8 st st'/\∃e,c.1=some e/\Fin K a b e
abbrev MI1(K:Keyed->Int)(a b:Array Keyed)(st:SortSt)(x:Nat)(c:Option (Array Keyed)×Array Keyed×Nat×Nat×Nat)(st':SortSt):Prop:=o8 st st'/\∃e ia ib mg,c=(none,e,ia,ib,mg)/\MI K a b e ia ib/\x+1<=ia+ib
abbrev MI2(K:Keyed->Int)(a b:Array Keyed)(st:SortSt)(n y:Nat)(c:Option (Array Keyed)×Array Keyed×Nat×Nat×Nat×Nat)(st':SortSt):Prop:=o8 st st'/\∃e f g h l,c=(none,e,f,g,h,l)/\MI K a b e f g/\n+y<=f+g
abbrev MI3(K:Keyed->Int)(a b:Array Keyed)(st:SortSt)(n:Nat)(c:Option (Array Keyed)×Array Keyed×Nat×Nat×Nat×Nat×Nat)(st':SortSt):Prop:=o8 st st'/\∃e f g mg h l,c=(none,e,f,g,mg,h,l)/\MI K a b e f g/\n+1<=f+g
abbrev MQ2(K:Keyed->Int)(a b:Array Keyed)(st:SortSt)(n:Nat)(c:Option (Array Keyed)×Array Keyed×Nat×Nat×Nat×Nat)(st':SortSt):Prop:=o8 st st'/\((∃e,c.1=some e/\Fin K a b e)\/∃e f g h l,c=(none,e,f,g,h,l)/\MI K a b e f g/\n+1<=f+g)
abbrev MQ3(K:Keyed->Int)(a b:Array Keyed)(st:SortSt)(n:Nat)(c:Option (Array Keyed)×Array Keyed×Nat×Nat×Nat×Nat×Nat)(st':SortSt):Prop:=o8 st st'/\((∃e,c.1=some e/\Fin K a b e)\/∃e f g mg h l,c=(none,e,f,g,mg,h,l)/\MI K a b e f g/\n+1<=f+g)
set_option maxHeartbeats 1000000 in
theorem Lz(R:Rk M A E s κ ok K){Q:Array Keyed->SortSt->Prop}{st:SortSt}(Y:∀x∈a.toList,ok x)(Z:∀x∈b.toList,ok x)(hs:kindOf st=κ)(z:rZ K a)(G:rZ K b)(a1:1<=a.size)(b1:1<=b.size)(h0:K (it b 0)<=K (it a 0))(U:∀i,i<b.size->K (it b i)<=K (it a (a.size-1)))(q:∀f st',Fin K a b f->o8 st st'->Q f st'):wpS M A E s (mlo a b) Q st:=by
 show wpS M A E s (liftM (rule "list.sort.merge-lo")>>=_) Q st;refine wpS_bind (wp_rule ?_);extract_lets+onlyGivenNames-merge-underBinder x0 x1 x2;refine wpS_bind (aZ (by omega) ?_);extract_lets+onlyGivenNames-merge-underBinder x3 x4 x5;dsimp-zeta-zetaHave only[x0,x1,x2,x3,x4,x5];have w0:MW K (a.toList++b.toList) (#[]:Array Keyed).toList (a.toList.drop 0) (b.toList.drop 0):=⟨by simp,by simpa using oW z,by simpa using oW G⟩;have W:=w0.qx (by omega) z (λ_=>h0);rw[show(#[]:Array Keyed).push (it b 0)=#[it b 0]from rfl]at W;by_cases c1:1=b.size;.rw[if_pos (by simpa using c1)];exact wpS_pure (q _ _ (jf c1 W) (.refl _))
 rw[if_neg (by simpa using c1)];by_cases c2:0+1=a.size;.rw[if_pos (by simpa using c2)];exact wpS_pure (q _ _ (jU c2 U W) (.refl _))
 rw[if_neg (by simpa using c2)];refine wpS_bind (wpS_get ?_);extract_lets+onlyGivenNames-merge-underBinder x6;refine wpS_bind (wpS_mono (wpS_forRange (I:=MI1 K a b st) (Q:=MQ K a b st) ?_ ?_ ⟨.refl _,_,0,1,_,rfl,⟨by omega,by omega,W⟩,by omega⟩) ?_)
 . rintro x c H _ hx⟨s1,f,ia,ib,mg,rfl,h,hp⟩;extract_lets+onlyGivenNames-merge-underBinder y0 y1 y2 y3 y4 y5 y6 y7 y8;dsimp-zeta-zetaHave only[x0,x1,x2,x3,x4,x5,y0,y1,y2,y3,y4,y5,y6,y7,y8];refine wpS_bind (wpS_mono (wpS_forRange (I:=MI2 K a b st (ia+ib)) (Q:=MQ2 K a b st (ia+ib)) ?_ ?_ ⟨s1,f,ia,ib,0,0,rfl,h,by omega⟩) ?_)
   . rintro y c J _ hy⟨s2,f,l,g,B,C,rfl,h,o⟩;have i1:=h.i1;have i2:=h.i2;try dsimp only
     refine wpS_bind (aZ i2 (wpS_bind (aZ (by omega) (wpS_bind (R.lt (Z _ (dh i2)) (Y _ (dh (by omega))) (s2.kind.trans hs) ?_)))));by_cases c:K (it b g)<K (it a l)
     . rw[decide_eq_true c];try dsimp only
       rw[if_pos rfl];refine wpS_bind (aZ i2 ?_);try dsimp only
       have w:=h.w.qx i2 z (λ_=>by omega);by_cases e:g+1=b.size;.rw[if_pos (by simpa using e)];exact wpS_pure ⟨s2,.inl ⟨_,rfl,jf e w⟩⟩
       . rw[if_neg (by simpa using e)];have r:MI K a b (f.push (it b g)) l (g+1):=⟨i1,by omega,w⟩;split;.exact wpS_pure ⟨s2,.inr ⟨_,_,_,_,_,rfl,r,by omega⟩⟩
         .exact wpS_pure ⟨s2,_,_,_,_,_,rfl,r,by omega⟩
     . rw[decide_eq_false c];try dsimp only
       rw[if_neg (by simp)];refine wpS_bind (aZ (by omega) ?_);try dsimp only
       have w:=h.w.pR (by omega) G (λ_=>by omega);by_cases e:l+1+1=a.size;.rw[if_pos (by simpa using e)];exact wpS_pure ⟨s2,.inl ⟨_,rfl,jU e U w⟩⟩
       . rw[if_neg (by simpa using e)];have r:MI K a b (f.push (it a l)) (l+1) g:=⟨by omega,i2,w⟩;split;.exact wpS_pure ⟨s2,.inr ⟨_,_,_,_,_,rfl,r,by omega⟩⟩
         .exact wpS_pure ⟨s2,_,_,_,_,_,rfl,r,by omega⟩
   .rintro c J⟨s2,f,l,g,B,C,rfl,h,o⟩;exact⟨s2,.inr ⟨_,_,_,_,_,rfl,h,by omega⟩⟩
   . rintro c J⟨s2,⟨f,hc,L⟩|⟨f,l,g,B,C,rfl,h,o⟩⟩;.obtain⟨c1,c2,c3,c4,c5,c6⟩:=c;cases hc;exact wpS_pure ⟨s2,f,rfl,L⟩
     . extract_lets+onlyGivenNames-merge-underBinder z0 z1 z2 z3 z4 z5 z6 z7 z8 z9;dsimp-zeta-zetaHave only[z0,z1,z2,z3,z4,z5,z6,z7,z8,z9];refine wpS_bind (wp_rule ?_);extract_lets+onlyGivenNames-merge-underBinder za;refine wpS_bind (wpS_mono (wpS_forRange (I:=λ_=>MI3 K a b st (ia+ib)) (Q:=MQ3 K a b st (ia+ib)) ?_ ?_ ⟨s2,f,l,g,_,B,C,rfl,h,by omega⟩) ?_)
       . rintro y c N _ hy⟨s3,f,l,g,mg,B,C,rfl,h,o⟩;have i1:=h.i1;have i2:=h.i2;extract_lets+onlyGivenNames-merge-underBinder t0 t1 t2 t3 t4 t5 t6 t7 t8 t9 ta jp;dsimp only[t0,t1,t2,t3,t4,t5,t6,t7,t8,t9,ta];refine Bb (T:=jp) ?_;intro _ mg;dsimp-zeta-zetaHave only[jp,t0,t1,t2,t3,t4,t5,t6,t7,t8,t9,ta];refine wpS_bind (mC λEj Nf=>?_);have s4:=s3.trans Nf;refine wpS_bind (aZ i2 ?_);refine wpS_bind (kI R (Z _ (dh i2)) Y (by omega) (by omega) (s4.kind.trans hs) (rQ z (by omega)) λk k1 k2 k3=>?_);have ae:∀j,j<k->K (it a (l+j))<=K (it b g):=λj t=>by have:=k2 j t;simp[bb]at this;omega
         have PN:∀j,k<=j->j<a.size-l->K (it b g)<=K (it a (l+j)):=λj h1 h2=>by have:=k3 j h1 h2;simp[bb]at this;omega
         try dsimp-zeta-zetaHave only
         extract_lets+onlyGivenNames-merge-underBinder u0 jp2;dsimp only[u0];refine mF (T:=jp2) (x:=f) (y:=l) (λwD p=>(l<=p/\p+1<a.size)/\MW K (a.toList++b.toList) wD.toList (a.toList.drop p) (b.toList.drop g)/\K (it b g)<=K (it a p)) ?_ (λc v=>?_) (λc=>⟨⟨cH,i1⟩,h.w,PN 0 (by omega) (by omega)⟩)
         . rintro _ wD p⟨⟨j0,j1⟩,w,k4⟩;dsimp-zeta-zetaHave only[jp2,u0];refine wpS_bind (aZ i2 ?_);have w2:=w.qx i2 z λ_=>k4;extract_lets+onlyGivenNames-merge-underBinder v0 v1;dsimp-zeta-zetaHave only[v0,v1];by_cases e3:g+1=b.size;.rw[if_pos (by simpa using e3)];exact wpS_pure ⟨s4,.inl ⟨_,rfl,jf e3 w2⟩⟩
           rw[if_neg (by simpa using e3)];have j3:g+1<b.size:=by omega
           refine wpS_bind (aZ (by omega) ?_);refine wpS_bind (kI R (Y _ (dh (by omega))) Z (by omega) (by omega) (s4.kind.trans hs) (rQ G (by omega)) λm m1 m2 m3=>?_);have af:∀j,j<m->K (it b (g+1+j))<=K (it a p):=λj t=>by have:=m2 j t;simp[bb]at this;omega
           have O:∀j,m<=j->j<b.size-(g+1)->K (it a p)<=K (it b (g+1+j)):=λj h1 h2=>by have:=m3 j h1 h2;simp[bb]at this;omega
           try dsimp-zeta-zetaHave only
           extract_lets+onlyGivenNames-merge-underBinder v2 TV;dsimp only[v2];refine mF (T:=TV) (x:=wD.push (it b g)) (y:=g+1) (λwF F=>(g+1<=F/\F<b.size)/\MW K (a.toList++b.toList) wF.toList (a.toList.drop p) (b.toList.drop F)/\K (it a p)<=K (it b F)) ?_ (λc v=>?_) (λc=>⟨⟨cH,j3⟩,w2,O 0 (by omega) (by omega)⟩)
           . rintro _ wF F⟨⟨j4,j2⟩,X,m4⟩;dsimp only[TV,v2];refine wpS_bind (aZ (by omega) ?_);have w4:=X.pR (by omega) G λ_=>m4;try dsimp only
             by_cases e5:p+1+1=a.size;.rw[if_pos (by simpa using e5)];exact wpS_pure ⟨s4,.inl ⟨_,rfl,jU e5 U w4⟩⟩
             rw[if_neg (by simpa using e5)];have r:MI K a b (wF.push (it a p)) (p+1) F:=⟨by omega,j2,w4⟩;split;.exact wpS_pure ⟨s4,.inr ⟨_,_,_,_,_,_,rfl,r,by omega⟩⟩
             .exact wpS_pure ⟨s4,_,_,_,_,_,_,rfl,r,by omega⟩
           . have X:=w2.Ae (k:=m) (by omega) z λj t _=>af j t;by_cases e4:g+1+m=b.size;.rw[if_pos (by simpa using e4)];exact wpS_pure ⟨s4,.inl ⟨_,rfl,jf e4 X⟩⟩
             rw[if_neg (by simpa using e4)];exact v ⟨⟩ _ _ ⟨⟨by omega,by omega⟩,X,O m (cH) (by omega)⟩
         . have w:=h.w.BR (k:=k) (by omega) G λj t _=>ae j t;by_cases e1:l+k+1=a.size;.rw[if_pos (by simpa using e1)];exact wpS_pure ⟨s4,.inl ⟨_,rfl,jU e1 U w⟩⟩
           rw[if_neg (by simpa using e1)];by_cases e2:l+k=a.size;.rw[if_pos (by simpa using e2)];exact wpS_pure ⟨s4,.inl ⟨_,rfl,yC e2 w⟩⟩
           rw[if_neg (by simpa using e2)];exact v ⟨⟩ _ _ ⟨⟨by omega,by omega⟩,w,PN k (cH) (by omega)⟩
       .rintro c N⟨s3,f,l,g,mg,B,C,rfl,h,o⟩;exact⟨s3,.inr ⟨_,_,_,_,_,_,rfl,h,o⟩⟩
       . rintro c N⟨s3,⟨f,hc,L⟩|⟨f,l,g,mg,B,C,rfl,h,o⟩⟩;.obtain⟨c1,c2,c3,c4,c5,c6,c7⟩:=c;cases hc;exact wpS_pure ⟨s3,f,rfl,L⟩
         . try dsimp only
           exact wpS_bind (mC λEj Nf=>wpS_pure ⟨s3.trans Nf,_,_,_,_,rfl,h,by omega⟩)
 .rintro c H⟨s1,f,ia,ib,mg,rfl,h,hp⟩;have:=h.i1;have:=h.i2;omega
 .rintro c H⟨s1,f,hc,L⟩;obtain⟨c1,c2,c3,c4,c5⟩:=c;cases hc;exact wpS_pure (q _ _ L s1)
end
section
variable{K:Keyed->Int}{T A B S P:List Keyed}{z:Keyed}
structure MH(K:Keyed->Int)(T A B S:List Keyed):Prop where
 perm:(A++(B++S)).Perm T
 sa:SL K (A++S)sb:SL K (B++S)
theorem MH.Sy(w:MH K T (A++P) B S)(h:∀x∈P,∀y∈B,K y<=K x):MH K T A B (P++S):=by
 have h1:=cG.mp w.sb;have e:=cG.mp (show SL K (A++(P++S))by simpa using w.sa);refine⟨?_,by simpa using w.sa,cG.mpr ⟨h1.1,e.2.1,λx c y hy=>?_⟩⟩;.refine List.Perm.trans ?_ w.perm;rw[append_assoc];refine List.Perm.append_left A ?_;rw[<-append_assoc,<-append_assoc];exact List.perm_append_comm.append_right S
 . rcases mem_append.mp hy with hy|hy;.exact h y hy x c
   .exact h1.2.2 x c y hy
theorem MH.RG(w:MH K T A (B++P) S)(h:∀x∈P,∀y∈A,K y<=K x):MH K T A B (P++S):=by
 have h1:=cG.mp w.sa;have e:=cG.mp (show SL K (B++(P++S))by simpa using w.sb);refine⟨by simpa using w.perm,cG.mpr ⟨h1.1,e.2.1,λx c y hy=>?_⟩,by simpa using w.sb⟩;rcases mem_append.mp hy with hy|hy;.exact h y hy x c
 .exact h1.2.2 x c y hy
theorem MH.first(w:MH K T A [z] S)(h:∀x∈A,K z<=K x):([z]++A++S).Perm T/\SL K ([z]++A++S):=by
 refine⟨?_,?_⟩;.refine List.Perm.trans ?_ w.perm;rw[<-append_assoc];exact List.perm_append_comm.append_right S
 . rw[append_assoc];refine cG.mpr ⟨List.pairwise_singleton _ _,w.sa,λx c y hy=>?_⟩;rw[List.mem_singleton.mp c];rcases mem_append.mp hy with hy|hy;.exact h y hy
   .exact(cG.mp w.sb).2.2 z (by simp) y hy
theorem gn(h:n<=a.size):(a.extract 0 n).toList=a.toList.take n:=by rw[iu h];simp
theorem gF(hi:i<=n)(h:n<=a.size):a.toList.take n=a.toList.take i++(a.extract i n).toList:=by
 rw[iu h];have e:n=i+(n-i):=by omega
 conv=>lhs;rw[e,List.take_add]
theorem rO(h0:1<=n)(h:n<=a.size):a.toList.take n=a.toList.take (n-1)++[it a (n-1)]:=by
 have e:it a (n-1)=a.toList[n-1]'(by simp;omega):=by unfold it;simp[getD,show n-1<a.size by omega]
 have c:n=(n-1)+1:=by omega
 conv=>lhs;rw[c]
 rw[List.take_succ_eq_append_getElem (by simp;omega),e]
theorem ig(h:n<=a.size)(c:x∈a.toList.take n):∃j,j<n/\x=it a j:=by obtain⟨j,f,e⟩:=List.mem_iff_getElem.mp c;simp only[length_take,length_toList]at f;refine⟨j,by omega,?_⟩;rw[<-e];unfold it;simp[getD,show j<a.size by omega]
theorem nD(hi:i<=n)(h:n<=a.size)(c:x∈(a.extract i n).toList):∃j,i<=j/\j<n/\x=it a j:=by obtain⟨j,f,e⟩:=ext_mem (a:=a) (i:=i) (k:=n-i) (by omega) (by rw[show i+(n-i)=n by omega];exact c);exact⟨i+j,by omega,by omega,e⟩
end
section
variable{M:Model}{A:Around}{E:Value->Shared->Prop}{s:Shared}{κ:SortKind}{ok:Keyed->Prop}{K:Keyed->Int}
noncomputable def mhi:Array Keyed->Array Keyed->SM (Array Keyed):=sortPriv%PySem.Builtin.mergeHi
abbrev MV(K:Keyed->Int)(a b c:Array Keyed)(na nb:Nat):Prop:=MH K (a.toList++b.toList) (a.toList.take na) (b.toList.take nb) c.toList.reverse
structure MJ(K:Keyed->Int)(a b out:Array Keyed)(na nb:Nat):Prop where
 i1:1<=na
 i2:2<=nb
 i3:na<=a.size
 i4:nb<=b.size
 w:MV K a b out na nb
theorem il{c:Array Keyed}:c.reverse.toList=c.toList.reverse:=Array.toList_reverse
theorem rM{c:Array Keyed}(h:na=0)(f:nb<=b.size)(w:MV K a b c na nb):Fin K a b (a.extract 0 na++b.extract 0 nb++c.reverse):=by
 subst h;have e:(a.extract 0 0++b.extract 0 nb++c.reverse).toList=b.toList.take nb++c.toList.reverse:=by rw[toList_append,toList_append,gn (vZ),gn f,il];simp
 exact⟨by rw[e];simpa using w.perm,by rw[e];exact w.sb⟩
theorem Li{c:Array Keyed}(h:nb=0)(f:na<=a.size)(w:MV K a b c na nb):Fin K a b (a.extract 0 na++b.extract 0 nb++c.reverse):=by
 subst h;have e:(a.extract 0 na++b.extract 0 0++c.reverse).toList=a.toList.take na++c.toList.reverse:=by rw[toList_append,toList_append,gn (vZ),gn f,il];simp
 exact⟨by rw[e];simpa using w.perm,by rw[e];exact w.sa⟩
theorem jd{c:Array Keyed}(h:nb=1)(g:na<=a.size)(l:nb<=b.size)(o:rZ K a)(h0:K (it b 0)<=K (it a 0))(w:MV K a b c na nb):Fin K a b (b.extract 0 nb++a.extract 0 na++c.reverse):=by
 subst h;have m:b.toList.take 1=[it b 0]:=by rw[rO (le_refl 1) l];simp
 have e:(b.extract 0 1++a.extract 0 na++c.reverse).toList=[it b 0]++a.toList.take na++c.toList.reverse:=by rw[toList_append,toList_append,gn l,gn g,il,m]
 have f:=w;unfold MV at f;rw[m]at f;obtain⟨h1,p⟩:=f.first λx q=>by obtain⟨j,r,rfl⟩:=ig g q;exact Int.le_trans h0 (o 0 j (by omega) (by omega))
 exact⟨by rw[e];exact h1,by rw[e];exact p⟩
theorem MH.pR{c:Array Keyed}(h:1<=na)(e:na<=a.size)(f:nb<=b.size)(w:MV K a b c na nb)(g:rZ K b)(l:1<=nb->K (it b (nb-1))<=K (it a (na-1))):MV K a b (c.push (it a (na-1))) (na-1) nb:=by unfold MV at*;rw[rO h e]at w;rw[toList_push,reverse_append];refine MH.Sy (P:=[it a (na-1)]) w λx m y o=>?_;rw[List.mem_singleton.mp m];obtain⟨j,p,rfl⟩:=ig f o;exact Int.le_trans (g j (nb-1) (by omega) (by omega)) (l (by omega))
theorem MH.qx{c:Array Keyed}(h:1<=nb)(e:na<=a.size)(f:nb<=b.size)(w:MV K a b c na nb)(g:rZ K a)(l:1<=na->K (it a (na-1))<=K (it b (nb-1))):MV K a b (c.push (it b (nb-1))) na (nb-1):=by unfold MV at*;rw[rO h f]at w;rw[toList_push,reverse_append];refine MH.RG (P:=[it b (nb-1)]) w λx m y o=>?_;rw[List.mem_singleton.mp m];obtain⟨j,p,rfl⟩:=ig e o;exact Int.le_trans (g j (na-1) (by omega) (by omega)) (l (by omega))
theorem MH.BR{c:Array Keyed}(h:i<=na)(e:na<=a.size)(f:nb<=b.size)(w:MV K a b c na nb)(g:rZ K b)(m:∀j,i<=j->j<na->1<=nb->K (it b (nb-1))<=K (it a j)):MV K a b (c++(a.extract i na).reverse) i nb:=by unfold MV at*;rw[gF h e]at w;rw[toList_append,reverse_append,il,List.reverse_reverse];refine MH.Sy w λx o y p=>?_;obtain⟨j,q,r,rfl⟩:=nD h e o;obtain⟨l,t,rfl⟩:=ig f p;exact Int.le_trans (g l (nb-1) (by omega) (by omega)) (m j q r (by omega))
theorem MH.Ae{c:Array Keyed}(h:i<=nb)(f:na<=a.size)(e:nb<=b.size)(w:MV K a b c na nb)(g:rZ K a)(m:∀j,i<=j->j<nb->1<=na->K (it a (na-1))<=K (it b j)):MV K a b (c++(b.extract i nb).reverse) na i:=by unfold MV at*;rw[gF h e]at w;rw[toList_append,reverse_append,il,List.reverse_reverse];refine MH.RG w λx o y p=>?_;obtain⟨j,q,r,rfl⟩:=nD h e o;obtain⟨l,t,rfl⟩:=ig f p;exact Int.le_trans (g l (na-1) (by omega) (by omega)) (m j q r (by omega))
set_option maxHeartbeats 1000000 in
theorem JV(R:Rk M A E s κ ok K){Q:Array Keyed->SortSt->Prop}{st:SortSt}(ha:∀x∈a.toList,ok x)(hb:∀x∈b.toList,ok x)(hs:kindOf st=κ)(v:rZ K a)(G:rZ K b)(a1:1<=a.size)(b1:1<=b.size)(h0:K (it b 0)<=K (it a 0))(hl:∀i,i<b.size->K (it b i)<=K (it a (a.size-1)))(q:∀f st',Fin K a b f->o8 st st'->Q f st'):wpS M A E s (mhi a b) Q st:=by
 show wpS M A E s (liftM (rule "list.sort.merge-hi")>>=_) Q st;refine wpS_bind (wp_rule ?_);extract_lets+onlyGivenNames-merge-underBinder x0 x1 x2 x3 x4;refine wpS_bind (aZ (by omega) ?_);extract_lets+onlyGivenNames-merge-underBinder x5;dsimp-zeta-zetaHave only[x0,x1,x2,x3,x4,x5];have J:∀c:Array Keyed,c.toList.take c.size=c.toList:=λc=>take_of_length_le (by simp);have w0:MV K a b #[] a.size b.size:=by unfold MV;rw[J,J];exact⟨by simp,by simpa using oW v,by simpa using oW G⟩
 have z:=MH.pR a1 (cH) (cH) w0 G (λ_=>hl _ (by omega));rw[show(#[]:Array Keyed).push (it a (a.size-1))=#[it a (a.size-1)]from rfl]at z;by_cases c1:a.size-1=0;.rw[if_pos (by simpa using c1)];exact wpS_pure (q _ _ (rM c1 (cH) z) (.refl _))
 rw[if_neg (by simpa using c1)];by_cases c2:b.size=1;.rw[if_pos (by simpa using c2)];exact wpS_pure (q _ _ (jd c2 (by omega) (cH) v h0 z) (.refl _))
 rw[if_neg (by simpa using c2)];refine wpS_bind (wpS_get ?_);extract_lets+onlyGivenNames-merge-underBinder x6;refine wpS_bind (wpS_mono (wpS_forRange (I:=λx c st'=>o8 st st'/\∃na nb f mg,c=(none,na,nb,f,mg)/\MJ K a b f na nb/\x+1+na+nb<=a.size+b.size) (Q:=λc st'=>o8 st st'/\∃f,c.1=some f/\Fin K a b f) ?_ ?_ ⟨.refl _,_,_,_,_,rfl,⟨by omega,by omega,by omega,cH,z⟩,by omega⟩) ?_)
 . rintro x c L _ hx⟨s1,na,nb,f,mg,rfl,l,hp⟩;extract_lets+onlyGivenNames-merge-underBinder y0 y1 y2 y3 y4 y5 y6 y7 y8;dsimp-zeta-zetaHave only[x0,x1,x2,x3,x4,x5,y0,y1,y2,y3,y4,y5,y6,y7,y8];refine wpS_bind (wpS_mono (wpS_forRange (I:=λy c st'=>o8 st st'/\∃h g f o p,c=(none,h,g,f,o,p)/\MJ K a b f h g/\h+g+y<=na+nb) (Q:=λc st'=>o8 st st'/\((∃f,c.1=some f/\Fin K a b f)\/∃h g f o p,c=(none,h,g,f,o,p)/\MJ K a b f h g/\h+g+1<=na+nb)) ?_ ?_ ⟨s1,na,nb,f,0,0,rfl,l,by omega⟩) ?_)
   . rintro y c N _ hy⟨s2,h,g,f,o,p,rfl,l,r⟩;obtain⟨i1,i2,i3,i4,w⟩:=l;try dsimp only
     refine wpS_bind (aZ (by omega) (wpS_bind (aZ (by omega) (wpS_bind (R.lt (hb _ (dh (by omega))) (ha _ (dh (by omega))) (s2.kind.trans hs) ?_)))));by_cases c:K (it b (g-1))<K (it a (h-1))
     . rw[decide_eq_true c];try dsimp only
       rw[if_pos rfl];refine wpS_bind (aZ (by omega) ?_);try dsimp only
       have O:=MH.pR i1 i3 i4 w G (λ_=>by omega);by_cases e:h-1=0;.rw[if_pos (by simpa using e)];exact wpS_pure ⟨s2,.inl ⟨_,rfl,rM e i4 O⟩⟩
       . rw[if_neg (by simpa using e)];have B:MJ K a b (f.push (it a (h-1))) (h-1) g:=⟨by omega,i2,by omega,i4,O⟩;split;.exact wpS_pure ⟨s2,.inr ⟨_,_,_,_,_,rfl,B,by omega⟩⟩
         .exact wpS_pure ⟨s2,_,_,_,_,_,rfl,B,by omega⟩
     . rw[decide_eq_false c];try dsimp only
       rw[if_neg (by simp)];refine wpS_bind (aZ (by omega) ?_);try dsimp only
       have O:=MH.qx (by omega) i3 i4 w v (λ_=>by omega);by_cases e:g-1=1;.rw[if_pos (by simpa using e)];exact wpS_pure ⟨s2,.inl ⟨_,rfl,jd e i3 (by omega) v h0 O⟩⟩
       . rw[if_neg (by simpa using e)];have B:MJ K a b (f.push (it b (g-1))) h (g-1):=⟨i1,by omega,i3,by omega,O⟩;split;.exact wpS_pure ⟨s2,.inr ⟨_,_,_,_,_,rfl,B,by omega⟩⟩
         .exact wpS_pure ⟨s2,_,_,_,_,_,rfl,B,by omega⟩
   .rintro c N⟨s2,h,g,f,o,p,rfl,l,r⟩;exact⟨s2,.inr ⟨_,_,_,_,_,rfl,l,by omega⟩⟩
   . rintro c N⟨s2,⟨f,hc,U⟩|⟨h,g,f,o,p,rfl,l,r⟩⟩;.obtain⟨c1,c2,c3,c4,c5,c6⟩:=c;cases hc;exact wpS_pure ⟨s2,f,rfl,U⟩
     . extract_lets+onlyGivenNames-merge-underBinder z0 z1 z2 z3 z4 z5 z6 z7 z8 z9;dsimp-zeta-zetaHave only[z0,z1,z2,z3,z4,z5,z6,z7,z8,z9];refine wpS_bind (wp_rule ?_);extract_lets+onlyGivenNames-merge-underBinder za;refine wpS_bind (wpS_mono (wpS_forRange (I:=λy c st'=>o8 st st'/\∃h g f mg o p,c=(none,h,g,f,mg,o,p)/\MJ K a b f h g/\h+g+1<=na+nb) (Q:=λc st'=>o8 st st'/\((∃f,c.1=some f/\Fin K a b f)\/∃h g f mg o p,c=(none,h,g,f,mg,o,p)/\MJ K a b f h g/\h+g+1<=na+nb)) ?_ ?_ ⟨s2,h,g,f,_,o,p,rfl,l,by omega⟩) ?_)
       . rintro y c W _ hy⟨s3,h,g,f,mg,o,p,rfl,l,r⟩;obtain⟨i1,i2,i3,i4,w⟩:=l;extract_lets+onlyGivenNames-merge-underBinder t0 t1 t2 t3 t4 t5 t6 t7 t8 t9 J jp;dsimp only[t0,t1,t2,t3,t4,t5,t6,t7,t8,t9,J];refine Bb (T:=jp) ?_;intro _ mg;dsimp-zeta-zetaHave only[jp,t0,t1,t2,t3,t4,t5,t6,t7,t8,t9,J];refine wpS_bind (mC λEj Nf=>?_);have s4:=s3.trans Nf;refine wpS_bind (aZ (by omega) ?_);refine wpS_bind (kI R (hb _ (dh (by omega))) ha (by omega) (by omega) (s4.kind.trans hs) (rQ v (by omega)) λk k1 k2 k3=>?_);have X:∀j,j<k->K (it a j)<=K (it b (g-1)):=λj hj=>by have:=k2 j hj;simp[bb]at this;omega
         have PN:∀j,k<=j->j<h->K (it b (g-1))<=K (it a j):=λj h1 C=>by have:=k3 j h1 C;simp[bb]at this;omega
         try dsimp-zeta-zetaHave only
         extract_lets+onlyGivenNames-merge-underBinder u0 u1 jp2;dsimp only[u0,u1];refine mF (T:=jp2) (x:=h) (y:=f) (λt wD=>(1<=t/\t<=h)/\MV K a b wD t g/\K (it a (t-1))<=K (it b (g-1))) ?_ (λc F=>?_) (λc=>⟨⟨i1,cH⟩,w,X _ (by omega)⟩)
         . rintro _ t wD⟨⟨j1,j0⟩,z,k4⟩;dsimp-zeta-zetaHave only[jp2,u0,u1];extract_lets+onlyGivenNames-merge-underBinder v0;refine wpS_bind (aZ (by dsimp only[v0];omega) ?_);have w2:=MH.qx (by omega) (by omega) i4 z v (λ_=>k4);extract_lets+onlyGivenNames-merge-underBinder v1;dsimp-zeta-zetaHave only[v0,v1];by_cases e3:g-1=1;.rw[if_pos (by simpa using e3)];exact wpS_pure ⟨s4,.inl ⟨_,rfl,jd e3 (by omega) (by omega) v h0 w2⟩⟩
           rw[if_neg (by simpa using e3)];refine wpS_bind (aZ (by omega) ?_);refine wpS_bind (kI R (ha _ (dh (by omega))) hb (by omega) (by omega) (s4.kind.trans hs) (rQ G (by omega)) λm m1 m2 m3=>?_);have Y:∀j,j<m->K (it b j)<=K (it a (t-1)):=λj hj=>by have:=m2 j hj;simp[bb]at this;omega
           have ae:∀j,m<=j->j<g-1->K (it a (t-1))<=K (it b j):=λj h1 C=>by have:=m3 j h1 C;simp[bb]at this;omega
           try dsimp-zeta-zetaHave only
           extract_lets+onlyGivenNames-merge-underBinder v2 v3 TV;dsimp only[v2,v3];refine mF (T:=TV) (x:=g-1) (y:=wD.push (it b (g-1))) (λH wF=>(2<=H/\H<=g-1)/\MV K a b wF t H/\K (it b (H-1))<=K (it a (t-1))) ?_ (λc F=>?_) (λc=>⟨⟨by omega,cH⟩,w2,Y _ (by omega)⟩)
           . rintro _ H wF⟨⟨j2,j3⟩,Z,m4⟩;dsimp only[TV,v2,v3];refine wpS_bind (aZ (by omega) ?_);have w4:=MH.pR j1 (by omega) (by omega) Z G (λ_=>m4);try dsimp only
             by_cases e6:t-1=0;.rw[if_pos (by simpa using e6)];exact wpS_pure ⟨s4,.inl ⟨_,rfl,rM e6 (by omega) w4⟩⟩
             rw[if_neg (by simpa using e6)];have B:MJ K a b (wF.push (it a (t-1))) (t-1) H:=⟨by omega,j2,by omega,by omega,w4⟩;split;.exact wpS_pure ⟨s4,.inr ⟨_,_,_,_,_,_,rfl,B,by omega⟩⟩
             .exact wpS_pure ⟨s4,_,_,_,_,_,_,rfl,B,by omega⟩
           . have Z:=MH.Ae m1 (by omega) (by omega) w2 v λj h1 C _=>ae j h1 C;by_cases e4:m=1;.rw[if_pos (by simpa using e4)];exact wpS_pure ⟨s4,.inl ⟨_,rfl,jd e4 (by omega) (by omega) v h0 Z⟩⟩
             rw[if_neg (by simpa using e4)];by_cases e5:m=0;.rw[if_pos (by simpa using e5)];exact wpS_pure ⟨s4,.inl ⟨_,rfl,Li e5 (by omega) Z⟩⟩
             rw[if_neg (by simpa using e5)];exact F ⟨⟩ _ _ ⟨⟨by omega,m1⟩,Z,Y _ (by omega)⟩
         . have z:=MH.BR k1 i3 i4 w G λj h1 C _=>PN j h1 C;by_cases e1:k=0;.rw[if_pos (by simpa using e1)];exact wpS_pure ⟨s4,.inl ⟨_,rfl,rM e1 i4 z⟩⟩
           rw[if_neg (by simpa using e1)];exact F ⟨⟩ _ _ ⟨⟨by omega,k1⟩,z,X _ (by omega)⟩
       .rintro c W⟨s3,h,g,f,mg,o,p,rfl,l,r⟩;exact⟨s3,.inr ⟨_,_,_,_,_,_,rfl,l,r⟩⟩
       . rintro c W⟨s3,⟨f,hc,U⟩|⟨h,g,f,mg,o,p,rfl,l,r⟩⟩;.obtain⟨c1,c2,c3,c4,c5,c6,c7⟩:=c;cases hc;exact wpS_pure ⟨s3,f,rfl,U⟩
         . try dsimp only
           exact wpS_bind (mC λEj Nf=>wpS_pure ⟨s3.trans Nf,_,_,_,_,rfl,l,by omega⟩)
 .rintro c L⟨s1,na,nb,f,mg,rfl,l,hp⟩;have:=l.i1;have:=l.i2;omega
 .rintro c L⟨s1,f,hc,U⟩;obtain⟨c1,c2,c3,c4,c5⟩:=c;cases hc;exact wpS_pure (q _ _ U s1)
end
section
variable{K:Keyed->Int}
def Seg(K:Keyed->Int)(xs:Array Keyed)(lo hi:Nat):Prop:=∀i j,lo<=i->i<=j->j<hi->K (it xs i)<=K (it xs j)
theorem xT{l:Bool}{b:Nat}(h:Seg K a b (b+n)):G5 K l k a b n:=λi j e f c=>by have:=h (b+i) (b+j) (by omega) (by omega) (by omega);unfold bb at*;cases l with|true=>simp only[if_true,decide_eq_true_eq]at*;omega|false=>simp only[false_eq_true,if_false,not_eq_true',decide_eq_false_iff_not]at*;omega
theorem gG:it xs i=xs.toList.getD i (Value.none,Value.none):=by
 unfold it;by_cases h:i<xs.size;.simp[getD,h]
 .simp[getD,h]
theorem lE(h:n<=a.size)(g:j<n-i):it (a.extract i n) j=it a (i+j):=by
 have:j<(a.extract i n).size:=by simp;omega
 have e:(a.extract i n)[j]?=a[i+j]?:=by rw[Array.getElem?_extract,if_pos (by omega)]
 have c:=rK this;have f:=rK (show i+j<a.size by omega);rw[e,f]at c;injection c with c;exact c.symm
theorem rC(h:n<=a.size)(hs:Seg K a i n):rZ K (a.extract i n):=λu v e c=>by
 have hsz:(a.extract i n).size=n-i:=by simp;omega
 rw[hsz]at c;rw[lE h (by omega),lE h c];exact hs _ _ (by omega) (by omega) (by omega)
theorem tZ:∀(m:List Keyed)(arr:Array Keyed)(o k:Nat),o+k+m.length<=arr.size->((m.zipIdx k).foldl (λa x=>match x with|(p,j)=>a.setIfInBounds (o+j) p) arr).toList=arr.toList.take (o+k)++(m++arr.toList.drop (o+k+m.length))
 |[],arr,o,k,h=>by simp|x::m,arr,o,k,h=>by
   have c:o+k<arr.size:=by simp at h;omega
   rw[List.zipIdx_cons,foldl_cons];have e:=tZ m (arr.setIfInBounds (o+k) x) o (k+1) (by simp at h ⊢;omega);rw[e,Array.toList_setIfInBounds];have f:(arr.toList.set (o+k) x).take (o+(k+1))=arr.toList.take (o+k)++[x]:=by rw[<-Nat.add_assoc,List.take_succ_eq_append_getElem (by simpa using c),List.take_set_of_le (cH)];simp
   have g:(arr.toList.set (o+k) x).drop (o+(k+1)+m.length)=arr.toList.drop (o+k+(x::m).length):=by rw[List.drop_set_of_lt (by omega)];congr 1;simp;omega
   rw[f,g];simp
theorem Fin.mem{c:Array Keyed}{z:Keyed}(f:Fin K a b c)(h:z∈c.toList):z∈a.toList\/z∈b.toList:=mem_append.mp (f.perm.mem_iff.mp h)
theorem uI{P Q S:List Keyed}(e:xs.toList=P++(Q++S))(f:P.length=lo)(l:P.length+Q.length=hi)(h:SL K Q):Seg K xs lo hi:=λi j h1 m g=>by
 rw[gG,gG,e];have gi:∀n,lo<=n->n<hi->(P++(Q++S)).getD n (Value.none,Value.none)=Q.getD (n-lo) (Value.none,Value.none):=λn o p=>by rw[getD_eq_getElem?_getD,getD_eq_getElem?_getD,List.getElem?_append_right (by omega),getElem?_append_left (by omega),f]
 rw[gi i h1 (by omega),gi j (by omega) g];by_cases c:i=j;.rw[c];exact Int.le_refl _
 .have:=List.pairwise_iff_getElem.mp h (i-lo) (j-lo) (by omega) (by omega) (by omega);simpa[getD_eq_getElem?_getD,show i-lo<Q.length by omega,show j-lo<Q.length by omega]using this
end
section
variable{M:Model}{A:Around}{E:Value->Shared->Prop}{s:Shared}{κ:SortKind}{ok:Keyed->Prop}{K:Keyed->Int}
theorem three(hi:i<=n)(h:n<=a.size):a.toList=a.toList.take i++((a.extract i n).toList++a.toList.drop n):=by rw[<-append_assoc,<-gF hi h,take_append_drop]
theorem CZ(h:n<=a.size)(hs:Seg K a i n):SL K (a.extract i n).toList:=oW (rC h hs)
structure Nk(K:Keyed->Int)(xs ys:Array Keyed)(lo hi:Nat):Prop where
 perm:ys.toList.Perm xs.toList
 pre:ys.toList.take lo=xs.toList.take lo
 post:ys.toList.drop hi=xs.toList.drop hi
 seg:Seg K ys lo hi
theorem sX(h:Seg K xs lo hi):Nk K xs xs lo hi:=⟨.refl _,rfl,rfl,h⟩
theorem Kl{v:Nat}{m:List Keyed}(h1:lo<=u)(g:u<=v)(h:v<=hi)(w:hi<=xs.size)(l:ys.toList=xs.toList.take u++(m++xs.toList.drop v))(o:m.Perm (xs.extract u v).toList)(hs:SL K ((xs.extract lo u).toList++(m++(xs.extract v hi).toList))):Nk K xs ys lo hi:=by
 have p:m.length=v-u:=by rw[o.length_eq];simp;omega
 have q:xs.toList.take u=xs.toList.take lo++(xs.extract lo u).toList:=gF h1 (by omega);have r:xs.toList.drop v=(xs.extract v hi).toList++xs.toList.drop hi:=by have:=jq (a:=xs) (i:=v) (k:=hi-v) (by omega);rwa[show v+(hi-v)=hi by omega]at this
 have e:ys.toList=xs.toList.take lo++(((xs.extract lo u).toList++(m++(xs.extract v hi).toList))++xs.toList.drop hi):=by rw[l,q,r];simp
 have f:(xs.toList.take lo).length=lo:=by simp;omega
 have c:((xs.extract lo u).toList++(m++(xs.extract v hi).toList)).length=hi-lo:=by simp[p];omega
 refine⟨?_,?_,?_,uI e f (by omega) hs⟩;.have t:=three g (show v<=xs.size by omega);rw[l];refine List.Perm.trans (List.Perm.append_left _ (List.Perm.append_right _ o)) (.of_eq t.symm)
 .rw[e,List.take_append_of_le_length (by omega),take_of_length_le (by omega)]
 .rw[e,<-append_assoc,List.drop_append,List.drop_eq_nil_of_le (Nat.le_of_eq (by rw[length_append,f,c,Nat.add_sub_cancel' (le_trans h1 (le_trans g h))])),nil_append,length_append,f,c,Nat.add_sub_cancel' (le_trans h1 (le_trans g h)),Nat.sub_self];rfl
end
section
variable{M:Model}{A:Around}{E:Value->Shared->Prop}{s:Shared}{κ:SortKind}{ok:Keyed->Prop}{K:Keyed->Int}
theorem Ly{st:SortSt}{Q:PUnit->SortSt->Prop}(h:Q ⟨⟩ st'):wpS M A E s (set st':SM PUnit) Q st:=by unfold wpS;rw[StateT.run_set];exact wpAny_pure ⟨rfl,h⟩
theorem jy(hi:i<=n)(h:n<=a.size)(c:x∈(a.extract i n).toList):∃j,i<=j/\j<n/\x=it a j:=nD hi h c
theorem KN{arr merged:Array Keyed}{sa sb v:Nat}(h1:sa<=u)(q:u<=sb)(r:sb<=v)(o:v<=hi)(l:hi<=arr.size)(B:u<sb)(C:sb<v)(s1:Seg K arr sa sb)(s2:Seg K arr sb hi)(f:Fin K (arr.extract u sb) (arr.extract sb v) merged)(p:∀j,sa<=j->j<u->K (it arr j)<=K (it arr sb))(t:∀j,v<=j->j<hi->K (it arr (sb-1))<=K (it arr j)):SL K ((arr.extract sa u).toList++(merged.toList++(arr.extract v hi).toList)):=by
 have e:∀z∈merged.toList,(∃j,u<=j/\j<sb/\z=it arr j)\/∃j,sb<=j/\j<v/\z=it arr j:=λz m=>(f.mem m).imp (jy q (by omega)) (jy r (by omega));refine cG.mpr ⟨CZ (by omega) λi j a b c=>s1 i j a b (by omega),cG.mpr ⟨f.qm,CZ l λi j a b c=>s2 i j (by omega) b c,λz m y hy=>?_⟩,λx w y hy=>?_⟩
 . obtain⟨j,g,h,rfl⟩:=jy o l hy;rcases e z m with⟨i,i1,i2,rfl⟩|⟨i,i1,i2,rfl⟩;.exact Int.le_trans (s1 i (sb-1) (by omega) (by omega) (by omega)) (t j g h)
   .exact s2 i j (by omega) (by omega) (by omega)
 . obtain⟨i,i1,i2,rfl⟩:=jy h1 (by omega) w;rcases mem_append.mp hy with hy|hy
   . rcases e y hy with⟨j,g,h,rfl⟩|⟨j,g,h,rfl⟩;.exact s1 i j (by omega) (by omega) (by omega)
     .exact Int.le_trans (p i i1 i2) (s2 sb j (by omega) (by omega) (by omega))
   .obtain⟨j,g,h,rfl⟩:=jy o l hy;exact Int.le_trans (p i i1 i2) (s2 sb j (by omega) (by omega) (by omega))
set_option maxHeartbeats 1000000 in
theorem LK(R:Rk M A E s κ ok K){sa pw sb g:Nat}{Q:Bool->SortSt->Prop}{st:SortSt}(hs:kindOf st=κ)(ho:∀x∈(arrOf st).toList,ok x)(h:failedOf st=none)(hi:(pendingOf st)[i]?=some (sa,na,pw))(l:(pendingOf st)[i+1]?=some (sb,nb,g))(F:sb=sa+na)(n1:1<=na)(m1:1<=nb)(C:sb+nb<=(arrOf st).size)(s1:Seg K (arrOf st) sa sb)(s2:Seg K (arrOf st) sb (sb+nb))(q:∀st',kindOf st'=κ->failedOf st'=none->pendingOf st'=((pendingOf st).setIfInBounds i (sa,na+nb,pw)).eraseIdxIfInBounds (i+1)->Nk K (arrOf st) (arrOf st') sa (sb+nb)->Q true st'):wpS M A E s (mergeAt' i) Q st:=by
 obtain⟨N,arr,pend,gm,O⟩:=st;replace hs:N=κ:=hs;replace ho:∀x∈arr.toList,ok x:=ho;replace h:O=none:=h;replace hi:pend[i]?=some (sa,na,pw):=hi;replace l:pend[i+1]?=some (sb,nb,g):=l;replace C:sb+nb<=arr.size:=C;replace s1:Seg K arr sa sb:=s1;replace s2:Seg K arr sb (sb+nb):=s2;replace q:∀st',kindOf st'=κ->failedOf st'=none->pendingOf st'=(pend.setIfInBounds i (sa,na+nb,pw)).eraseIdxIfInBounds (i+1)->Nk K arr (arrOf st') sa (sb+nb)->Q true st':=q;show wpS M A E s (get>>=_) Q _;refine wpS_bind (wpS_get ?_);dsimp only;rw[hi,l];try dsimp only
 refine wpS_bind (Ly ?_);refine wpS_bind (aZ (by omega) ?_);refine wpS_bind (kI R (ho _ (dh (by omega))) ho (by omega) (by omega) hs (xT (by rw[<-F];exact s1)) λk k1 k2 k3=>?_);have o:∀j,sa<=j->j<sa+k->K (it arr j)<=K (it arr sb):=λj h1 U=>by have:=k2 (j-sa) (by omega);rw[show sa+(j-sa)=j by omega]at this;simp[bb]at this;omega
 try dsimp only
 by_cases c1:na-k=0
 . rw[if_pos (by simpa using c1)];refine wpS_pure (q _ hs h rfl (sX λu v r t w=>?_));by_cases G:v<sb;.exact s1 u v r t G
   . by_cases hu:u<sb;.exact Int.le_trans (o u r (by omega)) (s2 sb v (by omega) (by omega) w)
     .exact s2 u v (by omega) t w
 rw[if_neg (by simpa using c1)];rw[show sa+k+(na-k)-1=sb-1 by omega];refine wpS_bind (aZ (by show sb-1<arr.size;omega) ?_);refine wpS_bind (kI R (ho _ (dh (by omega))) ho (by omega) (by omega) hs (xT s2) λm ae m2 m3=>?_);have H:∀j,sb<=j->j<sb+m->K (it arr j)<K (it arr (sb-1)):=λj h1 U=>by have:=m2 (j-sb) (by omega);rw[show sb+(j-sb)=j by omega]at this;simpa[bb]using this
 have y:∀j,sb+m<=j->j<sb+nb->K (it arr (sb-1))<=K (it arr j):=λj h1 U=>by have:=m3 (j-sb) (by omega) (by omega);rw[show sb+(j-sb)=j by omega]at this;simp[bb]at this;omega
 have PN:K (it arr sb)<=K (it arr (sa+k)):=by have:=k3 k (cH) (by omega);simp[bb]at this;omega
 try dsimp only
 by_cases c2:m=0
 . rw[if_pos (by simpa using c2)];refine wpS_pure (q _ hs h rfl (sX λu v r t w=>?_));by_cases G:v<sb;.exact s1 u v r t G
   . by_cases hu:u<sb;.exact Int.le_trans (s1 u (sb-1) r (by omega) (by omega)) (y v (by omega) w)
     .exact s2 u v (by omega) t w
 rw[if_neg (by simpa using c2)];have I:(arr.extract (sa+k) sb).size=sb-(sa+k):=by simp;omega
 have J:(arr.extract sb (sb+m)).size=m:=by simp;omega
 have W:rZ K (arr.extract (sa+k) sb):=rC (by omega) λu v a b c=>s1 u v (by omega) b c;have X:rZ K (arr.extract sb (sb+m)):=rC (by omega) λu v a b c=>s2 u v a b (by omega);have Y:∀x∈(arr.extract (sa+k) sb).toList,ok x:=λx L=>by obtain⟨j,j1,j2,rfl⟩:=jy (by omega) (by omega) L;exact ho _ (dh (by omega))
 have Z:∀x∈(arr.extract sb (sb+m)).toList,ok x:=λx L=>by obtain⟨j,j1,j2,rfl⟩:=jy (by omega) (by omega) L;exact ho _ (dh (by omega))
 have z:K (it (arr.extract sb (sb+m)) 0)<=K (it (arr.extract (sa+k) sb) 0):=by rw[lE (by omega) (by omega),lE (by omega) (by omega)];exact PN
 have B:∀j,j<(arr.extract sb (sb+m)).size->K (it (arr.extract sb (sb+m)) j)<=K (it (arr.extract (sa+k) sb) ((arr.extract (sa+k) sb).size-1)):=λj l=>by rw[J]at l;rw[I,lE (by omega) (by omega),lE (by omega) (by omega),show sa+k+(sb-(sa+k)-1)=sb-1 by omega];exact Int.le_of_lt (H _ (by omega) (by omega))
 have fin:∀(merged:Array Keyed)(st':SortSt),Fin K (arr.extract (sa+k) sb) (arr.extract sb (sb+m)) merged->o8 (SortSt.mk' N arr ((pend.setIfInBounds i (sa,na+nb,pw)).eraseIdxIfInBounds (i+1)) gm O) st'->wpS M A E s ((modify λs=>setArr s (foldl (λa x=>match x with|(p,j)=>a.setIfInBounds (sa+k+j) p) (arrOf s) merged.toList.zipIdx))>>=λ_=>get>>=λs=>pure (failedOf s).isNone) Q st':=λmerged st' f e=>by
  refine wpS_bind (wpS_modify (wpS_bind (wpS_get (wpS_pure ?_))));have e1:arrOf st'=arr:=e.arr;have e2:failedOf st'=none:=e.fail.trans h;have Y0:merged.toList.length=sb+m-(sa+k):=by rw[f.perm.length_eq];simp;omega
  show Q (failedOf st').isNone _;rw[e2];refine q _ (e.kind.trans hs) e2 e.pend ?_;show Nk K arr (foldl _ (arrOf st') merged.toList.zipIdx) sa (sb+nb);rw[e1];have hy:=tZ merged.toList arr (sa+k) 0 (by omega);rw[Nat.add_zero,Y0,show sa+k+(sb+m-(sa+k))=sb+m by omega]at hy;have he:arr.extract (sa+k) (sb+m)=arr.extract (sa+k) sb++arr.extract sb (sb+m):=by simp[Array.extract_append_extract];congr 1<;>omega
  refine Kl (u:=sa+k) (v:=sb+m) (by omega) (by omega) (by omega) C hy (f.perm.trans (.of_eq ?_)) (KN (by omega) (by omega) (by omega) (by omega) C (by omega) (by omega) s1 s2 f o y);rw[he,toList_append]
 try dsimp only
 split;.exact wpS_bind (Lz R Y Z hs W X (by omega) (by omega) z B λmerged st' f e=>fin merged st' f e)
 .exact wpS_bind (JV R Y Z hs W X (by omega) (by omega) z B λmerged st' f e=>fin merged st' f e)
end
section
variable{K:Keyed->Int}
theorem tU:it xs i=(xs[i]?).getD (Value.none,Value.none):=by unfold it;by_cases h:i<xs.size<;>simp[getD,h]
theorem jo(c:j<=xs.size)(k:Nat):it (mirror xs i j ((j-i)/2)) k=if i<=k/\k<j then it xs (i+j-1-k)else it xs k:=by rw[tU,getElem?_mirror_all c];split<;>rw[tU]
theorem v9{d:Nat}(hs:u<xs.size)(hd:d<=u)(k:Nat):it (bubble xs u d) k=if k=u-d then it xs u else if u-d<k/\k<=u then it xs (k-1)else it xs k:=by
 rw[tU,getElem?_bubble hs d hd];by_cases h1:k=u-d;.rw[if_pos h1,if_pos h1,tU]
 .rw[if_neg h1,if_neg h1];split<;>rw[tU]
structure mR(xs ys:Array Keyed)(lo:Nat):Prop where
 perm:ys.toList.Perm xs.toList
 pre:∀i,i<lo->it ys i=it xs i
theorem mR.refl(xs:Array Keyed)(lo:Nat):mR xs xs lo:=⟨.refl _,λ_ _=>rfl⟩
theorem mR.trans{xs ys c:Array Keyed}{lo:Nat}(a:mR xs ys lo)(b:mR ys c lo):mR xs c lo:=⟨b.perm.trans a.perm,λi h=>(b.pre i h).trans (a.pre i h)⟩
theorem mR.size{xs ys:Array Keyed}{lo:Nat}(h:mR xs ys lo):ys.size=xs.size:=by simpa using h.perm.length_eq
theorem iU(h:lo<=i)(c:j<=xs.size):mR xs (mirror xs i j ((j-i)/2)) lo:=⟨Array.perm_iff_toList_perm.mp (mirror_perm ..),λk e=>by rw[jo c,if_neg (by omega)]⟩
theorem Fb{d:Nat}(hs:u<xs.size)(hd:d<=u)(h:lo<=u-d):mR xs (bubble xs u d) lo:=⟨Array.perm_iff_toList_perm.mp (bubble_perm ..),λk c=>by rw[v9 hs hd,if_neg (by omega),if_neg (by omega)]⟩
def Gp(K:Keyed->Int)(xs:Array Keyed)(lo hi:Nat):Prop:=∀i j,lo<=i->i<=j->j<hi->K (it xs j)<=K (it xs i)
end
section
variable{M:Model}{A:Around}{E:Value->Shared->Prop}{s:Shared}{κ:SortKind}{ok:Keyed->Prop}{K:Keyed->Int}
structure Sx(κ:SortKind)(ok:Keyed->Prop)(st:SortSt)(xs:Array Keyed)(st':SortSt):Prop where
 kind:kindOf st'=κ
 arr:arrOf st'=xs
 pend:pendingOf st'=pendingOf st
 fail:failedOf st'=none
 ok:∀x∈xs.toList,ok x
theorem Sx.set{st:SortSt}(h:Sx κ ok st xs st')(c:mR xs ys lo):Sx κ ok st ys (setArr st' ys):=⟨h.kind,rfl,h.pend,h.fail,λx e=>h.ok x (c.perm.mem_iff.mp e)⟩
theorem jH(R:Rk M A E s κ ok K){st:SortSt}{Q:Option Bool->SortSt->Prop}(h:Sx κ ok st xs st')(hi:i<xs.size)(c:j<xs.size)(q:Q (some (decide (K (it xs i)<K (it xs j)))) st'):wpS M A E s (ltAt' i j) Q st':=by rw[ltAt'_eq];refine wpS_bind (wpS_get ?_);show wpS M A E s (elem' (arrOf st') i>>=λx=>elem' (arrOf st') j>>=λy=>lt' x y) Q st';rw[h.arr];exact wpS_bind (aZ hi (wpS_bind (aZ c (R.lt (h.ok _ (dh hi)) (h.ok _ (dh c)) h.kind q))))
theorem m8{st:SortSt}{Q:Unit->SortSt->Prop}(h:Sx κ ok st xs st')(e:lo<=i)(f:j<=xs.size)(q:∀c,Sx κ ok st (mirror xs i j ((j-i)/2)) c->Q () c):wpS M A E s (reverseSlice' i j) Q st':=by rw[reverseSlice'_eq];refine wpS_modify ?_;rw[h.arr];exact q _ (h.set (iU e f))
theorem vU(R:Rk M A E s κ ok K){st:SortSt}{a:Nat}{Q:Option (Option Nat)×Nat->SortSt->Prop}(h:Sx κ ok st xs st')(t:lo+n<=xs.size)(v:1<=a)(l:a<=n)(hs:Seg K xs lo (lo+a))(q:∀m,a<=m->m<=n->Seg K xs lo (lo+m)->(m=n\/K (it xs (lo+m))<K (it xs (lo+m-1)))->Q (none,m) st'):wpS M A E s (forIn [a:n] ((none,a):Option (Option Nat)×Nat) λ_ c=>ltAt' (lo+c.2) (lo+c.2-1)>>=λo=>match o with|some b=>if b=true then pure (.done (none,c.2))else pure (.yield (none,c.2+1))|_=>pure (.done (some none,c.2))) Q st':=by
 refine wpS_forRange (I:=λx c g=>g=st'/\c=(none,x)/\Seg K xs lo (lo+x)) ?_ ?_ ⟨rfl,rfl,hs⟩
 . rintro x c g h1 w⟨rfl,rfl,f⟩;try dsimp only
   refine wpS_bind (jH R h (by omega) (by omega) ?_);by_cases c:K (it xs (lo+x))<K (it xs (lo+x-1))
   . rw[decide_eq_true c];try dsimp only
     rw[if_pos rfl];exact wpS_pure (q x h1 (by omega) f (.inr c))
   . rw[decide_eq_false c];try dsimp only
     rw[if_neg (by simp)];refine wpS_pure ⟨rfl,rfl,λi j i1 p y=>?_⟩;by_cases r:j<lo+x;.exact f i j i1 p r
     . have:j=lo+x:=by omega
       subst this;by_cases e:i=lo+x;.rw[e];exact Int.le_refl _
       .have:=f i (lo+x-1) i1 (by omega) (by omega);omega
 .rintro c g⟨rfl,rfl,f⟩;rw[show max a n=n by omega]at f ⊢;exact q n l (cH) f (.inl rfl)
theorem EY(R:Rk M A E s κ ok K){st:SortSt}{a:Nat}{Q:Option (Option Nat)×Nat×Nat->SortSt->Prop}(h:Sx κ ok st xs st')(H:lo+n<=xs.size)(J:1<=a)(r:a<=n)(hs:Gp K xs lo (lo+a))(q:∀ys f m e,mR xs ys lo->Sx κ ok st ys f->a<=m->m<=n->Gp K ys lo (lo+m)->e+1<=m->(∀i,lo+m-(e+1)<=i->i<lo+m->K (it ys i)=K (it ys (lo+m-1)))->Q (none,m,e) f):wpS M A E s (forIn [a:n] ((none,a,0):Option (Option Nat)×Nat×Nat) λ_ c=>ltAt' (lo+c.2.1) (lo+c.2.1-1)>>=λo=>match o with
  |some b=>if b=true then(if c.2.2>0 then reverseSlice' (lo+c.2.1-(c.2.2+1)) (lo+c.2.1)>>=λ_=>pure (.yield (none,c.2.1+1,0))else pure (.yield (none,c.2.1+1,0)))else ltAt' (lo+c.2.1-1) (lo+c.2.1)>>=λo=>match o with|some b=>if b=true then pure (.done (none,c.2.1,c.2.2))else pure (.yield (none,c.2.1+1,c.2.2+1))|_=>pure (.done (some none,c.2.1,c.2.2))
  |_=>pure (.done (some none,c.2.1,c.2.2))) Q st':=by
 refine wpS_forRange (I:=λx c f=>∃ys e,c=(none,x,e)/\mR xs ys lo/\Sx κ ok st ys f/\Gp K ys lo (lo+x)/\e+1<=x/\∀i,lo+x-(e+1)<=i->i<lo+x->K (it ys i)=K (it ys (lo+x-1))) ?_ ?_ ⟨xs,0,rfl,.refl _ _,h,hs,by omega,λi h1 t=>by rw[show i=lo+a-1 by omega]⟩
 . rintro x c f h1 t⟨ys,e,rfl,hc,g,hd,he,l⟩;have hsz:=hc.size;try dsimp only
   refine wpS_bind (jH R g (by omega) (by omega) ?_);by_cases c:K (it ys (lo+x))<K (it ys (lo+x-1))
   . rw[decide_eq_true c];try dsimp only
     rw[if_pos rfl];have more:∀v:Array Keyed,(∀i,K (it v i)=K (it ys i))->Gp K v lo (lo+(x+1)):=λv z i j i1 w B=>by
      rw[z,z];by_cases y:j<lo+x;.exact hd i j i1 w y
      . have:j=lo+x:=by omega
        subst this;by_cases e:i=lo+x;.rw[e];exact Int.le_refl _
        .have:=hd i (lo+x-1) i1 (by omega) (by omega);omega
     by_cases c2:e>0
     . rw[if_pos c2];refine wpS_bind (m8 (lo:=lo) g (by omega) (by omega) λC F=>wpS_pure ⟨_,0,rfl,hc.trans (iU (by omega) (by omega)),F,more _ λi=>?_,by omega,λi h1 t=>by rw[show i=lo+(x+1)-1 by omega]⟩);rw[jo (by omega)];split;.rw[l _ (by omega) (by omega),l i (by omega) (by omega)]
       .rfl
     .rw[if_neg c2];exact wpS_pure ⟨ys,0,rfl,hc,g,more ys λ_=>rfl,by omega,λi h1 t=>by rw[show i=lo+(x+1)-1 by omega]⟩
   . rw[decide_eq_false c];try dsimp only
     rw[if_neg (by simp)];refine wpS_bind (jH R g (by omega) (by omega) ?_);by_cases c2:K (it ys (lo+x-1))<K (it ys (lo+x))
     . rw[decide_eq_true c2];try dsimp only
       rw[if_pos rfl];exact wpS_pure (q ys f x e hc g h1 (by omega) hd he l)
     . rw[decide_eq_false c2];try dsimp only
       rw[if_neg (by simp)];have p:K (it ys (lo+x))=K (it ys (lo+x-1)):=by omega
       refine wpS_pure ⟨ys,e+1,rfl,hc,g,λi j i1 w B=>?_,by omega,λi i1 i2=>?_⟩
       . by_cases y:j<lo+x;.exact hd i j i1 w y
         . have:j=lo+x:=by omega
           subst this;by_cases e:i=lo+x;.rw[e];exact Int.le_refl _
           .rw[p];exact hd i (lo+x-1) i1 (by omega) (by omega)
       . rw[show lo+(x+1)-1=lo+x by omega];by_cases G:i=lo+x;.rw[G]
         .rw[p];exact l i (by omega) (by omega)
 .rintro c f⟨ys,e,rfl,hc,g,hd,he,l⟩;rw[show max a n=n by omega]at*;exact q ys f n e hc g r (cH) hd he l
end
section
variable{M:Model}{A:Around}{E:Value->Shared->Prop}{s:Shared}{κ:SortKind}{ok:Keyed->Prop}{K:Keyed->Int}
theorem zZ(c:lo+n<=xs.size)(h:Gp K xs lo (lo+n)):Seg K (mirror xs lo (lo+n) ((lo+n-lo)/2)) lo (lo+n):=λi j i1 e f=>by rw[jo c,jo c,if_pos (by omega),if_pos (by omega)];exact h _ _ (by omega) (by omega) (by omega)
theorem Ag(R:Rk M A E s κ ok K){st:SortSt}{Q:Option Nat->SortSt->Prop}(h:Sx κ ok st xs st')(hn:lo+n<=xs.size)(h1:1<=n)(q:∀ys f m,mR xs ys lo->Sx κ ok st ys f->1<=m->m<=n->Seg K ys lo (lo+m)->Q (some m) f):wpS M A E s (countRun' lo n) Q st':=by
 have one:∀ys:Array Keyed,Seg K ys lo (lo+1):=λys i j i1 y z=>by rw[show i=j by omega];exact Int.le_refl _
 show wpS M A E s (_>>=_) Q st';refine wpS_bind (vU (a:=1) (n:=n) R h hn (le_refl 1) h1 (one xs) λm m1 W B F=>?_);dsimp only;by_cases c1:m=n;.rw[if_pos (by simpa using c1)];exact wpS_pure (q xs st' m (.refl _ _) h m1 W B)
 rw[if_neg (by simpa using c1)];have G:=F.resolve_left c1;by_cases c2:m>1;rw[if_pos c2];refine wpS_bind (jH R h (by omega) (by omega) ?_);by_cases c3:K (it xs lo)<K (it xs (lo+m-1))
 . rw[decide_eq_true c3];try dsimp only
   rw[if_pos rfl];exact wpS_pure (q xs st' m (.refl _ _) h m1 W B)
 rw[decide_eq_false c3];try dsimp only
 rw[if_neg (by simp)];have o:∀k,lo<=k->k<lo+m->K (it xs k)=K (it xs (lo+m-1)):=λk H X=>by have a1:=B lo k (cH) H X;have a2:=B k (lo+m-1) H (by omega) (by omega);omega
 refine wpS_bind (m8 (lo:=lo) h (cH) (by omega) λf I=>?_);have hc:mR xs (mirror xs lo (lo+m) ((lo+m-lo)/2)) lo:=iU (cH) (by omega);have hd:Gp K (mirror xs lo (lo+m) ((lo+m-lo)/2)) lo (lo+(m+1)):=λi j i1 y z=>by
  have e:∀k,lo<=k->k<lo+m->K (it (mirror xs lo (lo+m) ((lo+m-lo)/2)) k)=K (it xs (lo+m-1)):=λk H X=>by rw[jo (by omega),if_pos (by omega)];exact o _ (by omega) (by omega)
  by_cases hj:j<lo+m;.rw[e i i1 (by omega),e j (by omega) hj];exact Int.le_refl _
  . have:j=lo+m:=by omega
    subst this;by_cases e':i=lo+m;.rw[e'];exact Int.le_refl _
    .rw[e i i1 (by omega),jo (by omega),if_neg (by omega)];omega
 generalize mirror xs lo (lo+m) ((lo+m-lo)/2)=ys at I hc hd;rotate_left;rw[if_neg c2];have J:Gp K xs lo (lo+(m+1)):=λi j i1 y z=>by
  by_cases e:i=j;.rw[e];exact Int.le_refl _
  . have e1:i=lo:=by omega
    have e2:j=lo+m:=by omega
    rw[e1,e2];rw[show lo+m-1=lo by omega]at G;omega
 obtain⟨ys,hc,I,hd⟩:∃ys,mR xs ys lo/\Sx κ ok st ys st'/\Gp K ys lo (lo+(m+1)):=⟨xs,.refl _ _,h,J⟩;all_goals
  have hsz:=hc.size;refine wpS_bind (wp_rule ?_);refine wpS_bind (EY (a:=m+1) R I (by omega) (by omega) (by omega) hd λg af p e C r p1 Y t he Z=>?_);have ae:=C.size;dsimp only;by_cases ce:e>0
  . rw[if_pos ce];refine wpS_bind (m8 (lo:=lo) r (by omega) (by omega) λEj h4=>?_);have l:mR xs (mirror g (lo+p-(e+1)) (lo+p) ((lo+p-(lo+p-(e+1)))/2)) lo:=hc.trans (C.trans (iU (by omega) (by omega)));have v:Gp K (mirror g (lo+p-(e+1)) (lo+p) ((lo+p-(lo+p-(e+1)))/2)) lo (lo+p):=λi j i1 y z=>by
     have ez:∀k,K (it (mirror g (lo+p-(e+1)) (lo+p) ((lo+p-(lo+p-(e+1)))/2)) k)=K (it g k):=λk=>by
      rw[jo (by omega)];split;.rw[Z _ (by omega) (by omega),Z k (by omega) (by omega)]
      .rfl
     rw[ez,ez];exact t i j i1 y z
    generalize mirror g (lo+p-(e+1)) (lo+p) ((lo+p-(lo+p-(e+1)))/2)=us at h4 l v;have L:=l.size;have c:mR us (mirror us lo (lo+p) ((lo+p-lo)/2)) lo:=iU (cH) (by omega);refine wpS_bind (m8 (lo:=lo) h4 (cH) (by omega) λN w=>?_);refine wpS_bind (vU R w (by rw[c.size];omega) (by omega) Y (zZ (by omega) v) λu u1 O U _=>?_);exact wpS_pure (q _ N u (l.trans c) w (by omega) O U)
  .rw[if_neg ce];have L:=(hc.trans C).size;have c:mR g (mirror g lo (lo+p) ((lo+p-lo)/2)) lo:=iU (cH) (by omega);refine wpS_bind (m8 (lo:=lo) r (cH) (by omega) λN w=>?_);refine wpS_bind (vU R w (by rw[c.size];omega) (by omega) Y (zZ (by omega) t) λu u1 O U _=>?_);exact wpS_pure (q _ N u ((hc.trans C).trans c) w (by omega) O U)
theorem Kd(R:Rk M A E s κ ok K){st:SortSt}{o:Nat}{Q:Bool->SortSt->Prop}(h:Sx κ ok st xs st')(H:lo+n<=xs.size)(ho:o<=n)(hs:Seg K xs lo (lo+o))(q:∀ys f,mR xs ys lo->Sx κ ok st ys f->Seg K ys lo (lo+n)->Q true f):wpS M A E s (binarySort' lo n o) Q st':=by
 show wpS M A E s (_>>=_) Q st';refine wpS_bind (wpS_mono (wpS_forRange (I:=λk c f=>∃ys,c=(none,())/\mR xs ys lo/\Sx κ ok st ys f/\Seg K ys lo (lo+min k n)) (Q:=λc f=>∃ys,c=(none,())/\mR xs ys lo/\Sx κ ok st ys f/\Seg K ys lo (lo+n)) ?_ ?_ ?_) ?_)
 . rintro k c f J L⟨ys,rfl,hc,p,m⟩;rw[show min k n=k by omega]at m;have hsz:=hc.size;refine wpS_bind (wpS_mono (wpS_forRange (I:=λx c g=>g=f/\∃l r,c=(none,l,r)/\l<=r/\r<=k/\r-l<=k-x/\(∀i,lo<=i->i<lo+l->K (it ys i)<=K (it ys (lo+k)))/\∀i,lo+r<=i->i<lo+k->K (it ys (lo+k))<K (it ys i)) (Q:=λc g=>g=f/\∃l r,c=(none,l,r)/\l<=k/\(∀i,lo<=i->i<lo+l->K (it ys i)<=K (it ys (lo+k)))/\∀i,lo+l<=i->i<lo+k->K (it ys (lo+k))<K (it ys i)) ?_ ?_ ⟨rfl,0,k,rfl,by omega,by omega,by omega,λi a b=>by omega,λi a b=>by omega⟩) ?_)
   . rintro x c g _ N⟨rfl,l,r,rfl,F,w,G,t,v⟩;dsimp only;by_cases e:l ≥ r
     . rw[if_pos e];have:l=r:=by omega
       subst this;exact wpS_pure ⟨rfl,l,l,rfl,w,t,v⟩
     . rw[if_neg e];refine wpS_bind (jH R p (by omega) (by omega) ?_);by_cases c:K (it ys (lo+k))<K (it ys (lo+(l+r)/2));.rw[decide_eq_true c];dsimp only;rw[if_pos rfl];exact wpS_pure ⟨rfl,_,_,rfl,by omega,by omega,by omega,t,λi i1 i2=>Int.lt_of_lt_of_le c (m _ _ (by omega) i1 i2)⟩
       .rw[decide_eq_false c];dsimp only;rw[if_neg (by simp)];exact wpS_pure ⟨rfl,_,_,rfl,by omega,w,by omega,λi i1 i2=>Int.le_trans (m i (lo+(l+r)/2) i1 (by omega) (by omega)) (Int.not_lt.mp c),v⟩
   . rintro c g⟨rfl,l,r,rfl,F,w,G,t,v⟩;have:l=r:=by omega
     subst this;exact⟨rfl,l,l,rfl,w,t,v⟩
   . rintro c g⟨rfl,l,r,rfl,w,t,v⟩;show wpS M A E s (moveDown' (lo+k) (lo+l)>>=λ_=>pure (ForInStep.yield (none,()))) _ _;rw[moveDown'_eq];refine wpS_bind (wpS_modify (wpS_pure ?_));rw[p.arr];have z:mR ys (bubble ys (lo+k) (lo+k-(lo+l))) lo:=Fb (by omega) (by omega) (by omega);refine⟨_,rfl,hc.trans z,p.set z,λi j i1 B C=>?_⟩;rw[show min (k+1) n=k+1 by omega]at C;rw[v9 (by omega) (by omega),v9 (by omega) (by omega),show lo+k-(lo+k-(lo+l))=lo+l by omega];repeat' split
     all_goals first|(exfalso;omega)|exact Int.le_refl _|exact t _ (by omega) (by omega)|exact Int.le_of_lt (v _ (by omega) (by omega))|exact m _ _ (by omega) (by omega) (by omega)
 .rintro c f⟨ys,y,hc,p,m⟩;rw[show min (max (max o 1) n) n=n by omega]at m;exact⟨ys,y,hc,p,m⟩
 . refine⟨xs,rfl,.refl _ _,h,λi j i1 B C=>?_⟩;by_cases e:i=j;.rw[e];exact Int.le_refl _
   .exact hs i j i1 B (by omega)
 .rintro c f⟨ys,rfl,hc,p,m⟩;exact wpS_pure (q ys f hc p m)
end
noncomputable abbrev Rn:=Nat×Nat×Nat
variable{l:List Rn}
section
variable{K:Keyed->Int}{xs ys:Array Keyed}
def yr(K:Keyed->Int)(xs:Array Keyed):Nat->List Rn->Nat->Prop|a,[],b=>a=b|a,r::l,b=>r.1=a/\1<=r.2.1/\Seg K xs a (a+r.2.1)/\yr K xs (a+r.2.1) l b
theorem fW:∀{l k:List Rn}{a b:Nat},yr K xs a (l++k) b↔∃m,yr K xs a l m/\yr K xs m k b
 |[],k,a,b=>⟨λh=>⟨a,rfl,h⟩,λ⟨m,h1,c⟩=>by cases(show a=m from h1);exact c⟩|r::l,k,a,b=>by
   rw[List.cons_append];constructor;.rintro⟨h1,c,e,f⟩;obtain⟨m,g,o⟩:=fW.mp f;exact⟨m,⟨h1,c,e,g⟩,o⟩
   .rintro⟨m,⟨h1,c,e,f⟩,g⟩;exact⟨h1,c,e,fW.mpr ⟨m,f,g⟩⟩
theorem nq:∀{l:List Rn}{a b:Nat},yr K xs a l b->a+l.length<=b|[],a,b,h=>by cases(show a=b from h);simp|r::l,a,b,⟨_,e,_,c⟩=>by have:=nq c;simp only[length_cons];omega
theorem sr(h:∀i,lo<=i->i<hi->it ys i=it xs i)(s:Seg K xs lo hi):Seg K ys lo hi:=λi j i1 e c=>by rw[h i i1 (by omega),h j (by omega) c];exact s i j i1 e c
theorem jY:∀{l:List Rn}{a b:Nat},(∀i,a<=i->i<b->it ys i=it xs i)->yr K xs a l b->yr K ys a l b|[],_,_,_,h=>h|r::l,a,b,e,⟨h1,f,g,c⟩=>by have:=nq c;exact⟨h1,f,sr (λi i1 i2=>e i i1 (by omega)) g,jY (λi i1 i2=>e i (by omega) i2) c⟩
theorem Gb{r r':Rn}{a b:Nat}(h1:r'.1=r.1)(c:r'.2.1=r.2.1)(h:yr K xs a (l++[r]) b):yr K xs a (l++[r']) b:=by obtain⟨m,e,f,p,g,o⟩:=fW.mp h;exact fW.mpr ⟨m,e,h1.trans f,by omega,by rw[c];exact g,by rw[c];exact o⟩
theorem Hm(h:ys.toList.take lo=xs.toList.take lo)(i:Nat)(hi:i<lo):it ys i=it xs i:=by rw[gG,gG,getD_eq_getElem?_getD,getD_eq_getElem?_getD];have e:=congrArg (λl=>l[i]?) h;simp only[getElem?_take,hi,if_true]at e;rw[e]
theorem yj(h:ys.toList.drop hi=xs.toList.drop hi)(i:Nat)(h1:hi<=i):it ys i=it xs i:=by rw[gG,gG,getD_eq_getElem?_getD,getD_eq_getElem?_getD];have e:=congrArg (λl=>l[i-hi]?) h;simp only[List.getElem?_drop,show hi+(i-hi)=i by omega]at e;rw[e]
theorem Fe{q o:List Rn}{a b:Nat}{c f:Rn}{p:Nat}(h:yr K xs a (q++c::f::o) b)(g:Nk K xs ys c.1 (f.1+f.2.1)):yr K ys a (q++(c.1,c.2.1+f.2.1,p)::o) b:=by
 obtain⟨m,t,v,w,y,r,z,A,s⟩:=fW.mp h;subst v;have e:=nq s;refine fW.mpr ⟨c.1,jY (λi i1 i2=>Hm g.pre i i2) t,rfl,by show 1<=c.2.1+f.2.1;omega,?_,?_⟩;.show Seg K ys c.1 (c.1+(c.2.1+f.2.1));have:=g.seg;rw[r]at this;rwa[<-Nat.add_assoc]
 .show yr K ys (c.1+(c.2.1+f.2.1)) o b;rw[<-Nat.add_assoc];exact jY (λi i1 i2=>yj g.post i (by rw[r];exact i1)) s
theorem BX(h:i+1<l.length):∃c e f g,l=c++e::f::g/\c.length=i:=by refine⟨l.take i,l[i],l[i+1],l.drop (i+2),?_,by simp;omega⟩;rw[<-drop_eq_getElem_cons (by omega),<-drop_eq_getElem_cons (by omega),take_append_drop]
theorem nA:∀{l:List Rn},l≠[]->∃k r,l=k++[r]|[],h=>absurd rfl h|[r],_=>⟨[],r,rfl⟩|r::x::l,_=>by obtain⟨k,q,e⟩:=nA (l:=x::l) (by simp);exact⟨r::k,q,by rw[e];rfl⟩
theorem xX(x f g:Rn)(e:List Rn):∀c:List Rn,((c++f::g::e).set c.length x).eraseIdx (c.length+1)=c++x::e|[]=>rfl|r::c=>by show r::((c++f::g::e).set c.length x).eraseIdx (c.length+1)=r::(c++x::e);rw[xX x f g e c]
end
section
variable{M:Model}{A:Around}{E:Value->Shared->Prop}{s:Shared}{κ:SortKind}{ok:Keyed->Prop}{K:Keyed->Int}
structure SR(κ:SortKind)(ok:Keyed->Prop)(K:Keyed->Int)(x0 ys:Array Keyed)(l:List Rn)(lo:Nat)(st:SortSt):Prop where
 kind:kindOf st=κ
 arr:arrOf st=ys
 fail:failedOf st=none
 pend:(pendingOf st).toList=l
 perm:ys.toList.Perm x0.toList
 ok:∀x∈ys.toList,ok x
 PX:yr K ys 0 l lo
 le:lo<=ys.size
theorem SR.sx{st:SortSt}(h:SR κ ok K x0 ys l lo st):Sx κ ok st ys st:=⟨h.kind,h.arr,rfl,h.fail,h.ok⟩
theorem xu(R:Rk M A E s κ ok K){st:SortSt}{Q:Bool->SortSt->Prop}(h:SR κ ok K x0 ys l lo st)(hi:i+1<l.length)(q:∀w k c,SR κ ok K x0 w k lo c->k.length+1=l.length->(∀j,lo<=j->it w j=it ys j)->Q true c):wpS M A E s (mergeAt' i) Q st:=by
 obtain⟨z,f,o,B,e,r⟩:=BX hi;have hr:=h.PX;rw[e]at hr;obtain⟨m,Z,C,F,G,y,H,I,J⟩:=fW.mp hr;have L:=nq J;have hz:=h.le;have t:=h.pend;have N:(pendingOf st)[i]?=some (f.1,f.2.1,f.2.2):=by rw[<-Array.getElem?_toList,t,e,<-r];simp
 have O:(pendingOf st)[i+1]?=some (o.1,o.2.1,o.2.2):=by rw[<-Array.getElem?_toList,t,e,<-r];simp
 refine LK R h.kind (by rw[h.arr];exact h.ok) h.fail N O (by omega) F H (by rw[h.arr];omega) (by rw[h.arr,C,y];exact G) (by rw[h.arr,y];exact I) λc U W X g=>?_;rw[h.arr]at g;have v:=Fe (p:=f.2.2) hr g;refine q (arrOf c) (z++(f.1,f.2.1+o.2.1,f.2.2)::B) c ⟨U,rfl,W,?_,g.perm.trans h.perm,λx Y=>h.ok x (g.perm.mem_iff.mp Y),v,?_⟩ (by rw[e];simp only[length_append,length_cons];omega) λj hj=>yj g.post j (by omega);.rw[X];rw[Array.toList_eraseIdxIfInBounds,Array.toList_setIfInBounds,t,e,<-r];exact xX _ _ _ _ _
 .have:=g.perm.length_eq;simp only[length_toList]at this;omega
end
section
variable{M:Model}{A:Around}{E:Value->Shared->Prop}{s:Shared}{κ:SortKind}{ok:Keyed->Prop}{K:Keyed->Int}
theorem SR.move{f:Array Keyed}{st e:SortSt}(h:SR κ ok K x0 ys l lo st)(c:mR ys f lo)(x:Sx κ ok st f e):SR κ ok K x0 f l lo e:=⟨x.kind,x.arr,x.fail,by rw[x.pend];exact h.pend,c.perm.trans h.perm,x.ok,jY (λi _ i2=>c.pre i i2) h.PX,by rw[c.size];exact h.le⟩
theorem tD{r:Rn}{f:Rn->Rn}:∀k:List Rn,(k++[r]).modify (k.length+1-1) f=k++[f r]|[]=>rfl|x::k=>by show x::(k++[r]).modify k.length f=x::(k++[f r]);rw[<-tD k];rfl
theorem oM{p:Array Rn}{k:List Rn}{r:Rn}{f:Rn->Rn}(h:p.toList=k++[r]):(p.modify (p.size-1) f).toList=k++[f r]:=by
 have c:p.size=k.length+1:=by rw[<-length_toList,h];simp
 rw[Array.toList_modify,h,c];exact tD k
theorem SR.push{x0 ys:Array Keyed}{l:List Rn}{lo n:Nat}{st:SortSt}(h:SR κ ok K x0 ys l lo st)(h1:1<=n)(c:lo+n<=ys.size)(hs:Seg K ys lo (lo+n)):SR κ ok K x0 ys (l++[(lo,n,0)]) (lo+n) (setPending st ((pendingOf st).push (lo,n,0))):=⟨h.kind,h.arr,h.fail,by show((pendingOf st).push (lo,n,0)).toList=_;rw[toList_push,h.pend],h.perm,h.ok,fW.mpr ⟨lo,h.PX,rfl,h1,hs,rfl⟩,c⟩
theorem SR.pow{pw:Nat}{st:SortSt}(h:SR κ ok K x0 ys l lo st)(f:l≠[]):∃k,k≠[]/\SR κ ok K x0 ys k lo (setPending st ((pendingOf st).modify ((pendingOf st).size-1) λ(a,b,_)=>(a,b,pw))):=by obtain⟨k,r,e⟩:=nA f;have hr:=h.PX;have c:=h.pend;rw[e]at hr c;exact⟨k++[(r.1,r.2.1,pw)],by simp,h.kind,h.arr,h.fail,oM c,h.perm,h.ok,Gb (r:=r) (r':=(r.1,r.2.1,pw)) rfl rfl hr,h.le⟩
theorem JK{p:Prop}[Decidable p]{a:Nat}(h:a+1<n):(if p then a-1 else a)+1<n:=by split<;>omega
theorem G8(R:Rk M A E s κ ok K){Q:Unit->SortSt->Prop}{st:SortSt}(h:SR κ ok K x0 x0 [] 0 st)(q:∀ys st',arrOf st'=ys->failedOf st'=none->ys.toList.Perm x0.toList->Seg K ys 0 ys.size->Q () st'):wpS M A E s sortRuns' Q st:=by
 rw[sortRuns'_eq];refine wpS_bind (wpS_get ?_);dsimp only;simp only[h.arr];have big:∀{ys l lo st},SR κ ok K x0 ys l lo st->ys.size=x0.size:=λh=>by simpa using h.perm.length_eq
 generalize minRun' x0.size x0.size 0=F;refine wpS_bind (wpS_mono (wpS_forRange (I:=λx c st'=>∃ys l lo,c=(none,lo)/\SR κ ok K x0 ys l lo st'/\x<=lo) (Q:=λc st'=>∃ys l,c=(none,x0.size)/\SR κ ok K x0 ys l x0.size st') ?_ ?_ ⟨x0,[],0,rfl,h,cH⟩) ?_)
 . rintro x c G _ hx⟨ys,l,lo,rfl,o,U⟩;have hz:=big o;have aw:=o.le;dsimp only;by_cases c1:lo ≥ x0.size
   . rw[if_pos c1];have:lo=x0.size:=by omega
     subst this;exact wpS_pure ⟨ys,l,rfl,o⟩
   rw[if_neg c1];refine wpS_bind (Ag R o.sx (lo:=lo) (n:=x0.size-lo) (by omega) (by omega) λW f m ch H m1 m2 sg=>?_);have p:=o.move ch H;have X:=big p;dsimp only;by_cases c2:m<F;case' pos=>
    rw[if_pos c2];refine wpS_bind (wpS_lift (wpAny_rule ⟨rfl,?_⟩));refine wpS_bind (Kd R H (lo:=lo) (n:=min (x0.size-lo) F) (by omega) (by omega) sg λw t Y Z Y4=>?_);simp only[Bool.not_true,false_eq_true,if_false];replace p:=o.move (ch.trans Y) Z;replace X:=big p;replace m1:1<=min (x0.size-lo) F:=by omega
    replace m2:min (x0.size-lo) F<=x0.size-lo:=by omega
    generalize min (x0.size-lo) F=n at*
   case' neg=>rw[if_neg c2];clear ch;obtain⟨w,ae⟩:∃w,w=W:=⟨_,rfl⟩;obtain⟨t,af⟩:∃t,t=f:=⟨_,rfl⟩;obtain⟨n,hn⟩:∃n,n=m:=⟨_,rfl⟩;subst ae af hn;have Y4:=sg
   all_goals refine wpS_bind (wpS_get ?_);cases hb:(pendingOf t).back? with|none=>dsimp only;exact wpS_bind (wpS_modify (wpS_pure ⟨w,_,lo+n,rfl,p.push m1 (by omega) Y4,by omega⟩))|some r=>
      obtain⟨s1,n1,p1⟩:=r;dsimp only;have ag:l≠[]:=by rintro rfl;have:pendingOf t=#[]:=Array.toList_inj.mp p.pend;rw[this]at hb;exact nomatch hb
      generalize power' x0.size (2*s1+n1) (2*s1+n1+n1+n) x0.size=pw;refine wpS_bind (wpS_mono (wpS_forRange (I:=λ_ c st'=>∃ys k,c=(none,())/\k≠[]/\SR κ ok K x0 ys k lo st'/\∀j,lo<=j->it ys j=it w j) (Q:=λc st'=>∃ys k,c=(none,())/\k≠[]/\SR κ ok K x0 ys k lo st'/\∀j,lo<=j->it ys j=it w j) ?_ (λ_ _ h=>h) ⟨w,l,rfl,ag,p,λ_ _=>rfl⟩) ?_)
      . rintro y c J _ _⟨Y5,k,rfl,z,C,N⟩;refine wpS_bind (wpS_get ?_);try dsimp only
        have stop:∃ys k,((none,()):Option Unit×Unit)=(none,())/\k≠[]/\SR κ ok K x0 ys k lo J/\∀j,lo<=j->it ys j=it w j:=⟨Y5,k,rfl,z,C,N⟩;split
        . rename_i ah ho;split;.exact wpS_pure stop
          . have aE:(pendingOf J).size>1:=by
             by_cases hh:(pendingOf J).size>1;.exact hh
             .rw[if_neg hh]at ho;exact nomatch ho
            have ai:k.length=(pendingOf J).size:=by rw[<-C.pend];simp
            refine wpS_bind (xu R C (by omega) λB O Hw Y6 L am=>?_);simp only[Bool.not_true,false_eq_true,if_false];exact wpS_pure ⟨B,O,rfl,by rintro rfl;simp at L;omega,Y6,λj hj=>(am j hj).trans (N j hj)⟩
        .exact wpS_pure stop
      .rintro c J⟨Y5,k,rfl,z,C,N⟩;dsimp only;obtain⟨O,_,ap⟩:=C.pow (pw:=pw) z;refine wpS_bind (wpS_modify ?_);have aI:=big C;exact wpS_bind (wpS_modify (wpS_pure ⟨Y5,_,lo+n,rfl,ap.push m1 (by omega) (sr (λi i1 _=>N i i1) Y4),by omega⟩))
 . rintro c G⟨ys,l,lo,rfl,o,U⟩;have:=o.le;have:=big o;have:lo=x0.size:=by omega
   subst this;exact⟨ys,l,rfl,o⟩
 . rintro c G⟨ys,l,rfl,o⟩;dsimp only;have hl:=nq o.PX;refine wpS_bind (wpS_mono (wpS_forRange (I:=λx c st'=>∃ys l,c=(none,())/\SR κ ok K x0 ys l x0.size st'/\l.length<=max 1 (x0.size-x)) (Q:=λc st'=>∃ys l,c=(none,())/\SR κ ok K x0 ys l x0.size st'/\l.length<=1) ?_ ?_ ⟨ys,l,rfl,o,by omega⟩) ?_)
   . rintro x c f _ hx⟨B,k,rfl,v,z⟩;refine wpS_bind (wpS_get ?_);try dsimp only
     have ai:k.length=(pendingOf f).size:=by rw[<-v.pend];simp
     by_cases c1:(pendingOf f).size<=1;.rw[if_pos c1];exact wpS_pure ⟨B,k,rfl,v,by omega⟩
     rw[if_neg c1];refine wpS_bind (xu R v (JK (by omega)) λar O Hw Y6 L _=>?_);simp only[Bool.not_true,false_eq_true,if_false];exact wpS_pure ⟨ar,O,rfl,Y6,by omega⟩
   .rintro c f⟨B,k,rfl,v,z⟩;exact⟨B,k,rfl,v,by omega⟩
   .rintro c f⟨B,k,rfl,v,z⟩;dsimp only;have hz:=big v;refine wpS_pure (q B f v.arr v.fail v.perm ?_);match k,z,v.PX with|[],_,e=>have e:0=x0.size:=e;intro i j _ _ _;omega|[r],_,⟨_,_,g,e⟩=>have e:0+r.2.1=x0.size:=e;rw[e]at g;rwa[hz]
end
end HH
end
section
namespace HH
open PySem PySem.W PyProof.Rows PySem.Calls L2 PySem.Spec
theorem zx{i o:Type}{f:i->o}{p m:List o}(h:p.Perm m):∀{l:List i},m=l.map f->∃k:List i,k.Perm l/\k.map f=p:=by induction h with
 |nil=>intro l e;cases l with|nil=>exact⟨[],.refl _,rfl⟩|cons _ _=>cases e
 |cons x h r=>intro l e;cases l with|nil=>cases e|cons a l=>obtain⟨c,g⟩:=List.cons.inj e;obtain⟨k,h1,q⟩:=r g;exact⟨a::k,h1.cons a,by rw[map_cons,q,c]⟩
 |swap x y z=>intro l e;match l,e with|a::b::l,e=>obtain⟨c,g⟩:=List.cons.inj e;obtain⟨s,t⟩:=List.cons.inj g;exact⟨b::a::l,.swap ..,by rw[map_cons,map_cons,c,s,t]⟩
 |trans h1 q j n=>intro l e;obtain⟨k,u,c⟩:=n e;obtain⟨v,w,g⟩:=j c.symm;exact⟨v,w.trans u,g⟩
theorem Ex(a:List Int):aQ a a=false:=by cases h:aQ a a with|false=>rfl|true=>rw[jJ _ _ h]at h;cases h
theorem BZ{a b x:List Int}(h:aQ b a=false)(c:aQ x a=true):aQ x b=true:=by cases e:aQ x b with|true=>rfl|false=>rw[v5 _ _ _ h e]at c;cases c
theorem qy{a:Type}{p q:a->Bool}(h:∀x,p x=true->q x=true):∀{l:List a},(∃x,x∈l/\q x=true/\p x=false)->l.countP p<l.countP q
 |[],⟨x,hx,_⟩=>by cases hx|y::l,⟨x,hx,h1,b⟩=>by
   rw[List.countP_cons,List.countP_cons];have m:=List.countP_mono_left (l:=l) (p:=p) (q:=q) λx _=>h x;rcases mem_cons.mp hx with rfl|hx;.rw[h1,b,if_pos rfl,if_neg (by simp)];omega
   .have:=qy h ⟨x,hx,h1,b⟩;cases hp:p y with|true=>rw[h y hp];omega|false=>rw[if_neg (by simp)];omega
noncomputable def JR(a:List D)(d:D):Nat:=a.countP λe=>aQ (bw e) (bw d)
theorem Bg{a:List D}{d e:D}(hd:d∈a):decide ((JR a d:Int)<JR a e)=aQ (bw d) (bw e):=by cases h:aQ (bw d) (bw e)with|true=>have:=qy (l:=a) (p:=λx=>aQ (bw x) (bw d)) (q:=λx=>aQ (bw x) (bw e)) (λx b=>BZ (jJ _ _ h) b) ⟨d,hd,h,Ex _⟩;rw[decide_eq_true_iff];unfold JR;omega|false=>have:=List.countP_mono_left (l:=a) (p:=λx=>aQ (bw x) (bw e)) (q:=λx=>aQ (bw x) (bw d)) λx _ b=>BZ h b;rw[decide_eq_false_iff_not];unfold JR;omega
open Classical in
noncomputable def Xk(P:Value->D->Prop)(a:List D)(x:Keyed):Int:=if h:∃d,d∈a/\P x.1 d then(JR a h.choose:Int)else 0
theorem xK{P:Value->D->Prop}{a:List D}{x:Keyed}{d:D}(fn:∀u d e,P u d->P u e->bw d=bw e)(hd:d∈a)(b:P x.1 d):Xk P a x=JR a d:=by have h:∃d,d∈a/\P x.1 d:=⟨d,hd,b⟩;unfold Xk;rw[dif_pos h];unfold JR;rw[fn _ _ _ h.choose_spec.2 b]
noncomputable def pick{a:Type}(d:a)(p:List Nat)(l:List a):List a:=p.map λi=>l.getD i d
theorem oZ{a:Type}(d:a)(l:List a):pick d (List.range l.length) l=l:=by refine List.ext_getElem (by simp[pick]) λi h1 b=>?_;simp[pick,b]
theorem n6{a:Type}{d:a}{p:List Nat}{l:List a}{n:Nat}(h:p.Perm (List.range n)):(pick d p l).length=n:=by rw[pick,length_map,h.length_eq,length_range]
theorem iW{P:Value->D->Prop}:∀{b:List Value}{a:List D},Paired P b a->∀i,i<b.length->P (b.getD i .none) (a.getD i .non)/\a.getD i .non∈a|_,_,.cons r _,0,_=>⟨by simpa using r,by simp⟩|_,_,.cons _ t,i+1,hi=>by have:=iW t i (by simpa using hi);exact⟨by simpa using this.1,by simpa using Or.inr this.2⟩
section
variable{prog:Program}{w:World}{A:Around}{E:Value->Shared->Prop}{s:Shared}{vs:List Value}{κ:SortKind}{P:Value->D->Prop}{ds:List D}
theorem yU{a:Addr}{n:Nat}{O:PySem.Fin->Shared->Prop}(ho:s.heap.get? a=some (seqObj "list" vs.toArray n))(so:sortable ds=true)(hz:vs.length<=16777216)(I:Paired P vs ds)(fn:∀u d e,P u d->P u e->bw d=bw e)(m:∀h',(∀b o,b≠a->s.heap.get? b=some o->h'.get? b=some o)->∀C:SortKind->Shared->Prop,C κ {s with heap:=h'}->2<=vs.length->wpAny (model prog w) A (keyKind' vs.toArray) C (λ_ _=>False) {s with heap:=h'})(hl:∀h',(∀b o,b≠a->s.heap.get? b=some o->h'.get? b=some o)->∀u v d e,P u d->P v e->∀C:Bool->Shared->Prop,C (aQ (bw d) (bw e)) {s with heap:=h'}->wpAny (model prog w) A (keyLt' κ u v) C (λ_ _=>False) {s with heap:=h'})(h:∀h' c p,(∀b o,b≠a->s.heap.get? b=some o->h'.get? b=some o)->p.Perm (List.range vs.length)->pick .non p ds=qm ds->h'.get? a=some (seqObj "list" (pick .none p vs).toArray c)->O (.done (.ret .none)) {s with heap:=h'}):wpAny (model prog w) A (Builtin.«list.sort» ⟨[.ref a],[]⟩) O E s:=by
 have ha:a<s.heap.objs.size:=lt_size ho;have TX:vs.length=ds.length:=Paired.length I;obtain⟨r,z⟩:∃r,(s.heap.update a (Obj.mapSeq λ_=>(#[]:Array Value))).get? a=some (seqObj "list" #[] r):=⟨_,get?_update_seq ho λ_=>#[]⟩;rw[list_sort_plain];refine wpAny_bind (listItems_at ho rfl ?_);refine wpAny_bind (listUpdate_at ho rfl ?_ (by rw[size_toArray,sizeLine_eq];omega) (vZ));refine wpAny_bind (seqEpoch_at z rfl ?_);refine wpAny_bind (wpAny_newTuple ?_ (by show vs.length<=_;rw[sizeLine_eq];omega));refine wpAny_bind (wpAny_newList ?_ (vZ));refine wpAny_holding ?_;generalize hH:(((s.heap.update a (Obj.mapSeq λ_=>(#[]:Array Value))).push {cls:=.type "tuple",data:=.seq vs.toArray}).push {cls:=.type "list",data:=.seq #[]}:Heap)=g;have B:g.get? a=some (seqObj "list" #[] r):=by rw[<-hH];exact iG (iG z)
 have keep:∀b o,b≠a->s.heap.get? b=some o->g.get? b=some o:=λb o J e=>by rw[<-hH];exact iG (iG ((Heap.get?_update_other _ _ (Ne.symm J)).trans e))
 have fin:∀p:List Nat,p.Perm (List.range vs.length)->pick .non p ds=qm ds->O (.done (.ret .none)) {s with heap:=g.update a (Obj.mapSeq λ_=>toArray (pick .none p vs))}:=by intro p h1 f;obtain⟨c2,M⟩:∃c2,(g.update a (Obj.mapSeq λ_=>toArray (pick Value.none p vs))).get? a=some (seqObj "list" (pick Value.none p vs).toArray c2):=⟨_,get?_update_seq B λ_=>toArray (pick Value.none p vs)⟩;exact h _ c2 p (λb o J e=>(Heap.get?_update_other _ _ (Ne.symm J)).trans (keep b o J e)) h1 f M
 show wpAny (model prog w) A _ O E {s with heap:=g};dsimp only;by_cases f:vs.toArray.size<2
 . rw[if_pos f,if_pos f];refine wpAny_bind (wpAny_pure ?_);rw[StateT.run_pure];refine wpAny_bind (wpAny_pure ?_);dsimp only;have eo:(arrOf (SortSt.mk' general' (vs.toArray.zip vs.toArray) #[] 7 none)).map (·.2)=toArray (pick Value.none (List.range vs.length) vs):=by rw[oZ];apply Array.toList_inj.mp;show((vs.toArray.zip vs.toArray).map (·.2)).toList=vs;simp[List.map_snd_zip]
   rw[eo];refine wpAny_bind (seqEpoch_at B rfl ?_);refine wpAny_bind (listUpdate_at B rfl ?_ (vZ) (by rw[size_toArray,n6 (.refl _),sizeLine_eq];omega));simp only[bne_self_eq_false,false_eq_true,if_false];refine wpAny_pure (fin _ (.refl _) ?_);rw[TX,oZ];refine uA so (.refl _) ?_;match ds,(show ds.length<2 by simp at f;omega)with|[],_=>exact .nil|[_],_=>exact List.pairwise_singleton ..|_::_::_,f=>simp at f;omega
 . rw[if_neg f,if_neg f];have N:2<=vs.length:=by simpa using f
   refine wpAny_bind (m g keep _ ?_ N|>λq=>wpAny_mono q (λ_ _ x=>x) λ_ _ x=>x.elim);have F:(vs.toArray.zip vs.toArray).toList=(List.range vs.length).map λi=>(vs.getD i Value.none,vs.getD i Value.none):=by
    refine List.ext_getElem (by simp) λi h1 f=>?_;have:i<vs.length:=by simpa using f
    simp[this]
   have U:∀x∈(vs.toArray.zip vs.toArray).toList,∃d,d∈ds/\P x.1 d:=λx hx=>by rw[F]at hx;obtain⟨i,hi,rfl⟩:=List.mem_map.mp hx;have:=iW I i (mem_range.mp hi);exact⟨_,this.2,this.1⟩
   have R:Rk (model prog w) A E {s with heap:=g} κ (λx=>∃d,d∈ds/\P x.1 d) (Xk P ds):=⟨by rintro x y Q st⟨d,d1,d2⟩⟨e,r,L⟩W hq;rw[xK fn d1 d2,xK fn r L,Bg d1]at hq;rw[lt'_eq];refine wpS_bind (wpS_get ?_);rw[W];refine wpS_bind (wpS_lift (wpAny_attempt (wpAny_mono (hl g keep x.1 y.1 d e d2 L (λb X=>X={s with heap:=g}/\b=aQ (bw d) (bw e)) ⟨rfl,rfl⟩) ?_ λ_ _ h=>h.elim)));rintro b X⟨rfl,rfl⟩;exact⟨rfl,wpS_pure hq⟩⟩;have run:=G8 R (x0:=vs.toArray.zip vs.toArray) (st:=SortSt.mk' κ (vs.toArray.zip vs.toArray) #[] 7 none) (Q:=λ_ l=>∃p:List Nat,p.Perm (List.range vs.length)/\pick .non p ds=qm ds/\(arrOf l).map (·.2)=(pick Value.none p vs).toArray/\failedOf l=none) ⟨rfl,rfl,rfl,rfl,.refl _,U,rfl,vZ⟩ λys l r L e3 e4=>by
     rw[F]at e3;obtain⟨p,t,G⟩:=zx e3 rfl;have hpl:p.length=vs.length:=by rw[t.length_eq,length_range]
     have ae:ys.size=vs.length:=by rw[<-length_toList,<-G,length_map,hpl]
     refine⟨p,t,uA so ?_ ?_,?_,L⟩;.have:=t.map λi=>ds.getD i .non;rw[TX]at this;exact this.trans (.of_eq (oZ D.non ds))
     . rw[List.pairwise_iff_getElem];intro i j hi Y af;simp only[pick,length_map]at hi Y;have sg:=e4 i j (vZ) (by omega) (by omega);have at':∀k(m:k<p.length),it ys k=(vs.getD p[k] .none,vs.getD p[k] .none):=λk m=>by rw[gG,<-G];simp[m]
       have inn:∀k(m:k<p.length),p[k]<vs.length:=λk m=>mem_range.mp (t.mem_iff.mp (getElem_mem m));rw[at' i hi,at' j Y]at sg;have a1:=iW I p[i] (inn i hi);have Z:=iW I p[j] (inn j Y);rw[xK fn a1.2 a1.1,xK fn Z.2 Z.1]at sg;simp only[pick,List.getElem_map,jh,not_eq_true'];rw[<-Bg Z.2,decide_eq_false_iff_not];omega
     .apply Array.toList_inj.mp;rw[r,Array.toList_map,<-G,map_map];rfl
   refine wpAny_bind (wpAny_mono run ?_ λ_ _ e=>e);rintro⟨⟨⟩,l⟩X⟨rfl,p,t,G,H,hf⟩;dsimp only;rw[H];refine wpAny_bind (seqEpoch_at B rfl ?_);refine wpAny_bind (listUpdate_at B rfl ?_ (vZ) (by rw[size_toArray,n6 t,sizeLine_eq];omega));rw[hf];simp only[bne_self_eq_false,false_eq_true,if_false];exact wpAny_pure (fin _ t G)
end
end HH
end
section
namespace HH
open PySem L2 PySem.Spec PyProof.Rows PySem.Calls PySem.W
section
variable{prog:Program}{w:World}{A:Around}{E:Value->Shared->Prop}{s:Shared}{vs:List Value}{κ:SortKind}{P:Value->D->Prop}{ds:List D}
theorem lQ{l:Addr}{Q:Value->Shared->Prop}(x:s.heap.IsList l vs.toArray)(y:sortable ds=true)(z:vs.length<=16777216)(B:Paired P vs ds)(fn:∀u d e,P u d->P u e->bw d=bw e)(F:∀h',(∀b o,s.heap.get? b=some o->h'.get? b=some o)->∀C:SortKind->Shared->Prop,C κ {s with heap:=h'}->2<=vs.length->wpAny (model prog w) A.in1.in1 (keyKind' vs.toArray) C (λ_ _=>False) {s with heap:=h'})(i:∀h',(∀b o,s.heap.get? b=some o->h'.get? b=some o)->∀u v d e,P u d->P v e->∀C:Bool->Shared->Prop,C (aQ (bw d) (bw e)) {s with heap:=h'}->wpAny (model prog w) A.in1.in1 (keyLt' κ u v) C (λ_ _=>False) {s with heap:=h'})(h:∀h' c p,(∀b o,s.heap.get? b=some o->h'.get? b=some o)->p.Perm (List.range vs.length)->pick .non p ds=qm ds->h'.get? (s.heap.objs.size+1)=some (seqObj "list" (pick .none p vs).toArray c)->Q (.ref (s.heap.objs.size+1)) {s with heap:=h'}):wpAny (model prog w) A (call (.builtin "sorted") [.ref l]) Q E s:=by
 refine Calls.call_function_entry kind_sorted plain_sorted entry_sorted (args_sorted1 _) ?_;unfold Builtin.«sorted»;refine wpAny_bind (m:=checkCount "sorted" 1 1 _) (wpAny_pure ?_);refine wpAny_bind (collect_list x ?_ (by rw[sizeLine_eq];omega));refine wpAny_bind (wpAny_newList ?_ (by rw[sizeLine_eq];omega));generalize r:((s.heap.push (seqObj "list" #[] 0)).update s.heap.objs.size (Obj.mapSeq (·++vs.toArray)):Heap)=j;have hsz:j.objs.size=s.heap.objs.size+1:=by rw[<-r,Heap.size_update,size_push']
 have keep:∀b o,s.heap.get? b=some o->j.get? b=some o:=λb o q=>by rw[<-r,Heap.get?_update_ne _ _ _ _ (ne_of_lt (lt_size q))];exact iG q
 generalize t:(j.push {cls:=.type "list",data:=.seq vs.toArray}:Heap)=g;have ho:g.get? (s.heap.objs.size+1)=some (seqObj "list" vs.toArray 0):=by rw[<-t,<-hsz];exact get?_push_size _ rfl
 have k:∀b o,s.heap.get? b=some o->g.get? b=some o:=λb o q=>by rw[<-t];exact iG (keep b o q)
 have a:∀b o,s.heap.get? b=some o->b≠s.heap.objs.size+1:=λb o q=>ne_of_lt (Nat.lt_succ_of_lt (lt_size q));show wpAny _ _ _ _ _ {s with heap:=g};rw[hsz];refine wpAny_bind (wpAny_holding (wpAny_call_entry slot_list_sort ⟨_,ho,rfl⟩ entry_list_sort ?body (args_list_sort _)));case body=>refine yU (s:={s with heap:=g}) (κ:=κ) ho y z B fn (λh' f C n G=>F h' (λb o q=>f b o (a b o q) (k b o q)) C n G) (λh' f u v d e hd he C n=>i h' (λb o q=>f b o (a b o q) (k b o q)) u v d e hd he C n) λh' c p f H I e=>?_;exact⟨_,rfl,wpAny_pure ⟨_,rfl,h h' c p (λb o q=>f b o (a b o q) (k b o q)) H I e⟩⟩
theorem lO{b fin:Bool}{Q:Bool->Shared->Prop}:∀{xs ys:List Value}{is js:List Int}{i:Nat},IntsAre xs is->IntsAre ys js->fin=decide (is.length<js.length)->Q (aQ is js) s->KatLex prog w A b fin Q (xs.zip ys) i s
 |_,_,_,_,_,.nil,.nil,e,h=>by subst e;exact kat_nil (by simpa[aQ]using h)|_,_,_,_,_,.nil,.cons _ _ _,e,h=>by subst e;exact kat_nil (by simpa[aQ]using h)|_,_,_,_,_,.cons _ _ _,.nil,e,h=>by subst e;exact kat_nil (by simpa[aQ]using h)|_,_,_,_,i,.cons (ns:=is) x t r,.cons (ns:=js) y u r',e,h=>by
   refine kat_cons (wpAny_eqBool_int ?_);by_cases q:x=y;.subst q;rw[beq_self_eq_true];refine kat_yes (lO r r' (by rw[e];simp) ?_);simpa[aQ]using h
   . rw[beq_eq_false_iff_ne.mpr q];refine kat_no ?_;have a:Q (decide (x<y)) s:=by simpa[aQ,q]using h
     cases(b&&i==0)with|true=>exact oneLt_int a|false=>exact kat_one _ _ (wpAny_lt_int a)
def oK(h:Heap)(u:Value)(d:D):Prop:=∃a b is,u=.ref a/\IsTup h a (toArray b)/\IntsAre b is/\is≠[]/\bw d=is
theorem j9{h h':Heap}(k:∀b o,h.get? b=some o->h'.get? b=some o){u:Value}{d:D}(t:oK h u d):oK h' u d:=by obtain⟨a,c,is,e,⟨o,h1,f⟩,g⟩:=t;exact⟨a,c,is,e,⟨o,k _ _ h1,f⟩,g⟩
theorem pX{h h':Heap}(k:∀b o,h.get? b=some o->h'.get? b=some o):∀{a:List Value}{ds:List D},Paired (oK h) a ds->Paired (oK h') a ds|_,_,.nil=>.nil|_,_,.cons r t=>.cons (j9 k r) (pX k t)
theorem lK{h:Heap}:∀{b:List Value}{ds:List D},Paired (oK h) b ds->∃fs,KatTups h b fs/\fs.length=b.length/\∀f∈fs,∃n t,f=Value.int n t|_,_,.nil=>⟨[],trivial,rfl,by simp⟩|_,_,.cons r t=>by obtain⟨fs,h1,e,g⟩:=lK t;obtain⟨a,i,is,rfl,⟨o,j,k,n,l⟩,hi,c,_⟩:=r;cases hi with|nil=>exact absurd rfl c|cons x m r'=>
     refine⟨.int x m::fs,KatTups.cons j k l (by simp) h1,by simp[e],λf hf=>?_⟩;rcases mem_cons.mp hf with rfl|hf;.exact⟨_,_,rfl⟩
     .exact g f hf
theorem yw{ds:List D}(t:Paired (oK s.heap) vs ds)(e:2<=vs.length){C:SortKind->Shared->Prop}(a:C (tuples' (Value.type "int"!=Value.type "tuple")) s):wpAny (model prog w) A (keyKind' vs.toArray) C E s:=by obtain⟨fs,h1,f,b⟩:=lK t;refine kat_kind (T:=.type "int") h1 (by omega) (λv c=>?_) rfl a;obtain⟨n,t,rfl⟩:=b v c;exact Looks.now
theorem Ft{x y:Value}{d e:D}(h:oK s.heap x d)(i:oK s.heap y e){b:Bool}{C:Bool->Shared->Prop}(c:C (aQ (bw d) (bw e)) s):wpAny (model prog w) A (keyLt' (tuples' b) x y) C E s:=by obtain⟨a,j,is,rfl,⟨o,k,u,n,l⟩,hi,m,p⟩:=h;obtain⟨v,its',js,rfl,⟨z,q,B,F,r⟩,f,g,t⟩:=i;refine kat_lt k l q r ?_;rw[p,t]at c;refine lO (is:=is) (js:=js) (by simpa using hi) (by simpa using f) ?_ c;rw[size_toArray,size_toArray,IntsAre.length hi,IntsAre.length f]
end
theorem yK{xs:List V}{a:List Value}(h:Vals xs a)(i:Nat):RelV (xs.getD i .non) (a.getD i .none):=by
 have f:=h.length;by_cases hi:i<xs.length
 . obtain⟨u,e,r⟩:=h.get (i:=i) (x:=xs[i]) (List.getElem?_eq_getElem hi);have b:xs.getD i .non=xs[i]:=by simp[hi]
   have c:a.getD i .none=u:=by simp[e]
   rw[b,c];exact r
 . have b:xs.getD i .non=.non:=by simp[Nat.le_of_not_lt hi]
   have c:a.getD i .none=.none:=by simp[show a.length<=i by omega]
   rw[b,c];rfl
theorem sU{f:Nat->V}{g:Nat->Value}(h:∀i,RelV (f i) (g i)):∀l:List Nat,Vals (l.map f) (l.map g)|[]=>.nil|i::l=>.cons (h i) (sU h l)
theorem CW{p:List Nat}{xs:List V}{a:List Value}(h:Vals xs a):Vals (pick .non p xs) (pick .none p a):=sU (yK h) _
theorem uD{K:PySem.W.Frag}{F:Hp}{f:Nat->V}{g:Nat->D}(h:∀i,Rep K F (f i) (g i)):∀l:List Nat,aF K F (l.map f) (l.map g)|[]=>.nil|i::l=>.cons (h i) (uD h l)
theorem Bd{K:PySem.W.Frag}{F:Hp}{p:List Nat}{xs:List V}{a:List D}(h:aF K F xs a):aF K F (pick .non p xs) (pick .non p a):=uD (λi=>by
 have f:=h.length;by_cases hi:i<a.length
 . obtain⟨u,e,r⟩:=h.get (i:=i) (d:=a[i]) (List.getElem?_eq_getElem hi);have b:a.getD i .non=a[i]:=by simp[hi]
   have c:xs.getD i .non=u:=by simp[e]
   rw[b,c];exact r
 . have b:a.getD i .non=.non:=by simp[Nat.le_of_not_lt hi]
   have c:xs.getD i .non=.non:=by simp[show xs.length<=i by omega]
   rw[b,c,Rep]) _
def Ac(u:Value)(d:D):Prop:=∃n t,u=.int n t/\bw d=[n]
theorem FQ(u:Value)(d e:D):Ac u d->Ac u e->bw d=bw e:=λ⟨n,t,h1,b⟩⟨m,t',a,c⟩=>by rw[h1]at a;cases a;rw[b,c]
theorem Gz{prog:Program}{w:World}{A:Around}{E:Value->Shared->Prop}{s:Shared}{x y:Value}{d e:D}(b:Ac x d)(c:Ac y e){C:Bool->Shared->Prop}(a:C (aQ (bw d) (bw e)) s):wpAny (model prog w) A (keyLt' oneType' x y) C E s:=by obtain⟨n,t,rfl,f⟩:=b;obtain⟨m,t',rfl,g⟩:=c;refine kat_lt_int ?_;rw[f,g,show aQ [n] [m]=decide (n<m)by simp[aQ]]at a;exact a
theorem Jf:∀{a:List Value}{ns:List Int},IntsAre a ns->Paired Ac a (ns.map D.int)|_,_,.nil=>.nil|_,_,.cons n t r=>.cons ⟨n,t,rfl,rfl⟩ (Jf r)
theorem zV{a:List Value}:∀{ns b:List Int},IntsAre a ns->IntsAre a b->ns=b:=by induction a with|nil=>intro ns b h1 c;cases h1;cases c;rfl|cons u a e=>intro ns b h1 c;cases h1 with|cons n t r=>cases c with|cons m t' r'=>rw[e r r']
theorem FJ{h:Heap}(u:Value)(d e:D):oK h u d->oK h u e->bw d=bw e:=λ⟨a,i,is,h1,⟨o,j,t,n,k⟩,l,_,p⟩⟨b,q,js,c,⟨v,f,w,m,g⟩,r,_,s⟩=>by rw[h1]at c;cases c;rw[j]at f;cases f;rw[k]at g;cases g;rw[p,s,zV l r]
theorem all_ints:∀{a:List D},a.all cI=true->a=(a.map cJ).map D.int
 |[],_=>rfl|d::a,h=>by
   simp only[all_cons,and_eq_true]at h;cases d<;>first|(have q:=h.1;simp[cI]at q;done)|skip
   rw[map_cons,map_cons,<-all_ints h.2];rfl
theorem intsAre_of:∀{ns:List Int}{a:List Value},Vals (ns.map V.int) a->IntsAre a ns|[],_,.nil=>.nil|n::ns,_,.cons r t=>by obtain⟨b,rfl⟩:=r;exact .cons n b (intsAre_of t)
section
variable{X:Cx}{c:Call}{a:Expr}{pa:P}{pos:Pos}
theorem xj{b:List (Addr×Obj)}{m:L2.St}{F H:Hp}{s:Shared}(I:L2.Inv X b m H s)(j:aK F H):∀{e:List D}{ys:List V}{f:List Value},aF X.K F ys e->Vals ys f->e.all gZ=true->Paired (oK s.heap) f e|[],ys,f,h,v,_=>by rw[h.eV]at v;cases v;exact .nil|d::e,ys,f,h,v,o=>by obtain⟨y,r,rfl,h1,n⟩:=h.cz;simp only[all_cons,and_eq_true]at o;cases v with|cons p t=>
     refine .cons ?_ (xj I j n t o.2);cases d<;>first|(have q:=o.1;simp[gZ]at q;done)|skip
     rename_i g;cases g with|nil=>exact absurd o.1 (by simp[gZ])|cons x xs=>obtain⟨ad,w,rfl,u,k,_⟩:=di.tup j (.inl h1);cases p;obtain⟨i,l,it,_⟩:=I.tuple u;rw[all_ints o.1]at k;rw[gf k]at l;exact⟨ad,i,_,rfl,it,intsAre_of l,by simp,rfl⟩
theorem Cw:dm X (.builtin "sorted") (El X.K λx=>blt .sorted [x]):=by
 rintro i s G H xs us Q I r⟨x,J,F,d,r',w,L,he,k⟩;have M:=fB (show(oX d).bind (λg=>if sortable g then some (.own (qm g))else none)=some r' from he);clear he;obtain⟨g,A,he⟩:=M
 cases d with|lst N=>
   cases A;obtain⟨p,ys,rfl,O,q⟩:=L.lst w;subst J;obtain⟨u,rfl,U⟩:=r.one;cases U;obtain⟨f,j,B,W⟩:=I.list O;by_cases l:sortable g=true
   . rw[if_pos l]at he;cases he;have hl:f.length=g.length:=by rw[<-j.length,q.length]
     have m:=l;simp only[sortable,and_eq_true,or_eq_true,decide_eq_true_eq]at m;have fin:∀h' c p,(∀b o,s.heap.get? b=some o->h'.get? b=some o)->p.Perm (List.range f.length)->pick .non p g=qm g->h'.get? (s.heap.objs.size+1)=some (seqObj "list" (pick .none p f).toArray c)->EP X i G Q (.ref (s.heap.objs.size+1)) {s with heap:=h'}:=by
      intro h' c p kp Y Z e;refine⟨.ref (s.heap.objs.size+1),_,I.laid (t':=s.toks) (o:=.lst (pick .non p ys)) (h':=h') kp (le_succ _) ⟨by rw[n6 Y,<-j.length];exact W,pick .none p f,c,CW j,e⟩,rfl,?_⟩;have y:aF X.K F (pick .non p ys) (qm g):=by rw[<-Z];exact Bd q
      exact vQ w y (I.hok.fresh (le_succ _)) k
     rcases m.2 with oi|ot
     . have n:=q;rw[all_ints oi]at n;have t:IntsAre f (g.map cJ):=intsAre_of (by rw[<-gf n];exact j);refine lQ (vs:=f) (κ:=oneType') B.isList l (by omega) (by have:=Jf t;rwa[<-all_ints oi]at this) FQ (λh' kp C h z=>?_) (λh' kp u v d e hd he C h=>?_) fin;.match f,t,z with|v1::v2::E,t,_=>rw[keyKind_ints t];exact wpAny_pure h
       .exact Gz hd he h
     .have tt:=xj I w q j ot;refine lQ (vs:=f) (κ:=tuples' (Value.type "int"!=Value.type "tuple")) B.isList l (by omega) tt FJ (λh' kp C h z=>yw (s:={s with heap:=h'}) (pX kp tt) z h) (λh' kp u v d e hd he C h=>?_) fin;exact Ft (s:={s with heap:=h'}) (j9 kp hd) (j9 kp he) h
   .rw[if_neg l]at he;cases he|_=>cases A
theorem boot_sorted:bootBuiltins "sorted"=some (.builtin "sorted"):=by decide+kernel
theorem lG{x:Str}{b:Pos}(e:x="sorted")(f:Gl X x)(g:X.mg x=none)(i:SX X c a pa)(hs:starEach [a] X.env=(false,eval a X.env)::starEach [] X.env:=by rfl):SX X c (.Call (.Name x b) [a] [] pos) (.blt .sorted [pa]):=by subst e;exact lN (λh=>dW Cw f g boot_sorted h (he:=hs)) i (λρ=>rfl) rfl hs
end
end HH
end
section
namespace HH
open PySem L2 PySem.Spec PyProof.Rows PySem.Calls
theorem v7(l b:Addr)(items a:List Value)(n H:Nat)(I r:Option Addr)(J v:Array (Option Value))(is js:List Int)(hi:IntsAre items is)(G:IntsAre a js):Meets (Builtin.«tuple.__lt__» ⟨[.ref l,.ref b],[]⟩) (λA R s=>s.heap.get? l=some {cls:=.type "tuple",dict:=I,data:=.seq items.toArray n,slots:=J}/\s.heap.get? b=some {cls:=.type "tuple",dict:=r,data:=.seq a.toArray H,slots:=v}/\R (.ok (.ret (.bool (aQ is js)))) s):=.of_wp λprog w A R s h=>by
  obtain⟨z,g,d,B,os⟩:=s;obtain⟨L,M,h⟩:=h;have f2:=AutoSeq1.sub_tuple_tuple;wp_walk using wpAny_loadPart' L,wpAny_loadPart' M,wpAny_forIn_list _ (λf b C=>b.1=none/\C=⟨z,g,d,B,os⟩/\∃xs ys c j,f=xs.zip ys/\IntsAre xs c/\IntsAre ys j/\decide (items.length<a.length)=decide (c.length<j.length)/\R (.ok (.ret (.bool (aQ c j)))) ⟨z,g,d,B,os⟩) _;case turn=>rintro⟨y,x⟩f b C⟨i,rfl,xs,ys,c,j,m,h1,k,E,o⟩;cases h1 with|nil=>cases m|cons p t h1=>cases k with|nil=>cases m|cons q u k=>
       injection m with hyx hrest;cases hyx;refine wpAny_bind (wpAny_eqBool_int ?_);by_cases e:p=q;.subst e;rw[beq_self_eq_true];wp_walk;exact⟨rfl,rfl,_,_,_,_,hrest,h1,k,by rw[E];simp,by simpa[aQ]using o⟩
       . rw[beq_eq_false_iff_ne.mpr e];have F:R (.ok (.ret (.bool (decide (p<q))))) ⟨z,g,d,B,os⟩:=by simpa[aQ,e]using o
         simp only[Bool.not_false,if_true];refine wpAny_bind (wpAny_rule ?_);refine wpAny_bind (show wpAny (model prog w) A.in1 (compareOp .Lt (Value.int p t) (Value.int q u)) _ _ _ from wpAny_lt_int ?_);refine wpAny_bind (wpAny_pure ?_);exact wpAny_pure (wpAny_pure ⟨_,rfl,F⟩)
  case fin=>
   rintro⟨b1,b2⟩C⟨i,rfl,xs,ys,c,j,m,h1,k,E,o⟩;simp only at i;subst i;have e:aQ c j=decide (items.length<a.length):=by rw[E];cases h1 with|nil=>cases k<;>simp[aQ]|cons _ _ _=>cases k with|nil=>simp[aQ]|cons _ _ _=>cases m
   rw[e]at o;wp_walk;exact⟨_,rfl,by simpa[Builtin.Tuple.tupleCompareSizes]using o⟩
  case h=>exact⟨rfl,rfl,items,a,is,js,by simp,hi,G,by rw[IntsAre.length hi,IntsAre.length G],h⟩
section
variable{X:Cx}
theorem iK(hu:X.A.units+8<cLine):dZ X (compareOp .Lt) (rD X.K (lX .lt)):=by rintro f s Z H x y v u Q I G J⟨F,d,e,r,p,L,M,he,k⟩;obtain⟨t,c,q⟩:=map_some (show(QG d e).map _=some r from he);subst q;cases d with
 |int i=>cases e with|int j=>exact M5 f s Z H x y v u Q I G J ⟨F,.int i,.int j,_,p,L,M,by have q:Eb (λi j=>decide (i<j)) (.int i) (.int j)=some t:=c;simp only[q];rfl,k⟩|_=>cases c
 |tup xs=>cases e with|tup ys=>obtain⟨hc,c⟩:=bL (show(if(xs.all cI&&ys.all cI)=true then some (aQ (xs.map cJ) (ys.map cJ))else none)=some t from c);rw[and_eq_true]at hc;obtain⟨a,vs,rfl,h1,N,_⟩:=L.tup p;obtain⟨b,ws,rfl,h3,O,_⟩:=M.tup p;cases G;cases J;obtain⟨z,U,it,_⟩:=I.tuple h1;obtain⟨g,W,B,_⟩:=I.tuple h3;rw[all_ints hc.1]at N;rw[all_ints hc.2]at O;rw[gf N]at U;rw[gf O]at W;have i1:=intsAre_of U;have i2:=intsAre_of W;obtain⟨⟨cls,dd,data,sl⟩,ho,h,n,hd⟩:=it;obtain⟨⟨Y,C,data2,E⟩,l,m,n2,o⟩:=B;simp only at h hd m o;subst h hd m o;refine(show wpAny (model X.prog X.w) X.A (richCompare .Lt (.ref a) (.ref b)) _ _ s from richCompare_meets_room (op:=.Lt) ⟨_,ho,rfl⟩ ⟨_,l,rfl⟩ PySem.F.slot_tuple_lt PySem.F.entry_tuple_lt (PySem.F.args_tuple_lt_2 _ _) (v7 a b z g n n2 dd C sl E _ _ i1 i2) ⟨ho,l,show Value.bool _≠Value.notImplemented/\_ from⟨(λx=>nomatch x),⟨.bl t,H,I,by rw[<-c];rfl,cA.dw p (fj _) k⟩⟩⟩ (by omega))|_=>cases c
 |_=>cases c
end
end HH
end
section
namespace L2
open PySem PySem.Spec PyProof.Rows
variable{y:V}{w:World}{H:Hp}
section
variable{κ:Type}[DecidableEq κ]
noncomputable def pA(a:List (κ×V))(k:κ):Option V:=(a.find? λb=>decide (b.1=k)).map (·.2)
noncomputable def putK(a:List (κ×V))(k:κ)(v:V):List (κ×V):=if(a.any λb=>decide (b.1=k))=true then a.map (λb=>if b.1=k then(b.1,v)else b)else a++[(k,v)]
theorem sZ{p:κ×V}{r:List (κ×V)}{k:κ}(e:p.1=k):pA (p::r) k=some p.2:=by simp[pA,find?_cons,e]
theorem uo{p:κ×V}{r:List (κ×V)}{k:κ}(e:¬ p.1=k):pA (p::r) k=pA r k:=by simp[pA,find?_cons,e]
theorem nZ(k:κ):∀a:List (κ×V),(a.any λb=>decide (b.1=k))=(pA a k).isSome
 |[]=>rfl|p::r=>by
   rw[any_cons];by_cases e:p.1=k;.simp only[sZ e,decide_eq_true e,Bool.true_or,Option.isSome_some]
   .rw[uo e,decide_eq_false e,Bool.false_or];exact nZ k r
theorem lL(a:List (κ×V))(k:κ)(v:V):(putK a k v).length<=a.length+1:=by
 unfold putK;split;.rw[length_map];omega
 .rw[length_append,length_cons,length_nil];omega
theorem CV.qw{o:Option V}{u:Option Value}(r:CV o u):o.isSome=u.isSome:=by cases o with
 |none=>cases u with|none=>rfl|some _=>exact(show False from r).elim
 |some _=>cases u with|none=>exact(show False from r).elim|some _=>rfl
theorem KV.any{a:List (κ×V)}{vs:List (κ×Value)}(r:KV a vs)(k:κ):(a.any λb=>decide (b.1=k))=vs.any λb=>decide (b.1=k):=by unfold KV at r;induction r with|nil=>rfl|cons h t c=>rw[any_cons,any_cons,c,h.1]
theorem KV.repl{b:List (κ×V)}{vs:List (κ×Value)}(r:KV b vs)(k:κ){u:Value}(c:RelV y u):KV (b.map λa=>if a.1=k then(a.1,y)else a) (vs.map λa=>if a.1=k then(a.1,u)else a):=by unfold KV at r ⊢;induction r with|nil=>exact .nil|@cons p q ps i h t f=>
   rw[map_cons,map_cons];refine .cons ?_ f;obtain⟨h1,g⟩:=h;by_cases e:p.1=k;.rw[if_pos e,if_pos (h1.symm.trans e)];exact⟨h1,c⟩
   .rw[if_neg e,if_neg (λz=>e (h1.trans z))];exact⟨h1,g⟩
theorem KV.put{a:List (κ×V)}{vs:List (κ×Value)}(r:KV a vs)(k:κ){u:Value}(b:RelV y u):KV (putK a k y) (stored vs k u):=by
 unfold putK stored;rw[r.any k];by_cases e:(vs.any λc=>decide (c.1=k))=true;.rw[if_pos e,if_pos e];exact r.repl k b
 .rw[if_neg e,if_neg e];exact Paired.snoc r ⟨rfl,b⟩
theorem KV.length{a:List (κ×V)}{vs:List (κ×Value)}(r:KV a vs):a.length=vs.length:=Paired.length r
end
theorem Ir{P:Program}{k:Key}{u:Value}(r:RelV (kV k) u):(bZ P w).is k u=true:=by cases k with|inl i=>obtain⟨t,e⟩:=(show ∃t,u=Value.int i t from r);subst e;exact ug P w i t|inr x=>obtain⟨t,e⟩:=(show ∃t,u=Value.str x t from r);subst e;exact tQ P w x t
theorem kj{P:Program}{w:World}:∀{ks:List Key}{a:List Value},Vals (ks.map kV) a->ItemsAre (bZ P w) ks a|[],_,r=>by rw[map_nil]at r;cases r;exact .nil|k::ks,_,r=>by rw[map_cons]at r;cases r with|cons h t=>exact .cons (Ir h) (kj t)
abbrev KT(H:Hp):List (List Key×V)->List (List Key×Addr×Value)->Prop:=Paired λp q=>p.1=q.1/\Rd H q.2.1 (.tup (p.1.map kV))/\RelV p.2 q.2.2
theorem KT.val{a:List (List Key×V)}{xs:List (List Key×Addr×Value)}(r:KT H a xs)(k:List Key):CV (pA a k) ((atKey xs k).map (·.2)):=by induction r with|nil=>exact True.intro|@cons p q ps c h t g=>
   obtain⟨h1,_,i⟩:=h;by_cases e:p.1=k
   . have f:q.1=k:=h1.symm.trans e;have b:atKey (q::c) k=some q.2:=by simp[atKey,find?_cons,f]
     rw[sZ e,b];exact i
   . have f:¬ q.1=k:=λz=>e (h1.trans z);have b:atKey (q::c) k=atKey c k:=by simp[atKey,find?_cons,f]
     rw[uo e,b];exact g
theorem KT.repl{a:List (List Key×V)}{xs:List (List Key×Addr×Value)}(r:KT H a xs)(k:List Key){u:Value}(f:RelV y u):KT H (a.map λb=>if b.1=k then(b.1,y)else b) (xs.map (putAt k u)):=by induction r with|nil=>exact .nil|@cons p q ps j h t g=>
   rw[map_cons,map_cons];refine .cons ?_ g;obtain⟨h1,c,i⟩:=h;unfold putAt;by_cases e:p.1=k;.rw[if_pos e,if_pos (h1.symm.trans e)];exact⟨h1,c,f⟩
   .rw[if_neg e,if_neg (λz=>e (h1.trans z))];exact⟨h1,c,i⟩
theorem KT.put{a:List (List Key×V)}{xs:List (List Key×Addr×Value)}(r:KT H a xs)(k:List Key){b:Addr}{u:Value}(f:Rd H b (.tup (k.map kV)))(c:RelV y u):KT H (putK a k y) (storedH xs k b u):=by
 have e:(a.any λg=>decide (g.1=k))=(atKey xs k).isSome:=by rw[nZ,(r.val k).qw,Option.isSome_map]
 unfold putK storedH;rw[e];by_cases q:(atKey xs k).isSome=true;.rw[if_pos q,if_pos q];exact r.repl k c
 .rw[if_neg q,if_neg q];exact Paired.snoc r ⟨rfl,f,c⟩
theorem KT.keeps{c:Hp}{a:List (List Key×V)}{xs:List (List Key×Addr×Value)}(r:KT H a xs)(e:∀b ys,Rd H b (.tup ys)->Rd c b (.tup ys)):KT c a xs:=Paired.Mm r λ_ _ z=>⟨z.1,e _ _ z.2.1,z.2.2⟩
section
variable{P:Program}{w:World}{H:Hp}{h:Heap}{a:Addr}
theorem HY{u:HO}(ok:j6 P w H h)(e:Rd H a u):bT P w H h a u:=e.ok ok
theorem Rv{b:List (Key×V)}(ok:j6 P w H h)(e:Rd H a (.dK b)):b.length<=sizeLine/\(a==sysModules)=false/\∃vs,KV b vs/\h.DictOf (bZ P w) a vs:=show bT P w H h a (.dK b)from HY ok e
theorem Rr{b:List (Key×V)}(ok:j6 P w H h)(e:H a=some (.dK b)):b.length<=sizeLine/\(a==sysModules)=false/\∃vs,KV b vs/\h.DictOf (bZ P w) a vs:=Rv ok (.inl e)
theorem rE{ks:List Key}(ok:j6 P w H h)(e:Rd H a (.tup (ks.map kV))):(tupleKind (bZ P w)).is h ks a:=by obtain⟨_,b,r,o,h1,c,n,f⟩:=(show bT P w H h a (.tup (ks.map kV))from e.ok ok);exact⟨o,b.toArray,n,h1,c,f,by simpa using kj r⟩
theorem Aa{b:List (List Key×V)}(ok:j6 P w H h)(e:Rd H a (.dT b)):b.length<=sizeLine/\(a==sysModules)=false/\∃xs,KT H b xs/\h.DictOfH (tupleKind (bZ P w)) a xs:=by
 obtain⟨z,y,xs,r,o,f,g,h1,i,j,k,n⟩:=(show bT P w H h a (.dT b)from HY ok e);refine⟨z,y,xs,r,o,f,g,h1,i,j,k,λx hx=>?_,n⟩;have all:∀{l:List (List Key×V)}{m:List (List Key×Addr×Value)},KT H l m->∀x∈m,(tupleKind (bZ P w)).is h x.1 x.2.1:=by intro l m q;induction q with|nil=>intro x hx;exact nomatch hx|@cons p q ps u c t s=>
    intro x hx;rcases mem_cons.mp hx with e|hx;.subst e;exact rE ok (by rw[<-c.1];exact c.2.1)
    .exact s x hx
 exact all r x hx
theorem S6{b:List (List Key×V)}(ok:j6 P w H h)(e:H a=some (.dT b)):b.length<=sizeLine/\(a==sysModules)=false/\∃xs,KT H b xs/\h.DictOfH (tupleKind (bZ P w)) a xs:=Aa ok (.inl e)
end
def QF(H:Hp)(a:Addr)(y v:V)(e:Hp):Prop:=(∃c k,H a=some (.dK c)/\y=kV k/\c.length<sizeLine/\e=upd H a (.dK (putK c k v)))\/∃c k b,H a=some (.dT c)/\y=.ref b/\Rd H b (.tup (k.map kV))/\c.length<sizeLine/\e=upd H a (.dT (putK c k v))
section
variable{X:Cx}{pins:List (Addr×Obj)}{σ:St}{H:Hp}{s:Shared}{a:Addr}{y v:V}{u r:Value}{o:Option V}{A:Around}{E:Value->Shared->Prop}
theorem Inv.big(I:Inv X pins σ H s):sysModules<s.heap.objs.size:=by have h:mainGlobals<s.heap.objs.size:=(I.mod.glob.keeps I.bk).lt;exact Nat.lt_trans (by decide) h
theorem yg{h':Heap}{t':Nat}{c:HO}(I:Inv X pins σ H s)(f:Ra (H a))(hs:SameBut a s.heap h')(he:∃q,h'.get? a=some q)(new:bT X.prog X.w (upd H a c) h' a c):Inv X pins σ (upd H a c) {s with heap:=h',toks:=t'}:=I.write (x:=a) (e:=a) f (.inl rfl) (λb q g z=>(hs.2 b g).trans z) he new
theorem JG{P:Program}{e:Hp}{h':Heap}{b:List (Key×V)}{vs:List (Key×Value)}(z:b.length<=sizeLine)(hd:(a==sysModules)=false)(c:KV b vs)(f:h'.DictOf (bZ P w) a vs):bT P w e h' a (.dK b):=⟨z,hd,vs,c,f⟩
theorem zb{F:Hp}{Q:Unit->Shared->Prop}(N:A.units+1<cLine)(I:Inv X pins σ H s)(g:QF H a y v F)(G:RelV y u)(J:RelV v r)(h:∀L,Inv X pins σ F L->Q () L):wpAny (model X.prog X.w) A (setItem (.ref a) u r) Q E s:=by
 rcases g with⟨f,k,e,p,l,t⟩|⟨f,k,b,e,p,M,l,t⟩
 . subst p t;obtain⟨z,hd,vs,i,x⟩:=Rr I.hok e;have B:vs.length<=sizeLine:=by rw[<-i.length];exact z
   have C:(putK f k v).length<=sizeLine:=by have:=lL f k v;omega
   refine wpAny_setItem_pairs (hsz:=B) (Ir G) x λh' j hs=>h _ ?_;have he:∃q,h'.get? a=some q:=let⟨q,_,_,m,_⟩:=j;⟨q,m⟩;exact yg I (by rw[e];exact True.intro) hs he (JG C hd (i.put k J) j)
 . subst p t;cases(show u=Value.ref b from G);obtain⟨z,hd,xs,i,x⟩:=S6 I.hok e;have B:xs.length<=sizeLine:=by rw[<-Paired.length i];exact z
   have C:(putK f k v).length<=sizeLine:=by have:=lL f k v;omega
   refine wpAny_setItem_heap (hsz:=B) (tupleKind_room_in1 N) (rE I.hok M) x λh' j hs=>h _ ?_;obtain⟨q,O,U,m,W,Y,Z,_,h5⟩:=j;refine yg I (by rw[e];exact True.intro) hs ⟨q,m⟩ ⟨C,hd,_,(i.put k M J).keeps λc ys n=>n.map λo ho n=>?_,q,O,U,m,W,Y,Z,h5⟩;rw[aC (QV n e (by rcases ho with rfl|⟨_,rfl⟩<;>exact λz=>nomatch z))];exact n
end
def QH(e ty f:TE):TS:=λD b H=>f b H λv g=>e b g λx h=>ty b h λy i=>∃a c,x=.ref a/\QF i a y v c/\D.nx b c
section
variable{X:Cx}{o i e value:Expr}{pos pos' tpos:Pos}{td ty tv:TE}
theorem Gq(f:X.A.units+1<cLine)(ho:PE X o td)(hi:PE X i ty)(j:PE X value tv)(hs:swapsWith value (some (.Subscript o i pos')) pos.line X.env=pure false):PS X (.Assign [.Subscript o i pos'] value pos) (QH td ty tv):=by intro b s c H D I h;refine wpAny_Assign_Subscript (cT (j b s c H _ I h) λr s1⟨v,H1,I1,rv,q1⟩=>cT (ho b s1 c H1 _ I1 q1) λu s2⟨x,H2,I2,rx,q2⟩=>cT (hi b s2 c H2 _ I2 q2) λl s3⟨y,H3,I3,ry,a,H4,ex,g,q3⟩=>?_) hs;subst ex;obtain rfl:u=Value.ref a:=rx;exact zb f I3 g ry rv λs4 k=>⟨c,H4,k,q3⟩
end
theorem Aq{P:Program}(h:Heap)(a:sysModules<h.objs.size):bT P w H (h.push {cls:=.type "dict",data:=.dict #[]}) h.objs.size (.dT []):=⟨vZ,beq_eq_false_iff_ne.mpr (Ne.symm (ne_of_lt a)),[],.nil,_,#[],0,get?_push_size _ rfl,⟨rfl,rfl,rfl⟩,rfl,rfl,List.nodup_nil⟩
def Lx:TE:=λ_ H Q=>∀p,H p=none->Q (.ref p) (upd H p (.dT []))
section
variable{X:Cx}{pos:Pos}
theorem zY:PE X (.Dict [] [] pos) Lx:=λb s c H Q I h=>wpAny_Dict_empty ⟨.ref s.heap.objs.size,_,I.laid (a:=s.heap.objs.size) (o:=.dT []) (t':=s.toks) (λ_ _ q=>iG q) (cH) (Aq s.heap I.big),rfl,h _ (I.hok.fresh (cH))⟩
end
end L2
namespace Vq
open PySem PySem.W PySem.Calls PyProof.Rows
end Vq
namespace L2
open PySem PySem.Spec PyProof.Rows
end L2
end
section
namespace HH
open PySem L2 PySem.Spec PyProof.Rows
section
variable{K:PySem.W.Frag}{F F1 H H1:Hp}{ρ ρ1 ρ2:List Sl}{σ σ1:L2.St}
theorem GS.Yl{x:Nat}{m p:Dc}{a:Addr}(g:GS K F ρ σ H)(e:ρ[x]?=some (.gY m))(r:σ[x]?=some (some (.ref a))):bV K F ρ σ H F (ρ.set x (.gY p)) σ (upd H a p.ho):=by
 have hi:x<ρ.length:=(gW e).1;have v:bu ρ σ x a:=⟨⟨_,_,e,rfl⟩,r⟩;obtain⟨I,J,h1,L,w,M⟩:=g.own x _ _ e rfl;rw[r]at h1;cases h1;have f:∀{j:Nat}{c:Addr},bu (ρ.set x (.gY p)) σ j c->bu ρ σ j c:=λ{j c}⟨⟨t,h,i,s⟩,q3⟩=>by
  by_cases b:j=x;.subst b;exact⟨⟨_,_,e,rfl⟩,q3⟩
  .rw[fL b]at i;exact⟨⟨t,h,i,s⟩,q3⟩
 refine⟨⟨λc o q=>?_,by simp[g.len],λj z d q=>?_,λj t h q u=>?_,λj k c i s=>g.dis j k c (f i) (f s)⟩,.refl _,λc n A=>absurd n A,λc o q n=>?_,λc⟨j,q⟩=>.inl ⟨j,f q⟩,by simp,λj t q l=>⟨rfl,?_⟩⟩
 . have:c≠a:=by rintro rfl;rw[w]at q;cases q
   rw[aC this];exact g.sub c o q
 . by_cases b:j=x;.subst b;rw[getElem?_set_self hi]at q;cases q
   .rw[fL b]at q;exact g.val j z d q
 . by_cases b:j=x;.subst b;rw[getElem?_set_self hi]at q;cases q;cases u;exact⟨a,_,r,aR,w,rfl⟩
   . rw[fL b]at q;obtain⟨c,B,y,C,E,G⟩:=g.own j t h q u;have:c≠a:=by rintro rfl;exact b (g.dis j x c ⟨⟨t,h,q,u⟩,y⟩ v)
     exact⟨c,B,y,by rw[aC this];exact C,E,G⟩
 . have:c≠a:=by rintro rfl;exact n ⟨x,v⟩
   rw[aC this];exact q
 . by_cases b:j=x;.subst b;rw[e]at q;cases q;cases l
   .exact⟨t,by rw[fL b];exact q,.refl t⟩
theorem GS.newD{i:Nat}{m:Dc}{a:Addr}(g:GS K F ρ σ H)(e:ρ[i]?=some .aU)(r:H a=none):bV K F ρ σ H F (ρ.set i (.gY m)) (σ.set i (some (.ref a))) (upd H a m.ho):=by
 have hi:i<ρ.length:=(gW e).1;have s:i<σ.length:=by rw[<-g.len];exact hi
 have w:F a=none:=by cases q:F a with|none=>rfl|some o=>rw[g.sub a o q]at r;cases r
 have f:∀{j:Nat}{c:Addr},j≠i->bu (ρ.set i (.gY m)) (σ.set i (some (.ref a))) j c->bu ρ σ j c:=λ{j c}b⟨⟨t,ds,e1,e2⟩,e3⟩=>by rw[fL b]at e1 e3;exact⟨⟨t,ds,e1,e2⟩,e3⟩
 have new:∀{c:Addr},bu (ρ.set i (.gY m)) (σ.set i (some (.ref a))) i c->c=a:=λ{c}⟨_,e3⟩=>by rw[getElem?_set_self s]at e3;cases e3;rfl
 have x:∀{j:Nat},¬ bu ρ σ j a:=λ{j}⟨⟨t,ds,e1,e2⟩,e3⟩=>by obtain⟨c,o,h,p,_⟩:=g.own j t ds e1 e2;rw[e3]at h;cases h;rw[r]at p;cases p
 refine⟨⟨λc o q=>?_,by simp[g.len],λj z d q=>?_,λj t A q y=>?_,λj k c h p=>?_⟩,.refl _,λc n B=>absurd n B,λc o q n=>?_,λc⟨j,q⟩=>?_,by simp,λj t q l=>?_⟩
 . have:c≠a:=by rintro rfl;rw[w]at q;cases q
   rw[aC this];exact g.sub c o q
 . by_cases b:j=i;.subst b;rw[getElem?_set_self hi]at q;cases q
   .rw[fL b]at q ⊢;exact g.val j z d q
 . by_cases b:j=i;.subst b;rw[getElem?_set_self hi]at q;cases q;cases y;exact⟨a,_,getElem?_set_self s,aR,w,rfl⟩
   . rw[fL b]at q ⊢;obtain⟨c,o,C,v,E,G⟩:=g.own j t A q y;have:c≠a:=by rintro rfl;rw[r]at v;cases v
     exact⟨c,o,C,by rw[aC this];exact v,E,G⟩
 . by_cases b:j=i
   . by_cases u:k=i;.rw[b,u]
     .subst b;rw[new h]at p;exact absurd (f u p) x
   . by_cases u:k=i;.subst u;rw[new p]at h;exact absurd (f b h) x
     .exact g.dis j k c (f b h) (f u p)
 . have:c≠a:=by rintro rfl;rw[r]at q;cases q
   rw[aC this];exact q
 . by_cases b:j=i;.subst b;rw[new q];exact .inr r
   .exact .inl ⟨j,f b q⟩
 . have b:j≠i:=by rintro rfl;rw[e]at q;cases q;cases l
   exact⟨by rw[fL b],t,by rw[fL b];exact q,.refl t⟩
end
end HH
end
section
namespace HH
open PySem L2 PySem.Spec PyProof.Rows
theorem sG:∀{a b:List Int},(a.map Sum.inl:List Key)=b.map Sum.inl->a=b|[],[],_=>rfl|[],_::_,h=>by cases h|_::_,[],h=>by cases h|x::a,y::b,h=>by rw[map_cons,map_cons]at h;injection h with h1 h2;injection h1 with h1;rw[h1,sG h2]
theorem Bt(a b:List Int):decide ((a.map Sum.inl:List Key)=b.map Sum.inl)=decide (a=b):=by
 by_cases h:a=b;.subst h;simp
 .rw[decide_eq_false h,decide_eq_false λe=>h (sG e)]
theorem rm(k:List Int):(k.map Sum.inl:List Key).map kV=k.map V.int:=by rw[map_map];rfl
theorem nQ{K:PySem.W.Frag}{F:Hp}{xs:List V}{a:List D}(r:aF K F xs a)(o:a.all cI=true):xs=(a.map cJ).map V.int:=by rw[all_ints o]at r;rw[gf r]
theorem Inv.Rc{X:Cx}{c:List (Addr×Obj)}{g:L2.St}{H:Hp}{s:Shared}{a:Addr}{f:List (List Key×V)}(I:L2.Inv X c g H s)(h:H a=some (.dT f)):∃o,L2.Inv X c g (upd H a (.eG o (.dT f))) s:=by obtain⟨z,y,xs,r,o,i,j,h1,k,l,m,n⟩:=(show bT X.prog X.w H s.heap a (.dT f)from I.hok a _ h);refine⟨o,I.write (h':=s.heap) (t':=s.toks) (by rw[h];exact trivial) (.inl rfl) (λb u _ e=>e) ⟨o,h1⟩ ⟨h1,z,y,xs,KT.keeps r λb ys q=>q.map λu p q=>?_,o,i,j,h1,k,l,m,n⟩⟩;rw[aC (by rintro rfl;rw[h]at q;cases q;rcases p with z|⟨_,z⟩<;>cases z)];exact q
section
variable{X:Cx}{c:Call}{n:Nat}{a b e:Expr}{p pa pb:P}{pos:Pos}{es:List Expr}{ps:List P}{x1:Nat}{tpos:Pos}
theorem Du{i:Nat}{x:Str}{C:Pos}(E:X.N[i]?=some x)(G:Be X.env.scope x)(hd:(x==("__debug__":Str))=false:=by decide)(z:(x==("__classdict__":Str))=false:=by decide):SX X c (.Name x C) (.vw i):=by
 have h:=lB (X:=X) (pos:=C) E G hd z;refine⟨?_,λi h=>by cases h⟩;rintro f s y H Q I⟨F,ρ,r,J,g,e,k⟩;rw[HH.E23]at e;split at e
 . rename_i m q;cases e;obtain⟨a,h1,j,l⟩:=g.wZ q;refine cT (h f s y H (λv A=>v=.ref a/\A=H) I ⟨.ref a,h1,rfl,rfl⟩) λu s1⟨v,H1,I1,r1,e1,e2⟩=>?_;subst e1 e2;have L:∃o,L2.Inv X f y (upd H1 a (.eG o m.ho)) s1:=by cases m with|s w=>exact Inv.Rc I1 j|k w=>exact Inv.GD I1 j|t w=>exact Inv.Rc I1 j
   obtain⟨o,B⟩:=L;exact⟨.ref a,_,B,r1,k _ _ _ (l o).1 (l o).2⟩
 .rename_i w q;cases e;obtain⟨a,vs,h1,j,l⟩:=g.wX q;refine cT (h f s y H (λv A=>v=.ref a/\A=H) I ⟨.ref a,h1,rfl,rfl⟩) λu s1⟨v,H1,I1,r1,e1,e2⟩=>?_;subst e1 e2;obtain⟨o,B⟩:=Inv.GD I1 j;exact⟨.ref a,_,B,r1,k _ _ _ (l o).1 (l o).2⟩
 .rename_i b O q;cases e;obtain⟨v,M,h1,j,l⟩:=g.freeze q;exact h f s y H Q I ⟨v,h1,k v M H j l⟩
 .rename_i b d q;cases e;obtain⟨v,h1,j⟩:=g.val i b d q;exact h f s y H Q I ⟨v,h1,k v F H (.refl g) j⟩
 .cases e
end
end HH
end
section
namespace HT
open PySem PySem.Spec PyProof.Rows
theorem pF(a:List Value):slicePick a.toArray none none (some (-1))=a.reverse.toArray:=by
 have h:=Bo a.toArray;have e:slicePick a.toArray none none (some (-1))=((List.range a.toArray.size).filterMap λ(m:Nat)=>a.toArray[((a.toArray.size:Int)-1+(m:Int)*(-1)).toNat]?).toArray:=by
  unfold slicePick;generalize a.toArray=xs;show((sliceRange ((xs.size:Int)-1) (-1) (-1)).filterMap (xs[·]?)).toArray=_;unfold sliceRange;rw[List.filterMap_map];have b:(if(-1:Int)>0 then if(xs.size:Int)-1< -1 then(-1-((xs.size:Int)-1)+-1-1)/ -1 else 0 else if(xs.size:Int)-1>-1 then((xs.size:Int)-1- -1- -1-1)/ - -1 else 0).toNat=xs.size:=by rw[if_neg (by omega),show(- -1:Int)=1 from rfl,Int.ediv_one];split<;>omega
  rw[b];simp only[Function.comp_def,Int.mul_comm (-1)]
 rw[e,h]
end HT
namespace HH
open PySem L2 PySem.Spec PyProof.Rows
section
variable{X:Cx}{c:Call}{e a:Expr}{te:TE}{pa:P}{pos p1 p2 p3:Pos}
theorem Hh{j}(n:SX X c a pa):SX X c (.Subscript a (.Slice none none (some (.UnaryOp .USub (.Constant (.int 1) j p1) p2)) p3) pos) (.blt .Dz [pa]):=by refine Bm (f:=λx=>blt .Dz [x]) (λh1=>zc ?_ h1) n (λρ=>rfl) rfl;rintro g s B H x v t C Q I p hs⟨F,d,r,h,u,he,k⟩;cases d with|lst E=>cases he;obtain⟨a,xs,rfl,w,y⟩:=u.lst h;cases p;obtain⟨z,i,l,A⟩:=I.list w;have m:=i.length;refine⟨"list",_,slot_list_getitem.lookup,l.isList.typeIs,?_⟩;refine wpAny_getItem_list_slice l.isList hs .none .none (.int (-1) t) (by simp) ?_ (by rw[size_toArray]<;>omega);rw[HT.pF];refine⟨.ref s.heap.objs.size,_,I.laid (t':=s.toks) (o:=.lst xs.reverse) (λb G q=>iG q) (cH) ?_,rfl,vQ h (tX y) (I.hok.fresh (cH)) k⟩;exact⟨by rw[List.length_reverse];exact A,_,0,sY i,get?_push_size _ rfl⟩|_=>cases he
end
end HH
end
section
namespace HH
open PySem L2 PySem.Spec PyProof.Rows PySem.Calls PySem.W
noncomputable def zG(k:List Int):List Key×V:=(k.map Sum.inl,V.bl true)
theorem Ah(k:List Int):∀ks:List (List Int),pA (ks.map zG) (k.map Sum.inl:List Key)=if ks.contains k=true then some (V.bl true)else none
 |[]=>rfl|p::ks=>by
   have a:=Ah k ks;unfold pA at a ⊢;have e:decide ((zG p).1=(k.map Sum.inl:List Key))=decide (p=k):=Bt p k;rw[map_cons,find?_cons,e];by_cases h:p=k;.subst h;simp[zG]
   .rw[decide_eq_false h];show Option.map _ (List.find? _ _)=_;rw[a,contains_cons,show(k==p)=false from beq_eq_false_iff_ne.mpr (Ne.symm h),Bool.false_or]
theorem Dj(k:List Int)(ks:List (List Int)):(pA (ks.map zG) (k.map Sum.inl:List Key)).isSome=ks.contains k:=by rw[Ah];cases ks.contains k<;>rfl
theorem BP(k:List Int)(ks:List (List Int)):putK (ks.map zG) (k.map Sum.inl:List Key) (V.bl true)=(stK ks k).map zG:=by
 unfold putK stK;rw[nZ,Dj];by_cases h:ks.contains k=true
 . rw[if_pos h,if_pos h,map_map];refine List.map_congr_left λp _=>?_;show(if(zG p).1=_ then _ else _)=_;split;.rfl
   .rfl
 .rw[if_neg h,if_neg h,List.map_append];rfl
section
variable{X:Cx}{c:Call}{n:Nat}{a b e:Expr}{pa pb p:P}{pos:Pos}
theorem JS{f:List (Addr×Obj)}{i:L2.St}{H:Hp}{s:Shared}{q:Addr}{xs:List V}{ks:List Key}(I:L2.Inv X f i H s)(h:jc X.K H q xs)(e:xs=ks.map kV):(tupleKind (bZ X.prog X.w)).is s.heap ks q:=by subst e;obtain⟨g,r,⟨o,h1,j,n,k⟩,_⟩:=I.tuple h;exact⟨o,g.toArray,n,h1,j,k,by simpa using kj r⟩
theorem qK{g:Bool}{op:CmpOp}(i:(op=.In/\g=false)\/(op=.NotIn/\g=true))(U:X.A.units+8<cLine):dZ X (compareOp op) (rD X.K (pM g)):=by rintro o s W H x y v u Q I E G⟨F,d,e,r,h,J,L,he,k⟩;cases d with
 |tup f=>cases e with
   |cX m=>cases m with|s ks=>
       obtain⟨ho,he⟩:=bL (show(if f.all cI=true then some (R.val (.bl (g !=ks.contains (f.map cJ))))else none)=some r from he);subst he;obtain⟨q,M,rfl,N⟩:=L.cX h;obtain⟨t,xs,rfl,O,hr,_⟩:=J.tup h;obtain rfl:u=Value.ref q:=G;cases(show v=Value.ref t from E);obtain⟨z,hd,ys,j,B⟩:=Aa I.hok (show Rd H q (.dT (ks.map zG))from .inr ⟨M,N⟩);have C:(tupleKind (bZ X.prog X.w)).is s.heap ((f.map cJ).map Sum.inl) t:=JS I O (by rw[rm,<-nQ hr ho]);have l:=(j.val ((f.map cJ).map Sum.inl)).qw;rw[Option.isSome_map,Dj]at l;rcases i with⟨rfl,rfl⟩|⟨rfl,rfl⟩;.refine wpAny_in_heap (tupleKind_room_in1 (by omega)) C hd B ?_;rw[<-l];exact⟨.bl _,H,I.tok _,rfl,by rw[<-Bool.false_bne (ks.contains (f.map cJ))];exact cA.dw h (fj _) k⟩
       .refine wpAny_notIn_heap (tupleKind_room_in1 (by omega)) C hd B ?_;rw[<-l];exact⟨.bl _,H,I.tok _,rfl,by rw[<-Bool.true_bne (ks.contains (f.map cJ))];exact cA.dw h (fj _) k⟩|_=>cases he
   |_=>cases he
 |_=>cases he
theorem qW(g:X.A.units+8<cLine)(h:SX X c a pa)(i:SX X c b pb)(j:behindInMarks .In b=false:=by rfl):SX X c (.Compare a [.In] [b] pos) (.bin .sin pa pb):=m6 (f:=pM false) (λh1 k=>qL (qK (.inl ⟨rfl,rfl⟩) g) h1 k j) h i (λρ=>rfl) rfl
theorem Er(g:X.A.units+8<cLine)(h:SX X c a pa)(i:SX X c b pb)(j:behindInMarks .NotIn b=false:=by rfl):SX X c (.Compare a [.NotIn] [b] pos) (.bin .uM pa pb):=m6 (f:=pM true) (λh1 k=>qL (qK (.inr ⟨rfl,rfl⟩) g) h1 k j) h i (λρ=>rfl) rfl
theorem xq{f:Bool}{o:Op}{op:CmpOp}(i:(op=.In/\f=false)\/(op=.NotIn/\f=true))(l:pH o=pM f)(m:X.A.units+8<cLine)(y:SX X c a pa)(B:SX X c b pb)(C:behindInMarks op b=false):ST X c (.Compare a [op] [b] pos) (.bin o pa pb):=by obtain⟨E,G,h1,I,J⟩:=y.gj B;refine tH (xP (qK i m) h1 I C) λσ H Q q=>lC (t:=Mx (rD X.K (pM f)) E G) (λQ z=>?_) q;obtain⟨F,ρ,r,L,g,e,k⟩:=z;rw[HH.E3,l]at e;obtain⟨j,M,N,h⟩:=ao e;have O:=aJ h;clear h;obtain⟨h,U⟩:=O;subst U;refine J g N λv u W H' s Y Z=>⟨W,j.1,j.2,r,s.gs.sub,Y,Z,h,λw F2 H2 x rn=>?_⟩;exact k w F2 H2 (s.trans (x.stp s.gs)) (.later s (rn.pK s.gs))
theorem Jr(f:X.A.units+8<cLine)(g:SX X c a pa)(h:SX X c b pb)(i:behindInMarks .In b=false:=by rfl):ST X c (.Compare a [.In] [b] pos) (.bin .sin pa pb):=xq (.inl ⟨rfl,rfl⟩) rfl f g h i
theorem qJ(f:X.A.units+8<cLine)(g:SX X c a pa)(h:SX X c b pb)(i:behindInMarks .NotIn b=false:=by rfl):ST X c (.Compare a [.NotIn] [b] pos) (.bin .uM pa pb):=xq (.inr ⟨rfl,rfl⟩) rfl f g h i
end
noncomputable def Q5(o:Obj):Bool:=match o.cls,o.data with|.type n,.seq a _=>n=="tuple"&&(match a[0]?with|some (Value.int _ _)=>true|_=>false)|_,_=>false
def Fx(K:PySem.W.Frag):Prop:=(K.filter λp=>Q5 p.2).map (·.1)=[]
theorem p7{f g:Type}[BEq f][LawfulBEq f]{a:f}{b:g}:∀{l:List (f×g)},l.lookup a=some b->(a,b)∈l
 |[],h=>by cases h|(c,d)::l,h=>by
   rw[lookup_cons]at h;split at h;.rename_i e;have:=eq_of_beq e;cases h;subst this;simp
   .exact mem_cons_of_mem _ (p7 h)
theorem Bx{a:List D}(h:gZ (.tup a)=true):a.all cI=true/\∃i r,a.map cJ=i::r:=by cases a with|nil=>cases h|cons x a=>exact⟨h,_,_,rfl⟩
theorem Fx.rd{K:PySem.W.Frag}(h:Fx K){H:Hp}{a:Addr}{xs:List V}{i:Int}{r:List Int}(q:jc K H a xs)(e:xs=(i::r).map V.int):Rd H a (.tup xs):=by
 rcases q with q|⟨o,b,n,f,hc,hs,m,g⟩;.exact q
 . have j:Q5 o=true:=by
    subst e;have hd:o.data=.seq b n:=by simpa using hs
    obtain⟨u,h1,k⟩:=g.get (i:=0) (x:=.int i) rfl;obtain⟨t,rfl⟩:∃t,u=Value.int i t:=k;have l:b[0]?=some (.int i t):=by simpa using h1
    unfold Q5;rw[hc,hd];show(("tuple":String)=="tuple"&&(match b[0]?with|some (Value.int _ _)=>true|_=>false))=true;rw[l];rfl
   have c:a∈(K.filter λp=>Q5 p.2).map (·.1):=List.mem_map.mpr ⟨(a,o),List.mem_filter.mpr ⟨p7 f,j⟩,rfl⟩;rw[show(K.filter λp=>Q5 p.2).map (·.1)=[]from h]at c;cases c
section
variable{X:Cx}{c:Call}{n:Nat}{a b e:Expr}{pa pb p:P}{pos:Pos}
theorem Fg{i:Nat}{x:Str}{f h:Pos}(j:X.N.Nodup)(hi:X.N[i]?=some x)(l:Loc X.env.scope x)(hs:swapsWith (.Dict [] [] h) (some (.Name x f)) pos.line X.env=pure false:=by rfl)(o:X.fn x=true\/X.env.scope.names.lookup x=some .local:=by first|exact .inl rfl|exact .inr rfl|assumption):SS X c n (.Assign [.Name x f] (.Dict [] [] h) pos) (.DK i):=by
 refine ik (Av j hi l zY hs o) ?_;rintro D u H⟨F,ρ,v,r,g,e,k⟩;rw[HH.X15]at e;split at e;.rename_i q;cases e;exact λa t=>k F _ _ (g.newD (m:=.s []) q t)
 .cases e
theorem Gi{i k:Nat}{j:Nat}{x y:Str}{q r f u:Pos}(nt:Fx X.K)(hu:X.A.units+8<cLine)(E:X.N[i]?=some x)(G:Be X.env.scope x)(I:X.N[k]?=some y)(hw:Be X.env.scope y)(hs:swapsWith (.Constant (.bool true) j u) (some (.Subscript (.Name x q) (.Name y r) f)) pos.line X.env=pure false:=by rfl)(hd:(x==("__debug__":Str))=false:=by decide)(h:(x==("__classdict__":Str))=false:=by decide)(l:(y==("__debug__":Str))=false:=by decide)(J:(y==("__classdict__":Str))=false:=by decide):SS X c n (.Assign [.Subscript (.Name x q) (.Name y r) f] (.Constant (.bool true) j u) pos) (.zK i k):=by
 refine ik (Gq (by omega) (lB E G hd h) (lB I hw l J) HR hs) ?_;rintro D L H⟨F,ρ,fl,M,g,e,O⟩;rw[HH.X16]at e;split at e
 . rename_i ks b w z Q;split at e
   . rename_i hc;obtain⟨m,U⟩:=hc;obtain⟨ho,i0,r0,o⟩:=Bx m;cases e;obtain⟨a0,W,B,Y,w3,Z⟩:=g.own i _ _ z rfl;cases(show W=Dc.ho (.s ks)from Z);obtain⟨v,h1,C⟩:=g.val k b _ Q;rw[Rep]at C;obtain⟨t,xs,rfl,ht,hr⟩:=C;refine⟨.ref a0,B,.ref t,h1,a0,upd H a0 (Dc.ho (.s (stK ks (w.map cJ)))),rfl,.inr ⟨ks.map zG,(w.map cJ).map Sum.inl,t,Y,rfl,?_,by rw[length_map,sizeLine_eq];exact U,?_⟩,O F L _ (g.Yl z B)⟩;.rw[rm,<-nQ hr ho];exact nt.rd (aK.eZ g.sub ht) (by rw[nQ hr ho,o])
     .rw[BP];rfl
   .cases e
 .cases e
end
section
variable{prog:Program}{w:World}{A:Around}{E:Value->Shared->Prop}{s:Shared}{κ:Type}[DecidableEq κ]{knd:HeapKind prog w κ}
theorem nH{d:Addr}(hd:(d==sysModules)=false):MeetsIn prog w (Builtin.«dict.__len__» ⟨[.ref d],[]⟩) (λ_ R s=>∃a,s.heap.DictOfH knd d a/\R (.ok (.ret (.int a.length s.toks))) {s with toks:=s.toks+1}):=.of_wp λA R s⟨a,hm,h⟩=>by
  obtain⟨o,c,f,ho,hc,b,e,_⟩:=hm;show wpAny _ _ (dictSize d>>=_) _ _ s;unfold dictSize;refine wpAny_bind (wpAny_bind (wpAny_dictEntries ho b (wpAny_pure ?_)));show wpAny _ _ (Builtin.Dict.pendingCount d>>=_) _ _ s;refine wpAny_bind (wpAny_pendingCount_other hd ?_);refine wpAny_ret_mkInt ?_;have:c.size=a.length:=by rw[<-length_toList,e,length_map]
  rw[Nat.add_zero,this];exact h
theorem pC{d:Addr}{a}{Q:Value->Shared->Prop}(hd:(d==sysModules)=false)(b:s.heap.DictOfH knd d a)(c:(a.length:Int)<2^63)(h:Q (.int a.length (s.toks+1)) {s with toks:=s.toks+1+1}):wpAny (model prog w) A (call (.builtin "len") [.ref d]) Q E s:=by have ty:s.TypeIs (.ref d) "dict":=let⟨o,_,_,h1,h2,_⟩:=b;⟨o,h1,h2.1⟩;refine Calls.call_function_entry kind_len plain_len entry_len (args_len1 _) ?_;unfold Builtin.«len»;refine wpAny_bind (m:=oneArg "len" _) (wpAny_pure ?_);refine wpAny_bind (m:=callSpecial? (.ref d) (Str.ofString "__len__")) (wpAny_callSpecial?_slot (name:=Str.ofString "__len__") ty F.slot_dict_len (call_meetsIn F.slot_dict_len ty F.entry_dict_len (F.args_dict_len_1 _) (nH hd) ⟨a,b,?_⟩));show wpAny _ _ _ _ _ {s with toks:=s.toks+1};refine wpAny_bind (wpAny_holding (wpAny_pure ?_));refine wpAny_bind (wpAny_letGo ?_);show wpAny _ _ (if((a.length:Nat):Int)<0 then _ else _) _ _ _;rw[if_neg (by omega)];show wpAny _ _ (if((a.length:Nat):Int)≥ 2^63 then _ else _) _ _ _;rw[if_neg (by omega)];exact wpAny_bind (wpAny_mkInt (wpAny_pure ⟨_,rfl,h⟩))
end
section
variable{X:Cx}{c:Call}{n:Nat}{a b e:Expr}{pa pb p:P}{pos:Pos}
theorem JQ:dm X (.builtin "len") (El X.K λx=>blt .DG [x]):=by rintro g s z H xs A Q I r⟨x,i,F,d,r',h,j,he,k⟩;cases d with
 |cX m=>cases m with|s ks=>cases he;obtain⟨q,l,rfl,o⟩:=j.cX h;subst i;obtain⟨u,rfl,t⟩:=r.one;cases t;obtain⟨h1,v,vs,w,y⟩:=Aa I.hok (show Rd H q (.dT (ks.map zG))from .inr ⟨l,o⟩);have f:=Paired.length w;rw[length_map]at f h1;refine pC v y (by rw[<-f];have B:sizeLine=16777216:=rfl;omega) ?_;rw[<-f];exact⟨.int ks.length,H,I.tok _,⟨_,rfl⟩,cA.dw h (cV _) k⟩|_=>cases he
 |_=>cases he
theorem Gr{x:Str}{f:Pos}(g:x="len")(i:Gl X x)(j:X.mg x=none)(k:SX X c a pa)(hs:starEach [a] X.env=(false,eval a X.env)::starEach [] X.env:=by rfl):SX X c (.Call (.Name x f) [a] [] pos) (.blt .DG [pa]):=by subst g;exact lN (λh=>dW JQ i j PySem.boot_len h (he:=hs)) k (λρ=>rfl) rfl hs
end
end HH
end
section
namespace HH
open PySem PyProof.Rows PySem.Spec
section
variable{prog:Program}{w:World}{A:Around}{E:Value->Shared->Prop}{s:Shared}
theorem rF:typeLookup (.type "list") "keys"=pure none:=by rw[typeLookup_type,builtinLookup_eq_fast];kernel_rfl
set_option maxRecDepth 8000 in
theorem yX{a:Addr}{o:Obj}{xs:Array Value}{k:Nat}{Q:Option Value->Shared->Prop}(p:A.handled=none)(l:s.heap.get? a=some o)(hc:o.cls=.type "list")(f:o.data=.seq xs k)(hd:o.dict=none)(h:∀h' m,(∀b u,s.heap.get? b=some u->h'.get? b=some u)->Q none {s with heap:=h',toks:=m}):wpAny (model prog w) A (getAttr? (.ref a) "keys") Q E s:=by
 obtain⟨c,q,dat,r⟩:=o;simp only at hc f hd;subst hc f hd;obtain⟨t,g,d,m,os⟩:=s;have n:∀i,(⟨t,g,d,i,os⟩:Shared).TypeIs (.ref a) "list":=λ_=>⟨_,l,rfl⟩;have f1:=sub_AttributeError;have f3:=PySem.F.slot_list_getattribute.lookup;have f4:=PySem.F.slot_list_getattribute.bind (.ref a);have f5:=am_list_getattr_none;unfold getAttr? getAttrBy? getAttrBy;repeat(any_goals(first|assumption|exact n _|((with_reducible show wpAny _ _ (call (Value.builtin "list.__getattribute__") _ _) _ _ _);refine call_meets PySem.F.slot_list_getattribute (n _) am_entry_list_getattribute (PySem.F.args_list_getattribute_2 _ _) (meets_getattribute_miss_list a xs k r "keys" _ rF (by decide) (by decide+kernel)) ⟨l,p,λh' i e j=>?_⟩)|wp_step))
 obtain⟨t',v,he⟩:=j.there;show wpAny _ _ (getattributeRaised _ _ _ _ _ _ _) _ _ _;unfold getattributeRaised;repeat(any_goals(first|assumption|wp_step))
 exact h _ _ j.keeps
variable{κ:Type}[DecidableEq κ]{knd:HeapKind prog w κ}
theorem jO:entryFor table "dict.update.loop"=some Builtin.«dict.update.loop»:=entryFor_of_tree (by kernel_rfl)
theorem fU:plainId "dict.update.loop"=true:=by decide+kernel
def DX(knd:HeapKind prog w κ)(h:Heap)(d:Addr)(xs:List (κ×Addr×Value)):Prop:=∃o a b,h.get? d=some o/\o.ExactDict/\o.data=.dict a b/\a.toList=xs.map (entryOfKey knd)/\(xs.map (·.1)).Nodup
theorem DX.at{knd:HeapKind prog w κ}{h h':Heap}{d:Addr}{xs:List (κ×Addr×Value)}(q:DX knd h d xs)(e:∀o,h.get? d=some o->h'.get? d=some o):DX knd h' d xs:=let⟨o,es,ep,g,r⟩:=q;⟨o,es,ep,e o g,r⟩
abbrev Ed(h h':Heap):Prop:=∀b u,h.get? b=some u->h'.get? b=some u
theorem yV{R:Result->Shared->Prop}{I:Addr}{fp r:List Addr}{G:Array GenState->Array GenState->Prop}{P:Nat->Value->Prop}{St:Nat->Shared->Prop}{n:Nat}(W:WalksS prog w A.in1 I fp r G n P St)(D:Addr)(t:D∉fp){h0:Heap}(hD:h0.get? D=none)(hw:∀b∈r,h0.get? b=none){Rl:Nat->List (κ×Addr×Value)->Prop}(hr:knd.room A.in1)(J:∀i xs v,i<n->P i v->Rl i xs->∃p q k o m,v=.ref p/\h0.get? p=some o/\o.cls=.type "tuple"/\o.data=.seq #[.ref q,.bool true] m/\(∀h,Ed h0 h->knd.is h k q)/\Rl (i+1) (storedH xs k q (.bool true))/\xs.length<=sizeLine)(Y8:∀i xs,Rl i xs->∀x∈xs,∀h,Ed h0 h->knd.is h x.1 x.2.1):∀(k i:Nat)(s:Shared)(xs:List (κ × Addr × Value)),n-i=k->i<=n->St i s->Ed h0 s.heap->DX knd s.heap D xs->Rl i xs->(∀ f y,Moved (D::r) G s f->DX knd f.heap D y->Ed h0 f.heap->Rl n y->R (.ok (.ret .none)) f)->
   codeAny (model prog w) A (.builtin "dict.update.loop" ⟨[.ref D,.ref I,.int i 0,.none],[]⟩) R s:=by have z:D∉r:=λh=>t (W.sub _ h);have sub:∀b∈r,b∈D::r:=λb g=>.tail _ g;intro k;induction k with|zero=>
   intro i s xs hk hi hs L M H N;have O:i=n:=by omega
   subst O;refine codeAny_builtin jO ?_;rw[Around.under_plainId fU _];show wpAny _ A.in1 (pyNext (.ref I)>>=_) _ _ s;refine wpAny_bind (W.done s _ _ hs λf l=>?_);show wpAny _ A.in1 (Builtin.Dict.addKeywords D []>>=_) _ _ f;refine wpAny_bind (wpAny_pure ?_);show wpAny _ A.in1 (ret Value.none) _ _ f;exact wpAny_pure (N f xs (l.mono sub) (M.at λo e=>l.heap D o z e) (λb u e=>l.heap b u (λg=>by rw[hw b g]at e;cases e) (L b u e)) H)|succ k ih=>
   intro i s xs hk hi hs L M H N;have lt:i<n:=by omega
   refine codeAny_builtin jO ?_;rw[Around.under_plainId fU _];show wpAny _ A.in1 (pyNext (.ref I)>>=_) _ _ s;refine wpAny_bind (W.item i s _ _ lt hs λv f hP B l=>?_);obtain⟨p,q,kk,o,m,rfl,ho,hc,hd,Q,U,hz⟩:=J i xs v lt hP H;have j:Ed h0 f.heap:=λb u e=>l.heap b u (λg=>by rw[hw b g]at e;cases e) (L b u e);have X:=M.at λo e=>l.heap D o z e;show wpAny _ A.in1 (holding [Value.ref p] _>>=_) _ _ f;refine wpAny_bind (wpAny_holding ?_);show wpAny _ A.in1 (tryCatch (Builtin.Dict.pairItems (.ref p)) _>>=_) _ _ f;refine wpAny_bind (wpAny_tryCatch ?_);unfold Builtin.Dict.pairItems;refine wpAny_bind (wpAny_typeOf ⟨o,j _ _ ho,hc⟩ ?_);rw[if_pos (by decide)];refine wpAny_bind (m:=seqItems? (.ref p)) (wpAny_bind (wpAny_load (j _ _ ho) ?_));rw[hd];refine wpAny_pure (wpAny_pure ?_);show wpAny _ _ (holding [Value.ref q,.bool true] (dictSet D (.ref q) (.bool true))) _ _ f;refine wpAny_holding ?_;obtain⟨oD,es,ep,g1,g2,g3,g4,g5⟩:=X;refine wpAny_dictSet_heap (hsz:=hz) hr (Q _ j) ⟨oD,es,ep,g1,g2,g3,g4,λx hx=>Y8 i xs H x hx _ j,g5⟩ λh' Y sb=>?_;have Z:Ed h0 h':=λb u e=>sb.extBut b u (λg=>by rw[g,hD]at e;cases e) (j b u e);refine wpAny_pure ⟨plainId_quiet fU _,ih (i+1) _ _ (by omega) lt (W.frame _ f _ _ B (Nat.le_add_right _ _) λb g o e=>?_) Z (let⟨a1,a2,a3,a4,a5,a6,a7,_,a8⟩:=Y;⟨a1,a2,a3,a4,a5,a6,a7,a8⟩) U λae C F a b c=>?_⟩;.rw[sb.2 b (λh:b=D=>t (by rw[<-h];exact g))];exact e
   .refine N ae C (Moved.trans W.gtrans ((l.mono sub).then_heap (Nat.le_add_right _ _) λb o g e=>?_) F) a b c;rw[sb.2 b (λh:b=D=>g (by rw[h];exact .head _))];exact e
theorem oF{l:Addr}{a:Array Value}{m:Nat}{Q:Value->Shared->Prop}{Rl:Nat->List (κ×Addr×Value)->Prop}(X:A.handled=none){y:Obj}(f:s.heap.get? l=some y)(B:y.cls=.type "list")(C:y.dict=none)(Y:y.data=.seq a m)(hr:knd.room A.in1.in1)(G:∀i xs v,i<a.size->a[i]?=some v->Rl i xs->∃p q k o m,v=.ref p/\s.heap.get? p=some o/\o.cls=.type "tuple"/\o.data=.seq #[.ref q,.bool true] m/\(∀h,Ed s.heap h->knd.is h k q)/\Rl (i+1) (storedH xs k q (.bool true))/\xs.length<=sizeLine)(Y8:∀i xs,Rl i xs->∀x∈xs,∀h,Ed s.heap h->knd.is h x.1 x.2.1)(Qd:Rl 0 [])(h:∀h' Z xs,DX knd h' s.heap.objs.size xs->Ed s.heap h'->Rl a.size xs->Q (.ref s.heap.objs.size) {s with heap:=h',toks:=Z}):wpAny (model prog w) A (call (.type "dict") [.ref l]) Q E s:=by
 refine callType_codes (Q₁:=λobj c=>obj=.ref s.heap.objs.size/\c={s with heap:=s.heap.push {cls:=.type "dict",data:=.dict #[]}}) PySem.F.kt_called_dict (PySem.F.kt_typeCall_dict_1 _) PySem.F.entry_dict_init (kt_code_dict_new _ ⟨rfl,rfl⟩) ?_;rintro obj c⟨rfl,rfl⟩;generalize hH:s.heap.push {cls:=.type "dict",data:=.dict #[]}=g;have hD:g.get? s.heap.objs.size=some {cls:=.type "dict",data:=.dict #[]}:=by rw[<-hH];exact get?_push_size _ rfl
 have j:Ed s.heap g:=λb u e=>by rw[<-hH];exact iG e
 have H:l≠s.heap.objs.size:=ne_of_lt (lt_size f);have hT:Shared.TypeIs {s with heap:=g} (.ref s.heap.objs.size) "dict":=⟨_,hD,rfl⟩;refine⟨hT,PySem.F.args_dict_init_2 _ _,?_⟩;unfold Builtin.«dict.__init__»;refine wpAny_bind ?_;unfold Builtin.Dict.selfAndRest;refine wpAny_bind (wpAny_notOrdered_dict hT ?_);show wpAny _ _ (pure (s.heap.objs.size,[Value.ref l])) _ _ _;refine wpAny_pure ?_;show wpAny _ _ (Builtin.Dict.updateFrom "dict.__init__" s.heap.objs.size (.ref l) [] .none) _ _ _;unfold Builtin.Dict.updateFrom;refine wpAny_bind (wpAny_typeOf (show Shared.TypeIs {s with heap:=g} (.ref l) "list"from⟨_,j _ _ f,B⟩) ?_);rw[if_pos (by decide)];refine wpAny_bind (yX (s:={s with heap:=g}) (by simp[X]) (j _ _ f) B Y C λn Z z=>?_);simp only[Option.isNone_none,if_true];have r:n.IsList l a:=⟨_,z _ _ (j _ _ f),B,m,Y⟩;have t:=z _ _ hD;have hsz:s.heap.objs.size<n.objs.size:=lt_size t;have I:l<n.objs.size:=lt_size (z _ _ (j _ _ f));refine wpAny_bind (wpAny_rule ?_);refine wpAny_bind (wpAny_pyIter_list r ?_);have J:A.in1.in1.handled=none:=by simp[X]
 have L:s.heap.objs.size<=n.objs.size:=le_of_lt hsz;have nw:∀b,s.heap.objs.size<=b->s.heap.get? b=none:=λb hb=>by cases e:s.heap.get? b with|none=>rfl|some u=>exact absurd (lt_size e) (Nat.not_lt.mpr hb)
 have W:=(Walks.list (prog:=prog) (w:=w) J n.objs.size l (ne_of_lt I) a).toS;refine wpAny_pure ⟨plainId_quiet fU _,?_⟩;refine yV (A:=A.in1) W s.heap.objs.size (λhb=>?_) (h0:=s.heap) (nw _ (cH)) (λb hb=>?_) hr (λi xs v hi hP=>G i xs v hi hP) Y8 (a.size-0) 0 _ [] (by omega) (vZ) ⟨⟨_,get?_push_size _ rfl,rfl,rfl⟩,r.push _⟩ (λb u e=>iG (z _ _ (j _ _ e))) ⟨_,#[],0,iG t,⟨rfl,rfl,rfl⟩,rfl,rfl,List.nodup_nil⟩ Qd λs' M N hX hk hR=>?_
 . simp only[mem_cons,not_mem_nil,or_false]at hb;rcases hb with hb|hb;.exact absurd hb (ne_of_lt hsz)
   .exact H hb.symm
 .simp only[mem_cons,not_mem_nil,or_false]at hb;subst hb;exact nw _ L
 .obtain⟨h',g',d',O,U⟩:=s';have eg:g'=s.gens:=N.gens;have ed:d'=s.drawn:=N.drawn;have eo:U=s.os:=N.os;subst eg;subst ed;subst eo;exact⟨rfl,h h' O M hX hk hR⟩
end
end HH
end
section
namespace HH
open PySem L2 PySem.Spec PyProof.Rows PySem.Calls PySem.W
theorem Yg{K:PySem.W.Frag}{F H:Hp}{Q:VK}{p:Addr}{f:Obj}{m:Dc}(s:aK F H)(c:H p=none)(k:∀v h g,Ext F H h g->cA K h g H v (.val (.cX m))->Q v g):Q (.ref p) (upd H p (.eG f m.ho)):=by
 have j:F p=none:=by cases q:F p with|none=>rfl|some o=>rw[s p o q]at c;cases c
 refine k _ (upd F p (.eG f m.ho)) _ ⟨aK.cY c,aK.cY j,λb o e=>?_,λb n i=>?_⟩ ?_
 . by_cases a:b=p;.subst a;rw[aR]at e ⊢;exact e
   .rw[aC a]at e ⊢;exact s b o e
 . by_cases a:b=p;.rw[a];exact jQ c
   .rw[aC a]at i;exact absurd n i
 .show Rep K _ _ (.cX m);rw[Rep];exact⟨p,f,rfl,aR⟩
theorem xN{ks:List (List Int)}:∀{acc:List (List Int)},(ks.foldl stK acc).length<=acc.length+ks.length:=by induction ks with|nil=>intro acc;simp|cons k ks a=>
   intro acc;have h:=a (acc:=stK acc k);have:(stK acc k).length<=acc.length+1:=by unfold stK;split<;>simp
   simp only[foldl_cons,length_cons];omega
theorem wQ{c g:Type}{f:c->Option g}:∀{l:List c}{r:List g},l.mapM f=some r->r.length=l.length/\∀(i:Nat)(a:c),l[i]?=some a->∃b,r[i]?=some b/\f a=some b|[],r,h=>by cases h;exact⟨rfl,λi a e=>by simp at e⟩|x::l,r,h=>by rw[mapM_cons]at h;obtain⟨b,h1,j⟩:=fB h;obtain⟨q,k,m⟩:=fB j;cases m;obtain⟨n,o⟩:=wQ k;refine⟨by simp[n],λi a e=>?_⟩;cases i with|zero=>simp at e;subst e;exact⟨b,rfl,h1⟩|succ i=>simpa using o i a (by simpa using e)
theorem Ao{d:D}{k:List Int}(h:Pa d=some k):∃a,d=.tup [.tup a,.bl true]/\gZ (.tup a)=true/\k=a.map cJ:=by
 unfold Pa at h;split at h;.obtain⟨h1,b⟩:=bL h;exact⟨_,rfl,h1,b.symm⟩
 .cases h
section
variable{X:Cx}{c:Call}{n:Nat}{a b e:Expr}{pa pb p:P}{pos:Pos}
theorem GC(nt:Fx X.K)(hc:X.calm=true)(hu:X.A.units+8<cLine):dm X (.type "dict") (El X.K λx=>blt .qF [x]):=by rintro ap s σ H xs us Q I r⟨x,hx,F,d,r',L,px,he,k⟩;cases d with|lst O=>
   have he:(if O.length<lim then(O.mapM Pa).map λks=>R.val (.cX (.s (ks.foldl stK [])))else none)=some r':=he;split at he;case isFalse=>cases he
   rename_i hl;obtain⟨ks,e1,e2⟩:=map_some he;subst e2;obtain⟨l,vs,rfl,M,hr⟩:=px.lst L;subst hx;obtain⟨u,rfl,rx⟩:=r.one;cases rx;obtain⟨B,rv,⟨ol,m,g1,g2,g3,g4⟩,hz⟩:=I.list M;obtain⟨kl,U⟩:=wQ e1;have f:B.toArray.size=ks.length:=by rw[size_toArray,<-rv.length,hr.length,kl]
   have big:=I.big;have hh:X.A.handled=none:=by have:=I.ok.hd hc;simpa using this
   have ar:sizeLine=16777216:=rfl;refine oF (knd:=tupleKind (bZ X.prog X.w)) (Rl:=λi xs=>KT H (((ks.take i).foldl stK []).map zG) xs) hh g1 g2 g3 g4 (tupleKind_room_in1 (A:=X.A.in1) (by simp;omega)) (λi xs v hi W j=>?_) (λi xs j x hx h Y=>?_) .nil λh' tk xs hX Y j=>?_
   . have W:B[i]?=some v:=by simpa using W
     have C:i<O.length:=by rw[<-kl,<-f];exact hi
     obtain⟨kk,q1,q2⟩:=U i _ (List.getElem?_eq_getElem C);obtain⟨w,w1,Z⟩:=hr.get (List.getElem?_eq_getElem C);obtain⟨y,e3,ae,rfl⟩:=Ao q2;obtain⟨ho,i0,r0,af⟩:=Bx ae;rw[e3]at Z;rw[Rep]at Z;obtain⟨p,ys,rfl,hp,g⟩:=Z;rw[aF]at g;obtain⟨z1,zr,rfl,z2,g⟩:=g;rw[aF]at g;obtain⟨z4,aE,rfl,z5,g⟩:=g;rw[aF]at g;subst g;rw[Rep]at z2;rw[Rep]at z5;obtain⟨q,zs,rfl,ag,z6⟩:=z2;subst z5;obtain⟨u,E,ah⟩:=rv.get w1;rw[W]at E;cases E;cases(show v=Value.ref p from ah);obtain⟨aw,HJ,⟨o,o1,o2,o3,o4⟩,_⟩:=I.tuple (aK.eZ L hp);obtain⟨y1,y2,rfl,ai,am⟩:=HJ.two;cases(show y1=Value.ref q from ai);cases(show y2=Value.bool true from am);have rd:Rd H q (.tup (((y.map cJ).map Sum.inl:List Key).map kV)):=by rw[rm,<-nQ z6 ho];exact nt.rd (aK.eZ L ag) (by rw[nQ z6 ho,af])
     refine⟨p,q,(y.map cJ).map Sum.inl,o,o3,rfl,o1,o2,o4,λh kp=>rE (I.hok.kept kp) rd,?_,?_⟩
     . show KT H (((ks.take (i+1)).foldl stK []).map zG) _;have:ks.take (i+1)=ks.take i++[y.map cJ]:=by rw[List.take_add_one,q1];rfl
       rw[this,List.foldl_append];show KT H ((stK ((ks.take i).foldl stK []) (y.map cJ)).map zG) _;rw[<-BP];exact KT.put j _ rd rfl
     .have h1:=Paired.length j;have N:=xN (ks:=ks.take i) (acc:=[]);rw[length_map]at h1;rw[length_take]at N;simp only[length_nil]at N;have h3:lim=16777216:=rfl;omega
   . have all:∀{G:List (List Key×V)}{m:List (List Key×Addr×Value)},KT H G m->∀x∈m,(tupleKind (bZ X.prog X.w)).is h x.1 x.2.1:=by intro G m q;induction q with|nil=>intro x hx;exact nomatch hx|@cons p q ps qs M t ih=>
        intro x hx;rcases mem_cons.mp hx with e|hx;.subst e;exact rE (I.hok.kept Y) (by rw[<-M.1];exact M.2.1)
        .exact ih x hx
     exact all j x hx
   .obtain⟨ob,y,ep,b1,b2,b3,b4,b5⟩:=hX;have hsz:s.heap.objs.size<=s.heap.objs.size:=cH;rw[f,List.take_length]at j;have J:H s.heap.objs.size=none:=I.hok.fresh hsz;have N:=xN (ks:=ks) (acc:=[]);simp only[length_nil]at N;have h3:lim=16777216:=rfl;refine⟨.ref s.heap.objs.size,_,I.laid (t':=tk) (o:=.eG ob (Dc.s (ks.foldl stK [])).ho) Y hsz ⟨b1,?_⟩,rfl,Yg L J k⟩;refine⟨by rw[length_map];omega,beq_eq_false_iff_ne.mpr (Ne.symm (ne_of_lt big)),xs,KT.keeps j λb ys q=>q.map λo _ q=>?_,ob,y,ep,b1,b2,b3,b4,b5⟩;rw[aC (λz=>by rw[z,J]at q;cases q)];exact q|_=>cases he
end
theorem boot_dict:bootBuiltins "dict"=some (.type "dict"):=by decide+kernel
section
variable{X:Cx}{c:Call}{a:Expr}{pa:P}{pos:Pos}
theorem sH{x:Str}{b:Pos}(e:x="dict")(nt:Fx X.K)(hc:X.calm=true)(f:X.A.units+8<cLine)(g:Gl X x)(i:X.mg x=none)(j:SX X c a pa)(hs:starEach [a] X.env=(false,eval a X.env)::starEach [] X.env:=by rfl):SX X c (.Call (.Name x b) [a] [] pos) (.blt .qF [pa]):=by subst e;exact lN (λh=>kh (GC nt hc f) g i boot_dict h (he:=hs)) j (λρ=>rfl) rfl hs
end
end HH
end
noncomputable section
set_option maxHeartbeats 4000000
namespace T
open PySem L2 PySem.Spec PyProof.Rows HH
local macro_rules|`(term|⇑$n)=>`(P.con (.int $n))
local macro_rules|`(term|↑$n)=>`(P.var $n)
local macro_rules|`(tactic|ac_rfl)=>`(tactic|first|exact Or.inl rfl|exact Or.inr (Or.inl rfl))
set_option hygiene false
local macro_rules|`(term|↥($a,$b,$d))=>`(lz Pg w K mg base Af (k+1) f fd $a (GR K $b (λargs=>enter c n $d args)))
local macro_rules|`(term|↥($a,$b,$d,0))=>`(bO Pg w K mg base k c $a $b $d)
set_option hygiene true
local macro_rules|`(term|⇑($x))=>`(λ_ _ _ _ _=>$x)
local macro_rules|`(term|nofun)=>`(⟨rfl,rfl,rfl,by decide+kernel,rfl,by decide+kernel,by decide+kernel⟩)
local macro_rules|`(tactic|exists$e)=>`(tactic|with_reducible refine$e)
local macro_rules|`(tactic|lia)=>`(tactic|with_reducible refine bJ ?_ ?_)
set_option hygiene false
local macro_rules|`(tactic|exists$i,$e)=>`(tactic|((with_reducible refine oR (i:=$i) ?_ ?_ ?_ ?_ ?_ ?_);exact nd;exact rfl;exact oi;rotate_left;rfl;exact oi;exact$e))
local macro_rules|`(tactic|exists$i,$e,0)=>`(tactic|((with_reducible refine xg (i:=$i) ?_ ?_ ?_ ?_ ?_ ?_ ?_ ?_ ?_);exact PassesOwn.never;exact hc;exact nd;exact rfl;exact oi;exact$e;rotate_left;(· intro _;rfl);exact oi))
local macro_rules|`(tactic|exists$a,$b,0,0)=>`(tactic|(refine RV $a $b rfl rfl λcdv A outer s H E hr=>?_;have nd:=($b).nd))
local macro_rules|`(tactic|exists(),$e)=>`(tactic|((with_reducible refine Ko ?_);exact$e))
set_option hygiene true
local macro_rules|`(term|‹$l›)=>`((show(($l):List Str).Nodup by decide+kernel))
theorem hc:true=true:=rfl
theorem oi{b:Type}{a:b}{p:Prop}:a=a\/p:=.inl rfl
theorem bf{X:Cx}{c:Call}{a:Expr}{b:List Expr}{e:P}{ps:List P}(f:SX X c a e)(hr:SG X c b ps)(h:VH a=true):SG X c (a::b) (e::ps):=Et f hr (gP h)
theorem bN{X:Cx}{c:Call}{a:Expr}{b:List Expr}{e:P}{ps:List P}(f:SX X c a e)(hr:SA X c b ps)(h:VH a=true):SA X c (a::b) (e::ps):=mL f hr (gP h)
variable{Pg:Program}{w:World}{K:PySem.W.Frag}{mg:Str->Option Value}{base:Heap}{f:Addr}{fd:FuncData}{k n:Nat}{c:Call}{cl:Nat->Addr}
noncomputable def top(i:Nat):Stmt:=PySem.Challenge.pw_hourhaul_k63_lit_pairs_added.main.body.getD i (.Pass ⟨0,0,0,0⟩)
abbrev s0:Stmt:=top 1
noncomputable def b0:List S:=[.ret (.blt .all [.comp (.zip ↑0 (.slice ↑0 ⇑1 (.con .non))) 2 [1,2] false none (.cmp .lt ↑1 ↑2)])]
def f0:Fd:=⟨1,1,b0⟩
theorem sc0:aY ["things"] ["things"] (aH s0):=nofun
include cl in
theorem d0(a:lF K "is_rising" "is_rising" s0 f fd)(iT:mg "all"=none)(qG:mg "zip"=none):↥(["things"],1,f0):=by
 exists a,sc0,0,0;refine bJ ?_ ?_;.exists(),rN rfl hc (by rfl) iT (fM (N':=["things","one","other"]) hc (Eh rfl (by rfl)) (Bk rfl (by rfl) qG (sv 0) (cD (sv 0) (cN aa) dH)) ⇑(dM hc (aB (aA (i:=1) ‹["things","one","other"]› rfl (Or.inl rfl) (Or.inr rfl)) (aB (aA (i:=2) ‹["things","one","other"]› rfl (Or.inl rfl) (Or.inr rfl)) cP))) (xx rfl (jN (show 1<=1 by decide) (jN (show 1<=2 by decide) wY))) ⇑(dO) ⇑((jA (iK (aX hr)) (sv 1) (sv 2) (aW _))))
 exact au
abbrev s1:Stmt:=top 3
noncomputable def b1:List S:=[.ret (.or (.cmp .eq ↑3 (.idx ↑0 ⇑1)) (.or (.cmp .uN (.idx (.idx ↑0 ⇑4) ↑2) (.con .non)) (.bin .sin (.tup [↑2,.bin .add ↑3 ⇑1]) ↑1)))]
def f1:Fd:=⟨4,4,b1⟩
theorem sc1:aY ["calendar","shown","place","hour"] ["calendar","shown","place","hour"] (aH s1):=nofun
include cl in
theorem d1(a:lF K "stays_lit" "stays_lit" s1 f fd):↥(["calendar","shown","place","hour"],4,f1):=by
 exists a,sc1,0,0;refine bJ ?_ ?_;.exists(),Cp (jA (kE (aX hr)) (sv 3) (aM (sv 0) aa) (aW _)) (Cp (jA mK (aM (aM (sv 0) aa) (sv 2)) eY (aW _)) (mG (qW (aX hr) (bj (bN (sv 2) (bN (aj aq (sv 3) aa) aG rfl) rfl)) (sv 1) (by with_unfolding_all rfl)))).ev
 exact au
abbrev s2:Stmt:=top 4
noncomputable def b2:List S:=[.ifs (.or (.not (.chain .le .lt ⇑0 ↑2 (.bin .sub (.idx ↑0 ⇑0) ⇑1))) (.not (.chain .le .le ⇑0 ↑3 (.idx ↑0 ⇑1)))) [.ret (.con (.bl false))] [],.ret (.call 1 [↑0,↑1,↑2,↑3])]
def f2:Fd:=⟨4,4,b2⟩
theorem sc2:aY ["calendar","shown","place","hour"] ["calendar","shown","place","hour"] (aH s2):=nofun
include cl in
theorem d2(a:lF K "is_lit_pair" "is_lit_pair" s2 f fd)(b:↥(1,"stays_lit",4,0)):↥(["calendar","shown","place","hour"],4,f2):=by
 exists a,sc2,0,0;refine bJ ?_ ?_;.exists cZ ?_ ?_ ?_;exact SW.st (jj (lg (sS wg (iK (aX hr)) aa (sv 2) (aj cQ (aM (sv 0) aa) aa))) (j7 (lg (sS wg wg aa (sv 3) (aM (sv 0) aa)))));(· lia;(· exists(),jk);exact au);exact au
 lia;.exists(),gA b hr (bf (sv 0) (bf (sv 1) (bf (sv 2) (bf (sv 3) aO rfl) rfl) rfl) rfl)
 exact au
abbrev s3:Stmt:=top 5
noncomputable def b3:List S:=[.ifs (.or (.not (.call 0 [↑1])) (.not (.blt .all [.comp (.mV ⇑0 (.bin .add (.idx ↑0 ⇑1) ⇑1)) 1 [3] true none (.bin .sin (.tup [⇑0,↑3]) ↑2)]))) [.ret (.con (.bl false))] [],.ret (.blt .all [.comp ↑1 2 [3,4] false none (.call 2 [↑0,↑2,↑3,↑4])])]
def f3:Fd:=⟨3,3,b3⟩
theorem sc3:aY ["calendar","lit","shown"] ["calendar","lit","shown"] (aH s3):=nofun
include cl in
theorem d3(a:lF K "are_lit" "are_lit" s3 f fd)(iT:mg "all"=none)(aN:mg "range"=none)(b:↥(2,"is_lit_pair",4,0))(e:↥(0,"is_rising",1,0)):↥(["calendar","lit","shown"],3,f3):=by
 exists a,sc3,0,0;refine bJ ?_ ?_;.exists cZ ?_ ?_ ?_;exact SW.st (jj (lg (fY (gA e hr (bf (sv 1) aO rfl)))) (j7 (lg (fY (rN rfl hc (by rfl) iT (fM (N':=["calendar","lit","shown","hour"]) hc (Eh rfl (by rfl)) (cO rfl (by rfl) aN (aj aq (aM (sv 0) aa) aa)) ⇑(aA (i:=3) ‹["calendar","lit","shown","hour"]› rfl (Or.inl rfl) (Or.inr rfl)) (dX (cH)) ⇑(dO) ⇑((qW (aX hr) (bj (bN aa (bN (sv 3) aG rfl) rfl)) (sv 2) (by with_unfolding_all rfl)))))))));(· lia;(· exists(),jk);exact au);exact au
 lia;.exists(),rN rfl hc (by rfl) iT (fM (N':=["calendar","lit","shown","place","hour"]) hc (Eh rfl (by rfl)) (gR (sv 1)) ⇑(dM hc (aB (aA (i:=3) ‹["calendar","lit","shown","place","hour"]› rfl (Or.inl rfl) (Or.inr rfl)) (aB (aA (i:=4) ‹["calendar","lit","shown","place","hour"]› rfl (Or.inl rfl) (Or.inr rfl)) cP))) (xx rfl (jN (show 3<=3 by decide) (jN (show 3<=4 by decide) wY))) ⇑(dO) ⇑((gA b hr (bf (sv 0) (bf (sv 2) (bf (sv 3) (bf (sv 4) aO rfl) rfl) rfl) rfl))))
 exact au
abbrev s4:Stmt:=top 6
noncomputable def b4:List S:=[.ret (.and (.bin .sin ↑1 ↑0) (.bin .uM ↑2 ↑0))]
def f4:Fd:=⟨3,3,b4⟩
theorem sc4:aY ["shown","here","there"] ["shown","here","there"] (aH s4):=nofun
include cl in
theorem d4(a:lF K "goes_out" "goes_out" s4 f fd):↥(["shown","here","there"],3,f4):=by
 exists a,sc4,0,0;refine bJ ?_ ?_;.exists(),Dk (qW (aX hr) (sv 1) (sv 0) (by with_unfolding_all rfl)) (mG (Er (aX hr) (sv 2) (sv 0) (by with_unfolding_all rfl)))
 exact au
abbrev s5:Stmt:=top 7
noncomputable def b5:List S:=[.asg 2 ⇑0,.fJ (.zip (.idx ↑0 ⇑2) (.idx ↑0 ⇑3)) [3,4] false [.fJ (.mV ⇑0 (.bin .add (.bin .sub (.idx ↑0 ⇑1) (.idx ↑3 ⇑2)) ⇑1)) [5] true [.ifs (.call 4 [↑1,.tup [.idx ↑3 ⇑0,↑5],.tup [.idx ↑3 ⇑1,.bin .add ↑5 (.idx ↑3 ⇑2)]]) [.aug 2 false (.idx ↑4 ↑5)] []]],.ret ↑2]
def f5:Fd:=⟨2,6,b5⟩
theorem sc5:aY ["calendar","shown","total","way","rooms","hour"] ["calendar","shown"] (aH s5):=nofun
include cl in
theorem d5(a:lF K "ways_out_sum" "ways_out_sum" s5 f fd)(aN:mg "range"=none)(qG:mg "zip"=none)(b:↥(4,"goes_out",3,0)):↥(["calendar","shown"],2,f5):=by
 exists a,sc5,0,0;refine bJ ?_ ?_;.exists 2,aa
 lia;.exact(lu PassesOwn.never hc (Bk rfl (by rfl) qG (aM (sv 0) aa) (aM (sv 0) aa)) (dM hc (aB (aA (i:=3) nd rfl oi oi) (aB (aA (i:=4) nd rfl oi oi) cP))) (fc rfl (aL _ _ (aL _ _ dC 4) 3)) (by lia;(· exists 5,cO rfl (by rfl) aN (aj aq (aj cQ (aM (sv 0) aa) (aM (sv 3) aa)) aa),0;(· lia;(· exists cZ ?_ ?_ ?_;exact fY (gA b hr (bf (sv 1) (bf (bj (bN (aM (sv 3) aa) (bN (sv 5) aG rfl) rfl)) (bf (bj (bN (aM (sv 3) aa) (bN (aj aq (sv 5) (aM (sv 3) aa)) aG rfl) rfl)) aO rfl) rfl) rfl));(· lia;exact Bs (i:=2) (sub:=false) xr nd rfl oi (aM (sv 4) (sv 5)) (Or.inl rfl);exact au);exact au);exact au));exact au))
 lia;.exists(),sv 2
 exact au
abbrev s6:Stmt:=top 8
noncomputable def b6:List S:=[.asg 2 ⇑0,.fJ (.PB (.idx ↑0 ⇑4)) [3,4] false [.ifs (.cmp .uN ↑4 (.con .non)) [.fJ (.PB ↑4) [5,6] false [.ifs (.call 4 [↑1,.tup [↑3,↑5],.tup [↑3,.bin .add ↑5 ⇑1]]) [.aug 2 false ↑6] []]] []],.ret ↑2]
def f6:Fd:=⟨2,7,b6⟩
theorem sc6:aY ["calendar","shown","total","place","waits","hour","room"] ["calendar","shown"] (aH s6):=nofun
include cl in
theorem d6(a:lF K "waits_out_sum" "waits_out_sum" s6 f fd)(fX:mg "enumerate"=none)(b:↥(4,"goes_out",3,0)):↥(["calendar","shown"],2,f6):=by
 exists a,sc6,0,0;refine bJ ?_ ?_;.exists 2,aa
 lia;.exact(lu PassesOwn.never hc (Bv rfl (by rfl) fX (aM (sv 0) aa)) (dM hc (aB (aA (i:=3) nd rfl oi oi) (aB (aA (i:=4) nd rfl oi oi) cP))) (fc rfl (aL _ _ (aL _ _ dC 4) 3)) (by lia;(· exists cZ ?_ ?_ ?_;exact bU mK (sv 4) eY (aW _);(· lia;exact lu PassesOwn.never hc (Bv rfl (by rfl) fX (sv 4)) (dM hc (aB (aA (i:=5) nd rfl oi oi) (aB (aA (i:=6) nd rfl oi oi) cP))) (fc rfl (aL _ _ (aL _ _ dC 6) 5)) (by lia;(· exists cZ ?_ ?_ ?_;exact fY (gA b hr (bf (sv 1) (bf (bj (bN (sv 3) (bN (sv 5) aG rfl) rfl)) (bf (bj (bN (sv 3) (bN (aj aq (sv 5) aa) aG rfl) rfl)) aO rfl) rfl) rfl));(· lia;exact Bs (i:=2) (sub:=false) xr nd rfl oi (sv 6) (Or.inl rfl);exact au);exact au);exact au);exact au);exact au);exact au))
 lia;.exists(),sv 2
 exact au
abbrev s7:Stmt:=top 9
noncomputable def b7:List S:=[.DK 2,.fJ ↑1 [3] true [.zK 2 3],.ifs (.not (.call 3 [↑0,↑1,.vw 2])) [.ret (.con .non)] [],.ret (.bin .add (.call 5 [↑0,.vw 2]) (.call 6 [↑0,.vw 2]))]
def f7:Fd:=⟨2,4,b7⟩
theorem sc7:aY ["calendar","lit","shown","pair"] ["calendar","lit"] (aH s7):=nofun
include cl in
theorem d7(a:lF K "lit_sum" "lit_sum" s7 f fd)(b:↥(3,"are_lit",3,0))(e:↥(6,"waits_out_sum",2,0))(g:↥(5,"ways_out_sum",2,0))(NL:Fx K):↥(["calendar","lit"],2,f7):=by
 exists a,sc7,0,0;refine bJ ?_ ?_;.exact(Fg (i:=2) nd rfl oi (by rfl) (Or.inl rfl))
 lia;.exists 3,gR (sv 1),0;(· lia;exact Gi (i:=2) (k:=3) NL (aX hr) rfl (by ac_rfl) rfl (by ac_rfl) (by rfl);exact au)
 lia;.exists cZ ?_ ?_ ?_;exact lg (fY (gA b hr (bf (sv 0) (bf (sv 1) (bf (Du (i:=2) rfl (by ac_rfl)) aO rfl) rfl) rfl)));(· lia;(· exists(),eY);exact au);exact au
 lia;.exists(),aj aq (gA g hr (bf (sv 0) (bf (Du (i:=2) rfl (by ac_rfl)) aO rfl) rfl)) (gA e hr (bf (sv 0) (bf (Du (i:=2) rfl (by ac_rfl)) aO rfl) rfl))
 exact au
abbrev s8:Stmt:=top 11
noncomputable def b8:List S:=[.asg 2 (.slice ↑0 (.con .non) ⇑63),.ifs (.cmp .eq ↑2 (.lst [])) [.asg 2 (.lst [⇑0])] [],.asg 3 (.comp ↑2 1 [9] true none (.blt .abs [↑9])),.asg 4 (.lst []),.fJ (.mV ⇑0 ↑1) [5] true [.asg 6 (.bin .mod ↑5 (.blt .len [↑2])),.ifs (.and (.cmp .ge (.blt .abs [.idx ↑2 ↑6]) (.bin .pow ⇑10 ⇑18)) (.cmp .gt (.idx ↑3 ↑6) ⇑0)) [.app 4 (.bin .mod (.idx ↑3 ↑6) (.bin .pow ⇑10 ⇑6)),.Hy 3 ↑6 (.bin .fdiv (.idx ↑3 ↑6) (.bin .pow ⇑10 ⇑6))] [.asg 7 (.bin .add (.bin .add (.bin .mul (.bin .mul ⇑977 ↑5) ↑5) (.bin .mul ⇑131 ↑5)) ⇑1),.asg 8 (.bin .mod (.bin .add (.bin .mul (.bin .mod (.idx ↑2 ↑6) ⇑1000000007) ⇑48271) ↑7) ⇑2147483647),.asg 8 (.bin .mod (.bin .mul ↑8 ↑8) ⇑2147483647),.app 4 (.bin .mod (.bin .fdiv (.bin .mod (.bin .mul (.bin .add ↑8 (.bin .mul ⇑40692 (.bin .add ↑5 ⇑3))) ⇑69621) ⇑2147483629) ⇑8) (.bin .pow ⇑10 ⇑6))]],.ret ↑4]
def f8:Fd:=⟨2,9,b8⟩
theorem sc8:aY ["script","many","cells","left","found","k","at","step","mixed"] ["script","many"] (aH s8):=nofun
include cl in
theorem d8(a:lF K "_law_all" "_law_all" s8 f fd)(yo:mg "abs"=none)(dI:mg "len"=none)(aN:mg "range"=none):↥(["script","many"],2,f8):=by
 exists a,sc8,0,0;refine bJ ?_ ?_;.exists 2,cD (sv 0) dH (cN aa)
 lia;.exists cZ ?_ ?_ ?_;exact bU (kE (aX hr)) (sv 2) (cL aG) (aW _);(· lia;(· exists 2,cL (bN aa aG rfl));exact au);exact au
 lia;.exact(wO (i:=3) (N':=["script","many","cells","left","found","k","at","step","mixed","cell"]) hc nd rfl oi (Eh rfl (by rfl)) (gR (sv 2)) ⇑(aA (i:=9) ‹["script","many","cells","left","found","k","at","step","mixed","cell"]› rfl (Or.inl rfl) (Or.inr rfl)) (dX (cH)) ⇑(dO) ⇑((Cy rfl (by rfl) yo (sv 9))) (by rfl) (by intro _;rfl) (Or.inl rfl))
 lia;.exists 4,cL aG
 lia;.exists 5,cO rfl (by rfl) aN (sv 1),0;(· lia;(· exists 6,aj dD (sv 5) (iH rfl (by rfl) dI (sv 2)));(· lia;(· exists cZ ?_ ?_ ?_;exact SW.st (jC (bU LQ (Cy rfl (by rfl) yo (aM (sv 2) (sv 6))) (aj fV aa aa) (aW _)) (jF (bU oG (aM (sv 3) (sv 6)) aa (aW _))));(· lia;exact bG (k:=4) rfl (by ac_rfl) (aj dD (aM (sv 3) (sv 6)) (aj fV aa aa));(· lia;exact Gf (k:=3) rfl (by ac_rfl) (sv 6) (aj uw (aM (sv 3) (sv 6)) (aj fV aa aa));exact au));(· lia;(· exists 7,aj aq (aj aq (aj cR (aj cR aa (sv 5)) (sv 5)) (aj cR aa (sv 5))) aa);(· lia;(· exists 8,aj dD (aj aq (aj cR (aj dD (aM (sv 2) (sv 6)) aa) aa) (sv 7)) aa);(· lia;(· exists 8,aj dD (aj cR (sv 8) (sv 8)) aa);(· lia;exact bG (k:=4) rfl (by ac_rfl) (aj dD (aj uw (aj dD (aj cR (aj aq (sv 8) (aj cR aa (aj aq (sv 5) aa))) aa) aa) aa) (aj fV aa aa));exact au)))));exact au))
 lia;.exists(),sv 4
 exact au
abbrev s9:Stmt:=top 12
noncomputable def b9:List S:=[.ret (.bin .mod (.idx ↑0 (.bin .mod ↑1 (.blt .len [↑0]))) ↑2)]
def f9:Fd:=⟨3,3,b9⟩
theorem sc9:aY ["draws","at","many"] ["draws","at","many"] (aH s9):=nofun
include cl in
theorem d9(a:lF K "_law_draw" "_law_draw" s9 f fd)(dI:mg "len"=none):↥(["draws","at","many"],3,f9):=by
 exists a,sc9,0,0;refine bJ ?_ ?_;.exists(),aj dD (aM (sv 0) (aj dD (sv 1) (iH rfl (by rfl) dI (sv 0)))) (sv 2)
 exact au
abbrev pg:Stmt:=top 13
noncomputable def b10:List S:=[.asg 3 (.idx (.lst [⇑0,⇑1,⇑2,⇑3,⇑1,⇑2,⇑5,⇑9]) (.call 9 [↑0,↑1,⇑8])),.ifs ↑2 [.ret (.blt .min2 [.bin .pow ⇑10 ⇑9,.bin .add (.bin .mul ↑3 ⇑333333333) (.call 9 [↑0,.bin .add ↑1 ⇑1,.bin .pow ⇑10 ⇑6])])] [],.ret ↑3]
def UJ:Fd:=⟨3,4,b10⟩
theorem XC:aY ["draws","at","wide","room"] ["draws","at","wide"] (aH pg):=nofun
include cl in
theorem d10(b:lF K "_law_room" "_law_room" pg f fd)(jm:mg "min"=none)(a:↥(9,"_law_draw",3,0)):↥(["draws","at","wide"],3,UJ):=by
 exists b,XC,0,0;refine bJ ?_ ?_;.exists 3,aM (cL (wK [0,1,2,3,1,2,5,9] rfl aG)) (gA a hr (bf (sv 0) (bf (sv 1) (bf aa aO rfl) rfl) rfl))
 lia;.exists cZ ?_ ?_ ?_;exact fY (sv 2);(· lia;(· exists(),mU rfl hc (by rfl) jm (bN (aj fV aa aa) (bN (aj aq (aj cR (sv 3) aa) (gA a hr (bf (sv 0) (bf (aj aq (sv 1) aa) (bf (aj fV aa aa) aO rfl) rfl) rfl))) aG rfl) rfl));exact au);exact au
 lia;.exists(),sv 3
 exact au
abbrev lM:Stmt:=top 14
noncomputable def b11:List S:=[.asg 3 (.call 9 [↑0,↑1,↑2]),.asg 4 (.bin .mod (.bin .add (.bin .add ↑3 ⇑1) (.call 9 [↑0,.bin .add ↑1 ⇑1,.bin .sub ↑2 ⇑1])) ↑2),.asg 5 (.bin .add ⇑1 (.call 9 [↑0,.bin .add ↑1 ⇑3,⇑3])),.ifs (.cmp .eq (.call 9 [↑0,.bin .add ↑1 ⇑4,⇑12]) ⇑0) [.asg 5 (.bin .add ⇑1 (.call 9 [↑0,.bin .add ↑1 ⇑5,.bin .pow ⇑10 ⇑6]))] [],.ifs (.cmp .gt (.call 9 [↑0,.bin .add ↑1 ⇑2,⇑3]) ⇑0) [.ret (.tup [.blt .min2 [↑3,↑4],.blt .max2 [↑3,↑4],↑5])] [],.ret (.tup [↑3,↑4,↑5])]
def f11:Fd:=⟨3,6,b11⟩
theorem Xw:aY ["draws","at","many","one","other","hours"] ["draws","at","many"] (aH lM):=nofun
include cl in
theorem d11(b:lF K "_law_road" "_law_road" lM f fd)(DQ:mg "max"=none)(jm:mg "min"=none)(a:↥(9,"_law_draw",3,0)):↥(["draws","at","many"],3,f11):=by
 exists b,Xw,0,0;refine bJ ?_ ?_;.exists 3,gA a hr (bf (sv 0) (bf (sv 1) (bf (sv 2) aO rfl) rfl) rfl)
 lia;.exists 4,aj dD (aj aq (aj aq (sv 3) aa) (gA a hr (bf (sv 0) (bf (aj aq (sv 1) aa) (bf (aj cQ (sv 2) aa) aO rfl) rfl) rfl))) (sv 2)
 lia;.exists 5,aj aq aa (gA a hr (bf (sv 0) (bf (aj aq (sv 1) aa) (bf aa aO rfl) rfl) rfl))
 lia;.exists cZ ?_ ?_ ?_;exact bU (kE (aX hr)) (gA a hr (bf (sv 0) (bf (aj aq (sv 1) aa) (bf aa aO rfl) rfl) rfl)) aa (aW _);(· lia;(· exists 5,aj aq aa (gA a hr (bf (sv 0) (bf (aj aq (sv 1) aa) (bf (aj fV aa aa) aO rfl) rfl) rfl)));exact au);exact au
 lia;.exists cZ ?_ ?_ ?_;exact bU oG (gA a hr (bf (sv 0) (bf (aj aq (sv 1) aa) (bf aa aO rfl) rfl) rfl)) aa (aW _);(· lia;(· exists(),bj (bN (mU rfl hc (by rfl) jm (bN (sv 3) (bN (sv 4) aG rfl) rfl)) (bN (Hl rfl hc (by rfl) DQ (bN (sv 3) (bN (sv 4) aG rfl) rfl)) (bN (sv 5) aG rfl) rfl) rfl));exact au);exact au
 lia;.exists(),bj (bN (sv 3) (bN (sv 4) (bN (sv 5) aG rfl) rfl) rfl)
 exact au
abbrev s12:Stmt:=top 15
noncomputable def b12:List S:=[.asg 5 (.bin .add ⇑2 (.call 9 [↑0,↑1,.bin .sub ↑2 ⇑1])),.asg 6 (.blt .min2 [↑3,.call 9 [↑0,.bin .add ↑1 ⇑1,.idx (.lst [⇑4,⇑7,.bin .add ↑3 ⇑1]) (.call 9 [↑0,.bin .add ↑1 ⇑4,⇑3])]]),.asg 7 (.cmp .eq (.call 9 [↑0,.bin .add ↑1 ⇑3,⇑6]) ⇑0),.asg 8 (.lst []),.asg 9 (.lst []),.asg 10 (.blt .min2 [↑4,.call 9 [↑0,.bin .add ↑1 ⇑2,.idx (.lst [⇑5,⇑8,.bin .add ↑4 ⇑1]) (.call 9 [↑0,.bin .add ↑1 ⇑5,⇑3])]]),.fJ (.mV ⇑0 ↑10) [11] true [.asg 12 (.bin .add (.bin .add ↑1 ⇑10) (.bin .mul ⇑20 ↑11)),.app 8 (.call 11 [↑0,↑12,↑5]),.app 9 (.blt .tuple [.comp (.mV ⇑0 (.bin .add ↑6 ⇑1)) 1 [16] true none (.call 10 [↑0,.bin .add (.bin .add ↑12 ⇑6) ↑16,↑7])])],.asg 13 (.lst [.con .non]),.fJ (.mV ⇑1 (.bin .sub ↑5 ⇑1)) [14] true [.asg 15 (.blt .tuple [.comp (.mV ⇑0 ↑6) 1 [16] true none (.call 10 [↑0,.bin .add (.bin .add (.bin .add ↑1 ⇑260) (.bin .mul ⇑13 ↑14)) ↑16,↑7])]),.app 13 (.idx (.lst [↑15,.con .non]) (.call 9 [↑0,.bin .add (.bin .add ↑1 ⇑340) ↑14,⇑2]))],.ret (.tup [↑5,↑6,.blt .tuple [↑8],.blt .tuple [↑9],.blt .tuple [.bin .add ↑13 (.lst [.con .non])]])]
def UT:Fd:=⟨5,16,b12⟩
theorem Yq:aY ["draws","at","places","hours","most","many","last","wide","roads","rooms","count","k","spot","waits","place","row"] ["draws","at","places","hours","most"] (aH s12):=nofun
include cl in
theorem d12(e:lF K "_law_calendar" "_law_calendar" s12 f fd)(jm:mg "min"=none)(aN:mg "range"=none)(gU:mg "tuple"=none)(a:↥(9,"_law_draw",3,0))(g:↥(11,"_law_road",3,0))(b:↥(10,"_law_room",3,0)):↥(["draws","at","places","hours","most"],5,UT):=by
 exists e,Yq,0,0;refine bJ ?_ ?_;.exists 5,aj aq aa (gA a hr (bf (sv 0) (bf (sv 1) (bf (aj cQ (sv 2) aa) aO rfl) rfl) rfl))
 lia;.exists 6,mU rfl hc (by rfl) jm (bN (sv 3) (bN (gA a hr (bf (sv 0) (bf (aj aq (sv 1) aa) (bf (aM (cL (bN aa (bN aa (bN (aj aq (sv 3) aa) aG rfl) rfl) rfl)) (gA a hr (bf (sv 0) (bf (aj aq (sv 1) aa) (bf aa aO rfl) rfl) rfl))) aO rfl) rfl) rfl)) aG rfl) rfl)
 lia;.exists oR (i:=7) ?_ ?_ ?_ ?_ ?_ ?_;exact nd;exact rfl;exact Or.inr rfl;rotate_left;rfl;exact oi;exact jA (kE (aX hr)) (gA a hr (bf (sv 0) (bf (aj aq (sv 1) aa) (bf aa aO rfl) rfl) rfl)) aa (aW _)
 lia;.exists 8,cL aG
 lia;.exists 9,cL aG
 lia;.exists 10,mU rfl hc (by rfl) jm (bN (sv 4) (bN (gA a hr (bf (sv 0) (bf (aj aq (sv 1) aa) (bf (aM (cL (bN aa (bN aa (bN (aj aq (sv 4) aa) aG rfl) rfl) rfl)) (gA a hr (bf (sv 0) (bf (aj aq (sv 1) aa) (bf aa aO rfl) rfl) rfl))) aO rfl) rfl) rfl)) aG rfl) rfl)
 lia;.exists 11,cO rfl (by rfl) aN (sv 10),0;(· lia;(· exists oR (i:=12) ?_ ?_ ?_ ?_ ?_ ?_;exact nd;exact rfl;exact Or.inr rfl;rotate_left;rfl;exact oi;exact aj aq (aj aq (sv 1) aa) (aj cR aa (sv 11)));(· lia;exact bG (k:=8) rfl (by ac_rfl) (gA g hr (bf (sv 0) (bf (sv 12) (bf (sv 5) aO rfl) rfl) rfl));(· lia;exact bG (k:=9) rfl (by ac_rfl) (iB rfl (by rfl) gU (fM (N':=["draws","at","places","hours","most","many","last","wide","roads","rooms","count","k","spot","waits","place","row","hour"]) hc (Eh rfl (by rfl)) (cO rfl (by rfl) aN (aj aq (sv 6) aa)) ⇑(aA (i:=16) ‹["draws","at","places","hours","most","many","last","wide","roads","rooms","count","k","spot","waits","place","row","hour"]› rfl (Or.inl rfl) (Or.inr rfl)) (dX (cH)) ⇑(dO) ⇑((gA b hr (bf (sv 0) (bf (aj aq (aj aq (sv 12) aa) (sv 16)) (bf (sv 7) aO rfl) rfl) rfl)))));exact au)))
 lia;.exists 13,cL (bN eY aG rfl)
 lia;.exists xg (i:=14) ?_ ?_ ?_ ?_ ?_ ?_ ?_ ?_ ?_;exact PassesOwn.never;exact hc;exact nd;exact rfl;exact Or.inr rfl;exact xR rfl (by rfl) aN aa (aj cQ (sv 5) aa);(· lia;(· exists 15,iB rfl (by rfl) gU (fM (N':=["draws","at","places","hours","most","many","last","wide","roads","rooms","count","k","spot","waits","place","row","hour"]) hc (Eh rfl (by rfl)) (cO rfl (by rfl) aN (sv 6)) ⇑(aA (i:=16) ‹["draws","at","places","hours","most","many","last","wide","roads","rooms","count","k","spot","waits","place","row","hour"]› rfl (Or.inl rfl) (Or.inr rfl)) (dX (cH)) ⇑(dO) ⇑((gA b hr (bf (sv 0) (bf (aj aq (aj aq (aj aq (sv 1) aa) (aj cR aa (sv 14))) (sv 16)) (bf (sv 7) aO rfl) rfl) rfl)))));(· lia;exact bG (k:=13) rfl (by ac_rfl) (aM (cL (bN (sv 15) (bN eY aG rfl) rfl)) (gA a hr (bf (sv 0) (bf (aj aq (aj aq (sv 1) aa) (sv 14)) (bf aa aO rfl) rfl) rfl)));exact au));(· intro _;rfl);exact oi
 lia;.exists(),bj (bN (sv 5) (bN (sv 6) (bN (iB rfl (by rfl) gU (sv 8)) (bN (iB rfl (by rfl) gU (sv 9)) (bN (iB rfl (by rfl) gU (aj aq (sv 13) (cL (bN eY aG rfl)))) aG rfl) rfl) rfl) rfl) rfl)
 exact au
abbrev pq:Stmt:=top 16
noncomputable def b13:List S:=[.Hx [3,4,5,6,7] ↑2,.asg 8 (.comp (.mV ⇑0 (.bin .add ↑4 ⇑1)) 1 [13] true none (.tup [⇑0,↑13])),.fJ (.mV ⇑1 (.bin .sub ↑3 ⇑1)) [9] true [.asg 10 (.bin .add ⇑1 (.call 9 [↑0,.bin .add ↑1 ↑9,⇑4])),.asg 11 (.con (.bl false)),.fJ (.mV ⇑0 (.bin .add ↑4 ⇑1)) [12] true [.asg 11 (.or (.cmp .lt (.call 9 [↑0,.bin .add (.bin .add (.bin .add ↑1 ⇑10) (.bin .mul ⇑13 ↑9)) ↑12,⇑5]) ↑10) (.and ↑11 (.cmp .M8 (.idx ↑7 ↑9) (.con .non)))),.ifs ↑11 [.app 8 (.tup [↑9,↑12])] []]],.ret ↑8]
def Uw:Fd:=⟨3,13,b13⟩
theorem Wo:aY ["draws","at","calendar","many","last","roads","rooms","waits","found","place","some","ahead","hour"] ["draws","at","calendar"] (aH pq):=nofun
include cl in
theorem d13(b:lF K "_law_lit" "_law_lit" pq f fd)(aN:mg "range"=none)(a:↥(9,"_law_draw",3,0)):↥(["draws","at","calendar"],3,Uw):=by
 exists b,Wo,0,0;refine bJ ?_ ?_;.exact(kW (sv 2) (dM hc (aB (aA (i:=3) nd rfl oi oi) (aB (aA (i:=4) nd rfl oi oi) (aB (aA (i:=5) nd rfl oi oi) (aB (aA (i:=6) nd rfl oi oi) (aB (aA (i:=7) nd rfl oi oi) cP)))))) (fc rfl (aL _ _ (aL _ _ (aL _ _ (aL _ _ (aL _ _ dC 7) 6) 5) 4) 3)))
 lia;.exact(wO (i:=8) (N':=["draws","at","calendar","many","last","roads","rooms","waits","found","place","some","ahead","hour#12","hour"]) hc nd rfl oi (Eh rfl (by rfl)) (cO rfl (by rfl) aN (aj aq (sv 4) aa)) ⇑(aA (i:=13) ‹["draws","at","calendar","many","last","roads","rooms","waits","found","place","some","ahead","hour#12","hour"]› rfl (Or.inl rfl) (Or.inr rfl)) (dX (cH)) ⇑(dO) ⇑((bj (bN aa (bN (sv 13) aG rfl) rfl))) (by rfl) (by intro _;rfl) (Or.inl rfl))
 lia;.exists 9,xR rfl (by rfl) aN aa (aj cQ (sv 3) aa),0;(· lia;(· exists 10,aj aq aa (gA a hr (bf (sv 0) (bf (aj aq (sv 1) (sv 9)) (bf aa aO rfl) rfl) rfl)));(· lia;(· exists 11,jk);(· lia;(· exists 12,cO rfl (by rfl) aN (aj aq (sv 4) aa),0;(· lia;(· exists 11,Cp (jA (iK (aX hr)) (gA a hr (bf (sv 0) (bf (aj aq (aj aq (aj aq (sv 1) aa) (aj cR aa (sv 9))) (sv 12)) (bf aa aO rfl) rfl) rfl)) (sv 10) (aW _)) (mG (Dk (sv 11) (mG (jA vL (aM (sv 7) (sv 9)) eY (aW _))))));(· lia;(· exists cZ ?_ ?_ ?_;exact fY (sv 11);(· lia;exact bG (k:=8) rfl (by ac_rfl) (bj (bN (sv 9) (bN (sv 12) aG rfl) rfl));exact au);exact au);exact au)));exact au)))
 lia;.exists(),sv 8
 exact au
abbrev mH:Stmt:=top 17
noncomputable def b14:List S:=[.Hx [2,3,4,5,6] ↑0,.asg 7 (.blt .qF [.comp ↑1 1 [15] true none (.tup [↑15,.con (.bl true)])]),.asg 8 ⇑0,.fJ (.mV ⇑0 (.blt .len [↑4])) [9] true [.Hx [10,11,12] (.idx ↑4 ↑9),.fJ (.mV ⇑0 (.bin .sub (.bin .add ↑3 ⇑1) ↑12)) [13] true [.ifs (.and (.bin .sin (.tup [↑10,↑13]) ↑7) (.bin .uM (.tup [↑11,.bin .add ↑13 ↑12]) ↑7)) [.asg 8 (.bin .add ↑8 (.idx (.idx ↑5 ↑9) ↑13))] []]],.fJ ↑1 [14,13] false [.ifs (.and (.cmp .uN (.idx ↑6 ↑14) (.con .non)) (.and (.cmp .lt ↑13 ↑3) (.bin .uM (.tup [↑14,.bin .add ↑13 ⇑1]) ↑7))) [.asg 8 (.bin .add ↑8 (.idx (.idx ↑6 ↑14) ↑13))] []],.ret ↑8]
def Uq:Fd:=⟨2,15,b14⟩
theorem Ym:aY ["calendar","lit","many","last","roads","rooms","waits","known","found","number","one","other","hours","hour","place"] ["calendar","lit"] (aH mH):=nofun
include cl in
theorem d14(a:lF K "_law_lit_sum" "_law_lit_sum" mH f fd)(lH:mg "dict"=none)(dI:mg "len"=none)(aN:mg "range"=none)(NL:Fx K):↥(["calendar","lit"],2,Uq):=by
 exists a,Ym,0,0;refine bJ ?_ ?_;.exact(kW (sv 0) (dM hc (aB (aA (i:=2) nd rfl oi oi) (aB (aA (i:=3) nd rfl oi oi) (aB (aA (i:=4) nd rfl oi oi) (aB (aA (i:=5) nd rfl oi oi) (aB (aA (i:=6) nd rfl oi oi) cP)))))) (fc rfl (aL _ _ (aL _ _ (aL _ _ (aL _ _ (aL _ _ dC 6) 5) 4) 3) 2)))
 lia;.exists 7,sH rfl NL hc (aX hr) (by rfl) lH (fM (N':=["calendar","lit","many","last","roads","rooms","waits","known","found","number","one","other","hours","hour","place","pair"]) hc (Eh rfl (by rfl)) (gR (sv 1)) ⇑(aA (i:=15) ‹["calendar","lit","many","last","roads","rooms","waits","known","found","number","one","other","hours","hour","place","pair"]› rfl (Or.inl rfl) (Or.inr rfl)) (dX (cH)) ⇑(dO) ⇑((bj (bN (sv 15) (bN jk aG rfl) rfl))))
 lia;.exists 8,aa
 lia;.exists 9,cO rfl (by rfl) aN (iH rfl (by rfl) dI (sv 4)),0;(· lia;exact kW (aM (sv 4) (sv 9)) (dM hc (aB (aA (i:=10) nd rfl oi oi) (aB (aA (i:=11) nd rfl oi oi) (aB (aA (i:=12) nd rfl oi oi) cP)))) (fc rfl (aL _ _ (aL _ _ (aL _ _ dC 12) 11) 10));(· lia;(· exists 13,cO rfl (by rfl) aN (aj cQ (aj aq (sv 3) aa) (sv 12)),0;(· lia;(· exists cZ ?_ ?_ ?_;exact SW.st (jC (Jr (aX hr) (bj (bN (sv 10) (bN (sv 13) aG rfl) rfl)) (sv 7) (by with_unfolding_all rfl)) (jF (qJ (aX hr) (bj (bN (sv 11) (bN (aj aq (sv 13) (sv 12)) aG rfl) rfl)) (sv 7) (by with_unfolding_all rfl))));(· lia;(· exists 8,aj aq (sv 8) (aM (aM (sv 5) (sv 9)) (sv 13)));exact au);exact au);exact au));exact au))
 lia;.exact(lu PassesOwn.never hc (gR (sv 1)) (dM hc (aB (aA (i:=14) nd rfl oi oi) (aB (aA (i:=13) nd rfl oi oi) cP))) (fc rfl (aL _ _ (aL _ _ dC 13) 14)) (by lia;(· exists cZ ?_ ?_ ?_;exact SW.st (jC (bU mK (aM (sv 6) (sv 14)) eY (aW _)) (jC (bU (iK (aX hr)) (sv 13) (sv 3) (aW _)) (jF (qJ (aX hr) (bj (bN (sv 14) (bN (aj aq (sv 13) aa) aG rfl) rfl)) (sv 7) (by with_unfolding_all rfl)))));(· lia;(· exists 8,aj aq (sv 8) (aM (aM (sv 6) (sv 14)) (sv 13)));exact au);exact au);exact au))
 lia;.exists(),sv 8
 exact au
abbrev zp:Stmt:=top 18
noncomputable def b15:List S:=[.Hx [2,3,4,5,6] ↑0,.asg 7 (.blt .qF [.comp ↑1 1 [10] true none (.tup [↑10,.con (.bl true)])]),.ifs (.or (.cmp .ne ↑1 (.blt .sorted [↑1])) (.cmp .lt (.blt .DG [↑7]) (.blt .len [↑1]))) [.ret (.con (.bl false))] [],.fJ ↑1 [8,9] false [.ifs (.or (.cmp .lt ↑8 ⇑0) (.or (.cmp .gt ↑8 (.bin .sub ↑2 ⇑2)) (.or (.cmp .lt ↑9 ⇑0) (.cmp .gt ↑9 ↑3)))) [.ret (.con (.bl false))] [],.ifs (.and (.cmp .M8 (.idx ↑6 ↑8) (.con .non)) (.and (.cmp .lt ↑9 ↑3) (.bin .uM (.tup [↑8,.bin .add ↑9 ⇑1]) ↑7))) [.ret (.con (.bl false))] []],.ret (.bin .sin (.tup [⇑0,⇑0]) ↑7)]
def Vm:Fd:=⟨2,10,b15⟩
theorem Xv:aY ["calendar","lit","many","last","roads","rooms","waits","known","place","hour"] ["calendar","lit"] (aH zp):=nofun
include cl in
theorem d15(a:lF K "_law_is_lit" "_law_is_lit" zp f fd)(lH:mg "dict"=none)(dI:mg "len"=none)(fK:mg "sorted"=none)(NL:Fx K):↥(["calendar","lit"],2,Vm):=by
 exists a,Xv,0,0;refine bJ ?_ ?_;.exact(kW (sv 0) (dM hc (aB (aA (i:=2) nd rfl oi oi) (aB (aA (i:=3) nd rfl oi oi) (aB (aA (i:=4) nd rfl oi oi) (aB (aA (i:=5) nd rfl oi oi) (aB (aA (i:=6) nd rfl oi oi) cP)))))) (fc rfl (aL _ _ (aL _ _ (aL _ _ (aL _ _ (aL _ _ dC 6) 5) 4) 3) 2)))
 lia;.exists 7,sH rfl NL hc (aX hr) (by rfl) lH (fM (N':=["calendar","lit","many","last","roads","rooms","waits","known","place","hour","pair"]) hc (Eh rfl (by rfl)) (gR (sv 1)) ⇑(aA (i:=10) ‹["calendar","lit","many","last","roads","rooms","waits","known","place","hour","pair"]› rfl (Or.inl rfl) (Or.inr rfl)) (dX (cH)) ⇑(dO) ⇑((bj (bN (sv 10) (bN jk aG rfl) rfl))))
 lia;.exists cZ ?_ ?_ ?_;exact SW.st (jj (bU (vI (aX hr)) (sv 1) (lG rfl (by rfl) fK (sv 1)) (aW _)) (j7 (bU (iK (aX hr)) (Gr rfl (by rfl) dI (sv 7)) (iH rfl (by rfl) dI (sv 1)) (aW _))));(· lia;(· exists(),jk);exact au);exact au
 lia;.exact(lu PassesOwn.never hc (gR (sv 1)) (dM hc (aB (aA (i:=8) nd rfl oi oi) (aB (aA (i:=9) nd rfl oi oi) cP))) (fc rfl (aL _ _ (aL _ _ dC 9) 8)) (by lia;(· exists cZ ?_ ?_ ?_;exact SW.st (jj (bU (iK (aX hr)) (sv 8) aa (aW _)) (jj (bU oG (sv 8) (aj cQ (sv 2) aa) (aW _)) (jj (bU (iK (aX hr)) (sv 9) aa (aW _)) (j7 (bU oG (sv 9) (sv 3) (aW _))))));(· lia;(· exists(),jk);exact au);exact au);(· lia;(· exists cZ ?_ ?_ ?_;exact SW.st (jC (bU vL (aM (sv 6) (sv 8)) eY (aW _)) (jC (bU (iK (aX hr)) (sv 9) (sv 3) (aW _)) (jF (qJ (aX hr) (bj (bN (sv 8) (bN (aj aq (sv 9) aa) aG rfl) rfl)) (sv 7) (by with_unfolding_all rfl)))));(· lia;(· exists(),jk);exact au);exact au);exact au)))
 lia;.exists(),qW (aX hr) (bj (bN aa (bN aa aG rfl) rfl)) (sv 7) (by with_unfolding_all rfl)
 exact au
abbrev W0:Stmt:=top 19
noncomputable def b16:List S:=[.Hx [4,5,6,7,8] ↑2,.asg 9 (.call 9 [↑0,.bin .add ↑1 ⇑1,.blt .len [↑3]]),.Hx [10,11] (.idx ↑3 ↑9),.asg 12 (.call 9 [↑0,.bin .add ↑1 ⇑2,.bin .pow ⇑10 ⇑6]),.asg 13 (.lst [.bin .add (.bin .add (.slice ↑3 (.con .non) ↑9) (.lst [.idx ↑3 ↑9])) (.slice ↑3 ↑9 (.con .non)),.slice ↑3 ⇑1 (.con .non),.bin .add (.slice ↑3 (.con .non) ↑5) (.slice ↑3 (.bin .add ↑5 ⇑1) (.con .non))]),.fJ (.lst [.tup [.bin .sub ↑4 ⇑1,↑5],.tup [.bin .sub ↑4 ⇑1,.bin .mod ↑12 (.bin .add ↑5 ⇑1)],.tup [↑4,⇑0],.tup [.bin .add ↑4 ↑12,⇑0],.tup [↑10,.bin .add ↑5 ⇑1]]) [14] true [.app 13 (.blt .sorted [.bin .add ↑3 (.lst [↑14])])],.fJ (.lst [.tup [↑10,.bin .add (.bin .add ↑5 ⇑1) ↑12],.tup [↑10,.neg ⇑1],.tup [↑10,.bin .sub (.neg ⇑1) ↑12],.tup [.neg ⇑1,⇑0],.tup [.bin .sub (.neg ⇑1) ↑12,↑11]]) [14] true [.app 13 (.blt .sorted [.bin .add ↑3 (.lst [↑14])])],.ifs (.cmp .gt (.blt .len [↑3]) ⇑1) [.app 13 (.bin .add (.bin .add (.slice ↑3 ⇑1 ⇑2) (.slice ↑3 (.con .non) ⇑1)) (.slice ↑3 ⇑2 (.con .non))),.app 13 (.blt .Dz [↑3])] [],.fJ (.mV ⇑0 (.bin .sub (.blt .len [↑3]) ⇑1)) [15] true [.ifs (.and (.cmp .M8 (.idx ↑8 (.idx (.idx ↑3 ↑15) ⇑0)) (.con .non)) (.cmp .eq (.idx (.idx ↑3 ↑15) ⇑0) (.idx (.idx ↑3 (.bin .add ↑15 ⇑1)) ⇑0))) [.app 13 (.bin .add (.slice ↑3 (.con .non) (.bin .add ↑15 ⇑1)) (.slice ↑3 (.bin .add ↑15 ⇑2) (.con .non)))] []],.ret (.idx ↑13 (.call 9 [↑0,↑1,.blt .len [↑13]]))]
def Uj:Fd:=⟨4,16,b16⟩
theorem W2:aY ["draws","at","calendar","lit","many","last","roads","rooms","waits","spot","place","hour","far","bad","pair","some"] ["draws","at","calendar","lit"] (aH W0):=nofun
include cl in
theorem d16(b:lF K "_law_spoilt" "_law_spoilt" W0 f fd)(dI:mg "len"=none)(aN:mg "range"=none)(fK:mg "sorted"=none)(a:↥(9,"_law_draw",3,0)):↥(["draws","at","calendar","lit"],4,Uj):=by
 exists b,W2,0,0;refine bJ ?_ ?_;.exact(kW (sv 2) (dM hc (aB (aA (i:=4) nd rfl oi oi) (aB (aA (i:=5) nd rfl oi oi) (aB (aA (i:=6) nd rfl oi oi) (aB (aA (i:=7) nd rfl oi oi) (aB (aA (i:=8) nd rfl oi oi) cP)))))) (fc rfl (aL _ _ (aL _ _ (aL _ _ (aL _ _ (aL _ _ dC 8) 7) 6) 5) 4)))
 lia;.exists 9,gA a hr (bf (sv 0) (bf (aj aq (sv 1) aa) (bf (iH rfl (by rfl) dI (sv 3)) aO rfl) rfl) rfl)
 lia;.exact(kW (aM (sv 3) (sv 9)) (dM hc (aB (aA (i:=10) nd rfl oi oi) (aB (aA (i:=11) nd rfl oi oi) cP))) (fc rfl (aL _ _ (aL _ _ dC 11) 10)))
 lia;.exists 12,gA a hr (bf (sv 0) (bf (aj aq (sv 1) aa) (bf (aj fV aa aa) aO rfl) rfl) rfl)
 lia;.exists 13,cL (bN (aj aq (aj aq (cD (sv 3) dH (cN (sv 9))) (cL (bN (aM (sv 3) (sv 9)) aG rfl))) (cD (sv 3) (cN (sv 9)) dH)) (bN (cD (sv 3) (cN aa) dH) (bN (aj aq (cD (sv 3) dH (cN (sv 5))) (cD (sv 3) (cN (aj aq (sv 5) aa)) dH)) aG rfl) rfl) rfl)
 lia;.exists 14,gR (cL (bN (bj (bN (aj cQ (sv 4) aa) (bN (sv 5) aG rfl) rfl)) (bN (bj (bN (aj cQ (sv 4) aa) (bN (aj dD (sv 12) (aj aq (sv 5) aa)) aG rfl) rfl)) (bN (bj (bN (sv 4) (bN aa aG rfl) rfl)) (bN (bj (bN (aj aq (sv 4) (sv 12)) (bN aa aG rfl) rfl)) (bN (bj (bN (sv 10) (bN (aj aq (sv 5) aa) aG rfl) rfl)) aG rfl) rfl) rfl) rfl) rfl)),0;(· lia;exact bG (k:=13) rfl (by ac_rfl) (lG rfl (by rfl) fK (aj aq (sv 3) (cL (bN (sv 14) aG rfl))));exact au)
 lia;.exists 14,gR (cL (bN (bj (bN (sv 10) (bN (aj aq (aj aq (sv 5) aa) (sv 12)) aG rfl) rfl)) (bN (bj (bN (sv 10) (bN (rT aa) aG rfl) rfl)) (bN (bj (bN (sv 10) (bN (aj cQ (rT aa) (sv 12)) aG rfl) rfl)) (bN (bj (bN (rT aa) (bN aa aG rfl) rfl)) (bN (bj (bN (aj cQ (rT aa) (sv 12)) (bN (sv 11) aG rfl) rfl)) aG rfl) rfl) rfl) rfl) rfl)),0;(· lia;exact bG (k:=13) rfl (by ac_rfl) (lG rfl (by rfl) fK (aj aq (sv 3) (cL (bN (sv 14) aG rfl))));exact au)
 lia;.exists cZ ?_ ?_ ?_;exact bU oG (iH rfl (by rfl) dI (sv 3)) aa (aW _);(· lia;exact bG (k:=13) rfl (by ac_rfl) (aj aq (aj aq (cD (sv 3) (cN aa) (cN aa)) (cD (sv 3) dH (cN aa))) (cD (sv 3) (cN aa) dH));(· lia;exact bG (k:=13) rfl (by ac_rfl) (Hh (sv 3));exact au));exact au
 lia;.exists 15,cO rfl (by rfl) aN (aj cQ (iH rfl (by rfl) dI (sv 3)) aa),0;(· lia;(· exists cZ ?_ ?_ ?_;exact SW.st (jC (bU vL (aM (sv 8) (aM (aM (sv 3) (sv 15)) aa)) eY (aW _)) (jF (bU (kE (aX hr)) (aM (aM (sv 3) (sv 15)) aa) (aM (aM (sv 3) (aj aq (sv 15) aa)) aa) (aW _))));(· lia;exact bG (k:=13) rfl (by ac_rfl) (aj aq (cD (sv 3) dH (cN (aj aq (sv 15) aa))) (cD (sv 3) (cN (aj aq (sv 15) aa)) dH));exact au);exact au);exact au)
 lia;.exists(),aM (sv 13) (gA a hr (bf (sv 0) (bf (sv 1) (bf (iH rfl (by rfl) dI (sv 13)) aO rfl) rfl) rfl))
 exact au
abbrev V4:Stmt:=top 20
noncomputable def b17:List S:=[.asg 3 (.call 13 [↑0,↑1,↑2]),.asg 4 (.blt .list [↑3]),.asg 5 (.call 14 [↑2,↑3]),.asg 6 (.call 7 [↑2,↑4]),.ifs (.or (.cmp .ne ↑6 ↑5) (.or (.inst [.bool] ↑6) (.or (.not (.inst [.int] ↑6)) (.cmp .ne ↑4 ↑3)))) [.ret (.con (.bl false))] [],.fJ (.mV ⇑0 ⇑4) [7] true [.asg 8 (.call 16 [↑0,.bin .add (.bin .add ↑1 ⇑100) (.bin .mul ⇑3 ↑7),↑2,↑3]),.ifs (.or (.call 15 [↑2,↑8]) (.cmp .uN (.call 7 [↑2,↑8]) (.con .non))) [.ret (.con (.bl false))] []],.ret (.cmp .eq (.call 7 [↑2,↑4]) ↑5)]
def T9:Fd:=⟨3,9,b17⟩
theorem WT:aY ["draws","at","calendar","lit","handed","due","found","turn","bad"] ["draws","at","calendar"] (aH V4):=nofun
include cl in
theorem d17(b:lF K "_law_right" "_law_right" V4 f fd)(wG:mg "bool"=none)(DR:mg "int"=none)(eF:mg "isinstance"=none)(wH:mg "list"=none)(aN:mg "range"=none)(e:↥(15,"_law_is_lit",2,0))(g:↥(13,"_law_lit",3,0))(h:↥(14,"_law_lit_sum",2,0))(i:↥(16,"_law_spoilt",4,0))(a:↥(7,"lit_sum",2,0)):↥(["draws","at","calendar"],3,T9):=by
 exists b,WT,0,0;refine bJ ?_ ?_;.exists 3,gA g hr (bf (sv 0) (bf (sv 1) (bf (sv 2) aO rfl) rfl) rfl)
 lia;.exists 4,GK rfl (by rfl) wH (sv 3)
 lia;.exists 5,gA h hr (bf (sv 2) (bf (sv 3) aO rfl) rfl)
 lia;.exists 6,gA a hr (bf (sv 2) (bf (sv 4) aO rfl) rfl)
 lia;.exists cZ ?_ ?_ ?_;exact SW.st (jj (bU (vI (aX hr)) (sv 6) (sv 5) (aW _)) (jj (fY (sE .bool rfl (by rfl) eF (sv 6) (by rfl) wG (by kernel_rfl) (by decide) (by rfl))) (jj (lg (fY (sE .int rfl (by rfl) eF (sv 6) (by rfl) DR (by kernel_rfl) (by decide) (by rfl)))) (j7 (bU (vI (aX hr)) (sv 4) (sv 3) (aW _))))));(· lia;(· exists(),jk);exact au);exact au
 lia;.exists 7,cO rfl (by rfl) aN aa,0;(· lia;(· exists 8,gA i hr (bf (sv 0) (bf (aj aq (aj aq (sv 1) aa) (aj cR aa (sv 7))) (bf (sv 2) (bf (sv 3) aO rfl) rfl) rfl) rfl));(· lia;(· exists cZ ?_ ?_ ?_;exact SW.st (jj (fY (gA e hr (bf (sv 2) (bf (sv 8) aO rfl) rfl))) (j7 (bU mK (gA a hr (bf (sv 2) (bf (sv 8) aO rfl) rfl)) eY (aW _))));(· lia;(· exists(),jk);exact au);exact au);exact au))
 lia;.exists(),jA (kE (aX hr)) (gA a hr (bf (sv 2) (bf (sv 4) aO rfl) rfl)) (sv 5) (aW _)
 exact au
abbrev Xr:Stmt:=top 21
noncomputable def b18:List S:=[.asg 1 (.call 8 [↑0,⇑900]),.asg 2 (.call 12 [↑1,⇑0,⇑6,⇑12,⇑12]),.ret (.blt .all [.comp (.mV ⇑0 ⇑4) 1 [3] true none (.call 17 [↑1,.bin .add ⇑360 (.bin .mul ⇑120 ↑3),↑2])])]
def U5:Fd:=⟨1,3,b18⟩
theorem Yb:aY ["script","draws","calendar"] ["script"] (aH Xr):=nofun
include cl in
theorem Zo(a:lF K "law" "law" Xr f fd)(iT:mg "all"=none)(aN:mg "range"=none)(b:↥(8,"_law_all",2,0))(e:↥(12,"_law_calendar",5,0))(g:↥(17,"_law_right",3,0)):↥(["script"],1,U5):=by
 exists a,Yb,0,0;refine bJ ?_ ?_;.exists oR (i:=1) ?_ ?_ ?_ ?_ ?_ ?_;exact nd;exact rfl;exact Or.inr rfl;rotate_left;rfl;exact oi;exact gA b hr (bf (sv 0) (bf aa aO rfl) rfl)
 lia;.exists oR (i:=2) ?_ ?_ ?_ ?_ ?_ ?_;exact nd;exact rfl;exact Or.inr rfl;rotate_left;rfl;exact oi;exact gA e hr (bf (sv 1) (bf aa (bf aa (bf aa (bf aa aO rfl) rfl) rfl) rfl) rfl)
 lia;.exists(),rN rfl hc (by rfl) iT (fM (N':=["script","draws","calendar","turn"]) hc (Eh rfl (by rfl)) (cO rfl (by rfl) aN aa) ⇑(aA (i:=3) ‹["script","draws","calendar","turn"]› rfl (Or.inl rfl) (Or.inr rfl)) (dX (cH)) ⇑(dO) ⇑((gA g hr (bf (sv 1) (bf (aj aq aa (aj cR aa (sv 3))) (bf (sv 2) aO rfl) rfl) rfl))))
 exact au
end T
end
noncomputable section
namespace T
open PySem L2 PySem.Spec PyProof.Rows HH
def Γ:Tab:=λi=>[f0,f1,f2,f3,f4,f5,f6,f7,f8,f9,UJ,f11,UT,Uw,Uq,Vm,Uj,T9,U5][i]?
end T
end
noncomputable section
namespace T
open HH
variable{n w:Nat}{Q:R->List Sl->Prop}{ds:List Int}{p:Int}
local macro_rules|`(tactic|symm)=>`(tactic|first|apply ak|apply zf)
def ab(i:Int):Int:=if i<0 then-i else i
theorem wL{i:Int}:blt .abs [.int i]=some (.val (.int (ab i))):=rfl
def Rj(d:D):D:=.int (ab (cJ d))
inductive FAl(a0 a1 a2 a3 a4 a5 a6 a7 a8:Sl)(ρ:List Sl):Prop where|mk(s:Sl)(q0:ρ=[a0,a1,a2,a3,a4,a5,a6,a7,a8,s])(q1:fr s=true)
def Dr(ds:List Int):Prop:=∀d∈ds,0<=d/\d<1000000
inductive JAl(N:Nat)(a0 a1:Sl)(i:Nat)(ρ:List Sl):Prop where|mk(cs ls fd:List Int)(s5 s6 s7 s8:Sl)(q0:ρ=[a0,a1,.own false (cs.map D.int),.own false (ls.map D.int),.own false (fd.map D.int),s5,s6,s7,s8])(q1:A4 (fr s5=true) (fr s6=true) (fr s7=true) (fr s8=true))(q2:cs.length=N)(q3:ls.length=N)(q4:fd.length=i)(q5:Dr fd)
theorem tW(a:Int){b:Int}(h:0<b):0<=a%b/\a%b<b:=⟨Int.emod_nonneg _ (by omega),Int.emod_lt_of_pos _ h⟩
theorem GF{c:List Int}{a b:Option Int}:cut (c.map D.int) a b=(cut c a b).map D.int:=by unfold cut;simp
theorem Yt{ds:List D}{i:Int}:zP (.lst ds) (part (.con .non) .non) (part (.con (.int i)) (.int i))=some (.own (cut ds none (some i))):=rfl
theorem Le{c:Call}{A B:List S}{a0 f g h s7 s8:Sl}{b e:List Int}{j:Nat}{c0 l:Int}{Q:Fl->List Sl->Prop}(m:at' (b.map D.int) (j:Int)=some (.int c0))(o:at' (e.map D.int) (j:Int)=some (.int l))(h1:(je c n A [a0,f,.own false (b.map D.int),.own false (e.map D.int),g,h,.val false (.int j),s7,s8]).sat Q)(k:(je c n B [a0,f,.own false (b.map D.int),.own false (e.map D.int),g,h,.val false (.int j),s7,s8]).sat Q):(ex c n (.ifs (.and (.cmp .ge (.blt .abs [.idx (.var 2) (.var 6)]) (.bin .pow (.con (.int 10)) (.con (.int 18)))) (.cmp .gt (.idx (.var 3) (.var 6)) (.con (.int 0)))) A B) [a0,f,.own false (b.map D.int),.own false (e.map D.int),g,h,.val false (.int j),s7,s8]).sat Q:=by have a:=wL (i:=c0);generalize ab c0=q at a;simp[m,o,a];exact⟨λ_=>⟨λ_=>h1,λ_=>k⟩,λ_=>k⟩
set_option maxHeartbeats 400000 in
theorem Gn{M:Nat}{ns:List Int}(Z:ns.length<=63)(hM:M<=1000)(k:∀ds:List Int,ds.length=M->Dr ds->Q (.own (ds.map D.int)) [.val false (.lst (ns.map D.int)),.val false (.int M)]):(run Γ w (n+1) 8 [.val false (.lst (ns.map D.int)),.val false (.int M)]).sat Q:=by
 refine bM (d:=f8) rfl rfl (by decide) ?_;refine mO (λρ=>∃f:List Int,ρ=[.val false (.lst (ns.map D.int)),.val false (.int M),.own false (f.map D.int),.aU,.aU,.aU,.aU,.aU,.aU]/\f.length<=63) ?_ ?_;.simp[f8,Yt,GF];refine⟨_,rfl,?_⟩;unfold cut;simp;omega
 rintro _⟨f,rfl,hc⟩;refine mO (λρ=>∃f:List Int,ρ=[.val false (.lst (ns.map D.int)),.val false (.int M),.own false (f.map D.int),.aU,.aU,.aU,.aU,.aU,.aU]/\f.length<=63/\0<f.length) ?_ ?_;.simp[Hd];cases f with|nil=>simp;apply ak;simp;exact⟨[0],rfl,by simp,by simp⟩|cons c f=>simp;exact⟨c::f,rfl,by simpa using hc,by simp⟩
 rintro _⟨f,rfl,hc,J⟩;symm;simp[show f.length<=16777216 by omega];refine dj (FAl _ _ _ _ _ _ _ _ _) Rj ⟨.aU,rfl,rfl⟩ ?_ ?_;.rintro d hd _⟨s,rfl,hs⟩;obtain⟨c,_,rfl⟩:=List.mem_map.mp hd;simp[hs,wL];exact⟨rfl,_,rfl,rfl⟩
 rintro _⟨s,rfl,hs⟩;have e:(f.map D.int).map Rj=(f.map ab).map D.int:=by rw[map_map,map_map];rfl
 rw[e];have q:(f.map ab).length=f.length:=length_map _;generalize(f.map ab)=g at*;simp;apply ak;simp;apply ak;simp[show(M:Int)<=1000000000 by omega];refine dg (JAl f.length _ _) ?_ ?_ ⟨f,g,[],.aU,.aU,.aU,.aU,rfl,⟨rfl,rfl,rfl,rfl⟩,rfl,q,rfl,λd hd=>by cases hd⟩
 . rintro i _ hi⟨a,g,fd,s5,s6,s7,s8,rfl,⟨L,N,E,F⟩,h1,r,G,t⟩;obtain⟨j,O,U⟩:∃j:Nat,(i:Int)%(a.length:Int)=(j:Int)/\j<a.length:=⟨i%a.length,by omega,Nat.mod_lt _ (by omega)⟩;have H:at' (a.map D.int) (j:Int)=some (.int a[j]):=fZ (by simp[U]);have I:j<g.length:=by omega
   have u:at' (g.map D.int) (j:Int)=some (.int g[j]):=fZ (by simp[I]);have W:lW g.length (j:Int)=some j:=Ln I;generalize a[j]=c0 at*;generalize g[j]=v at*;have y:0<a.length:=by omega
   have z:∃h:Int,h=(i:Int):=⟨_,rfl⟩;obtain⟨h,A⟩:=z;have l:∀{x:Int},0<=x->x<1000000->Dr (fd++[x]):=λ{x}x0 x1 d hd=>by
    rcases mem_append.mp hd with hd|hd;.exact t d hd
    .rw[List.mem_singleton.mp hd];exact⟨x0,x1⟩
   simp[L];apply ak;simp[N,y,O];apply ak;refine Le H u ?_ ?_;.symm;have o:=tW v (b:=1000000) (by decide);simp[u,show fd.length<16777216 by omega];apply ak;simp[u,W];exact⟨a,g.set j (v/1000000),fd++[v%1000000],.val false (.int i),.val false (.int j),s7,s8,by simp[List.map_set],⟨rfl,rfl,E,F⟩,h1,by simpa using r,by simp;omega,l o.1 o.2⟩
   . have i1:-18446744073709551616<977*h/\977*h<18446744073709551616:=by omega
     rw[<-A];symm;simp[i1,E];generalize 977*h*h+131*h+1=st;symm;simp[H,F];generalize X:(c0%1000000007*48271+st)%2147483647=m;have m0:=tW (c0%1000000007*48271+st) (b:=2147483647) (by decide);rw[X]at m0;have m1:-18446744073709551616<m/\m<18446744073709551616:=by omega
     symm;simp[m1];generalize B:m*m%2147483647=C;have Y:=tW (m*m) (b:=2147483647) (by decide);rw[B]at Y;symm;simp[show fd.length<16777216 by omega];have o:=tW ((C+40692*(h+3))*69621%2147483629/8) (b:=1000000) (by decide);exact⟨a,g,fd++[(C+40692*(h+3))*69621%2147483629/8%1000000],.val false (.int h),.val false (.int j),.val false (.int st),.val false (.int C),by simp,⟨rfl,rfl,rfl,rfl⟩,h1,r,by simp;omega,l o.1 o.2⟩
 .rintro _⟨a,g,fd,s5,s6,s7,s8,rfl,_,h1,r,G,t⟩;symm;simp;exact k fd G t
theorem aV{a m:Int}(hd:0<ds.length)(a0:0<=a)(m0:0<m)(m1:m<=1000000000000000000000)(k:∀d,0<=d->d<m->Q (.val (.int d)) [.own true (ds.map D.int),.val false (.int a),.val false (.int m)]):(run Γ w (n+1) 9 [.own true (ds.map D.int),.val false (.int a),.val false (.int m)]).sat Q:=by
 have c:m<1606938044258990275541962092341162602522202993782792835301376:=by omega
 obtain⟨j,e,f⟩:∃j:Nat,a%(ds.length:Int)=(j:Int)/\j<ds.length:=⟨(a%(ds.length:Int)).toNat,by have:=tW a (b:=(ds.length:Int)) (by omega);omega,by have:=tW a (b:=(ds.length:Int)) (by omega);omega⟩;have g:at' (ds.map D.int) (j:Int)=some (.int ds[j]):=fZ (by simp[f]);generalize ds[j]=d0 at*;refine bM (d:=f9) rfl rfl (by decide) ?_;symm;simp[f9,hd,e,g,m0,c];exact k _ (tW d0 m0).1 (tW d0 m0).2
theorem other{a b m:Int}(h1:0<=a)(c:a<m)(f:0<=b)(g:b<m-1):0<=(a+1+b)%m/\(a+1+b)%m<m/\(a+1+b)%m≠a:=by
 by_cases h:a+1+b<m;.rw[Int.emod_eq_of_lt (by omega) h];omega
 . have e:(a+1+b)%m=a+1+b-m:=by rw[<-Int.sub_emod_right,Int.emod_eq_of_lt (by omega) (by omega)]
   rw[e];omega
theorem Cd{ns:List Int}{i lo hi:Int}(h0:0<=i)(h1:i<(ns.length:Int))(k:∀x∈ns,lo<=x/\x<=hi):∃r,at' (ns.map D.int) i=some (.int r)/\lo<=r/\r<=hi:=by
 have a:i.toNat<ns.length:=by omega
 refine⟨ns[i.toNat],?_,k _ (getElem_mem a)⟩;rw[vK h0 (by simpa using h1)];simp[a]
structure gB where(s t h:Int)
def gB.d(r:gB):D:=.tup [.int r.s,.int r.t,.int r.h]
structure gB.Ok(m:Int)(r:gB):Prop where
 s0:0<=r.s
 s1:r.s<m
 t0:0<=r.t
 t1:r.t<m
 h0:1<=r.h
 h1:r.h<=1000000
structure cu where
 (m T:Int)ways:List gB
 rooms:List (List Int)waits:List (Option (List Int))
def cB(r:List Int):D:=.tup (r.map D.int)
def lD:Option (List Int)->D|none=>.non|some r=>cB r
def cu.d(c:cu):D:=.tup [.int c.m,.int c.T,.tup (c.ways.map gB.d),.tup (c.rooms.map cB),.tup (c.waits.map lD)]
structure cu.Ok(c:cu):Prop where
 m0:2<=c.m
 m1:c.m<=6
 t0:0<=c.T
 t1:c.T<=12
 wl:c.ways.length<=12
 wok:∀v∈c.ways,v.Ok c.m
 rl:c.rooms.length=c.ways.length
 rok:∀r∈c.rooms,(r.length:Int)=c.T+1
 al:(c.waits.length:Int)=c.m
 aok:∀r,some r∈c.waits->(r.length:Int)=c.T
 a0:c.waits[0]?=some none
abbrev nF(ds:List Int):Sl:=.own true (ds.map D.int)
theorem uq{a:Int}{b:Bool}(hd:0<ds.length)(a0:0<=a)(k:∀r:Int,Q (.val (.int r)) [nF ds,.val false (.int a),.val false (.bl b)]):(run Γ w (n+2) 10 [nF ds,.val false (.int a),.val false (.bl b)]).sat Q:=by refine bM (d:=UJ) rfl rfl (by decide) ?_;symm;simp[UJ];refine aV hd a0 (by decide) (by decide) λc c0 c1=>?_;obtain⟨r,hr,f,g⟩:=Cd (ns:=[0,1,2,3,1,2,5,9]) (lo:=0) (hi:=9) c0 (by simpa using c1) (by decide);simp only[map_cons,map_nil]at hr;simp[hr];apply ak;cases b with|false=>simp;apply ak;simp;exact k _|true=>simp;apply ak;simp;refine aV hd (by omega) (by decide) (by decide) λe h i=>?_;simp;exact k _
theorem Bc{a m:Int}(hd:0<ds.length)(a0:0<=a)(m0:2<=m)(m1:m<=6)(k:∀v:gB,v.Ok m->Q (.val v.d) [nF ds,.val false (.int a),.val false (.int m)]):(run Γ w (n+2) 11 [nF ds,.val false (.int a),.val false (.int m)]).sat Q:=by
 refine bM (d:=f11) rfl rfl (by decide) ?_;symm;simp[f11];refine aV hd a0 (by omega) (by omega) λx x0 x1=>?_;simp;apply ak;simp;refine aV hd (by omega) (by omega) (by omega) λy b c=>?_;obtain⟨f,i,_⟩:=other x0 x1 b c;simp[show 0<m by omega];generalize(x+1+y)%m=z at*;symm;simp;refine aV hd (by omega) (by omega) (by omega) λh h0 h1=>?_;simp;refine mO (λρ=>∃(h:Int),ρ=[nF ds,.val false (.int a),.val false (.int m),.val false (.int x),.val false (.int z),.val false (.int h)]/\1<=h/\h<=1000000) ?_ ?_;.simp;refine aV hd (by omega) (by omega) (by omega) λe j l=>?_;simp;refine⟨λ_=>?_,λ_=>by omega⟩;symm;simp;refine aV hd (by omega) (by omega) (by omega) λg o q=>?_;simp;omega
 rintro _⟨h,rfl,h0,h1⟩;symm;simp;refine aV hd (by omega) (by omega) (by omega) λe j l=>?_;simp;refine⟨λ_=>?_,λ_=>?_⟩;.symm;simp;refine k ⟨if z<x then z else x,if x<z then z else x,h⟩ ⟨?_,?_,?_,?_,h0,h1⟩<;>(dsimp only;split<;>omega)
 .symm;simp;exact k ⟨x,z,h⟩ ⟨x0,x1,f,i,h0,h1⟩
theorem rB{b:Type}{x:b}{l r:List b}(h:l[0]?=some x):(l++r)[0]?=some x:=by cases l with|nil=>simp at h|cons a l=>simpa using h
def Xl(N:Int)(d:D):Prop:=∃r:List Int,d=cB r/\(r.length:Int)=N
theorem rowsOf{T:Int}:∀{xs:List D},(∀x∈xs,Xl T x)->∃a:List (List Int),xs=a.map cB/\∀r∈a,(r.length:Int)=T|[],_=>⟨[],rfl,by simp⟩|x::xs,h=>by obtain⟨v,rfl,h1⟩:=h x (by simp);obtain⟨b,rfl,c⟩:=rowsOf (T:=T) (xs:=xs) λy e=>h y (by simp[e]);exact⟨v::b,rfl,λu hu=>by
    rcases mem_cons.mp hu with rfl|hu;.exact h1
    .exact c u hu⟩
theorem intsOf:∀{xs:List D},(∀x∈xs,∃i,x=D.int i)->∃a:List Int,xs=a.map D.int|[],_=>⟨[],rfl⟩|x::xs,h=>by obtain⟨v,rfl⟩:=h x (by simp);obtain⟨b,rfl⟩:=intsOf (xs:=xs) λy c=>h y (by simp[c]);exact⟨v::b,rfl⟩
inductive JCa(ds:List Int)(a1 a2 a3 a4:Sl)(m T:Int)(a7 a10:Sl)(i:Nat)(ρ:List Sl):Prop where|mk(vs:List gB)(rs:List (List Int))(lM s12:Sl)(q0:ρ=[nF ds,a1,a2,a3,a4,.val false (.int m),.val false (.int T),a7,.own false (vs.map gB.d),.own false (rs.map cB),a10,lM,s12,.aU,.aU,.aU])(q1:(fr lM=true/\fr s12=true))(q2:(∀v∈vs,v.Ok m))(q3:(∀r∈rs,(r.length:Int)=T+1))(q4:vs.length=i)(q5:rs.length=i)
inductive JCb(ds:List Int)(a1 a2 a3 a4 a5:Sl)(T:Int)(a7 a8 a9 a10 a11 a12:Sl)(i:Nat)(ρ:List Sl):Prop where|mk(ws:List (Option (List Int)))(mH zp:Sl)(q0:ρ=[nF ds,a1,a2,a3,a4,a5,.val false (.int T),a7,a8,a9,a10,a11,a12,.own false (ws.map lD),mH,zp])(q1:(fr mH=true/\fr zp=true))(q2:(∀r,some r∈ws->(r.length:Int)=T))(q3:ws.length=i+1)(q4:ws[0]?=some none)
inductive ZG(ds:List Int)(a1 a2 a3 a4 a5 a6 a7 a8 a9 a10 a11 a12 a13 a14 a15:Sl)(ρ:List Sl):Prop where|mk(s:Sl)(q0:ρ=[nF ds,a1,a2,a3,a4,a5,a6,a7,a8,a9,a10,a11,a12,a13,a14,a15,s])(q1:fr s=true)
theorem Fw(a:0<ds.length)(k:∀c:cu,c.Ok->Q (.val c.d) [nF ds,.val false (.int 0),.val false (.int 6),.val false (.int 12),.val false (.int 12)]):(run Γ w (n+3) 12 [nF ds,.val false (.int 0),.val false (.int 6),.val false (.int 12),.val false (.int 12)]).sat Q:=by
 refine bM (d:=UT) rfl rfl (by decide) ?_;symm;simp[UT];refine aV a (by omega) (by omega) (by omega) λm m0 m1=>?_;simp;obtain⟨M,hM,X,Y⟩:∃M,2+m=M/\2<=M/\M<=6:=⟨_,rfl,by omega,by omega⟩;rw[hM];symm;simp;refine aV a (by omega) (by omega) (by omega) λc c0 c1=>?_;obtain⟨r,hr,r0,r1⟩:=Cd (ns:=[4,7,13]) (lo:=4) (hi:=13) c0 (by simpa using c1) (by decide);simp only[map_cons,map_nil]at hr;simp[hr];refine aV a (by omega) (by omega) (by omega) λT T0 T1=>?_;simp;obtain⟨H,hH,H0,H1⟩:∃H,(if T<12 then T else 12)=H/\0<=H/\H<=12:=⟨_,rfl,by split<;>omega,by split<;>omega⟩;rw[hH];symm;simp;refine aV a (by omega) (by omega) (by omega) λe e0 e1=>?_;simp;apply ak;simp;apply ak;simp;apply ak;simp;refine aV a (by omega) (by omega) (by omega) λc c0 c1=>?_;obtain⟨r,hr,r0,r1⟩:=Cd (ns:=[5,8,13]) (lo:=5) (hi:=13) c0 (by simpa using c1) (by decide);simp only[map_cons,map_nil]at hr;simp[hr];refine aV a (by omega) (by omega) (by omega) λq q0 q1=>?_;simp;obtain⟨C,hC,C1⟩:∃C:Nat,(if q<12 then q else 12)=(C:Int)/\C<=12:=⟨(if q<12 then q else 12).toNat,by split<;>omega,by split<;>omega⟩;rw[hC];symm;simp[show(C:Int)<=1000000000 by omega];refine dg (JCa ds _ _ _ _ M H _ _) ?_ ?_ ⟨[],[],.aU,.aU,rfl,⟨rfl,rfl⟩,by simp,by simp,rfl,rfl⟩
 . rintro i _ hi⟨vs,l,lM,s12,rfl,⟨t,z⟩,E,f,Z,lr⟩;have F:(H+1).toNat<=lim:=by show _<=16777216;omega
   have g:H+1<=1000000000:=by omega
   have h:-1000000000<=H+1:=by omega
   have G:vs.length<lim:=by show _<16777216;omega
   have I:l.length<lim:=by show _<16777216;omega
   simp[t];apply ak;simp[z];apply ak;simp;refine Bc a (by omega) X Y λv J=>?_;simp[G];apply ak;simp[g,h,F];refine pW (ZG ds _ _ _ _ _ _ _ _ _ _ _ _ _ _ _) (λd=>∃i,d=D.int i) ⟨.aU,rfl,rfl⟩ ?_ ?_;.rintro d hd _⟨s,rfl,hs⟩;obtain⟨j,_,rfl⟩:=List.mem_map.mp hd;simp[hs];refine uq a (by omega) λr=>?_;simp;exact⟨_,rfl,rfl⟩
   . rintro xs _⟨s,rfl,hs⟩L N;obtain⟨is,rfl⟩:=intsOf N;simp at L;simp[I];refine⟨vs++[v],l++[is],_,_,by simp[cB];exact⟨rfl,rfl⟩,⟨rfl,rfl⟩,λu hu=>?_,λr hr=>?_,by simp[Z],by simp[lr]⟩
     . rcases mem_append.mp hu with hu|hu;.exact E u hu
       .rw[List.mem_singleton.mp hu];exact J
     . rcases mem_append.mp hr with hr|hr;.exact f r hr
       .rw[List.mem_singleton.mp hr];omega
 . rintro _⟨vs,l,lM,s12,rfl,⟨t,z⟩,E,f,Z,lr⟩;symm;simp;apply ak;simp[show M-1<=1000000000 by omega,show-1000000000<=M-1 by omega];refine dg (JCb ds _ _ _ _ _ H _ _ _ _ _ _) ?_ ?_ ⟨[none],.aU,.aU,rfl,⟨rfl,rfl⟩,by simp,rfl,rfl⟩
   . rintro i _ hi⟨o,mH,zp,rfl,⟨O,U⟩,hw,W,B⟩;have F:H.toNat<=lim:=by show _<=16777216;omega
     have g:H<=1000000000:=by omega
     have h:-1000000000<=H:=by omega
     have A:o.length<lim:=by show _<16777216;omega
     simp[O];apply ak;simp[g,h,F];refine pW (ZG ds _ _ _ _ _ _ _ _ _ _ _ _ _ _ _) (λd=>∃i,d=D.int i) ⟨.aU,rfl,rfl⟩ ?_ ?_;.rintro d hd _⟨s,rfl,hs⟩;obtain⟨j,_,rfl⟩:=List.mem_map.mp hd;simp[hs];refine uq a (by omega) λr=>?_;simp;exact⟨_,rfl,rfl⟩
     . rintro xs _⟨s,rfl,hs⟩L N;obtain⟨is,rfl⟩:=intsOf N;simp at L;simp[U];apply ak;simp;refine aV a (by omega) (by omega) (by omega) λb b0 b1=>?_;have z0:∀x y:D,at' [x,y] 0=some x:=λ_ _=>rfl;have z1:∀x y:D,at' [x,y] 1=some y:=λ_ _=>rfl;obtain rfl|rfl:b=0\/b=1:=by omega
       . simp[A,z0];refine⟨o++[some is],_,_,by simp[cB,lD];exact⟨rfl,rfl⟩,⟨rfl,rfl⟩,λr hr=>?_,by simp[W],rB B⟩;rcases mem_append.mp hr with hr|hr;.exact hw r hr
         . obtain rfl:r=is:=by simpa using hr
           omega
       . simp[A,z1];refine⟨o++[none],_,_,by simp[cB,lD];exact⟨rfl,rfl⟩,⟨rfl,rfl⟩,λr hr=>?_,by simp[W],rB B⟩;rcases mem_append.mp hr with hr|hr;.exact hw r hr
         .simp at hr
   . rintro _⟨o,mH,zp,rfl,_,hw,W,B⟩;symm;simp[show o.length+1<=lim by show _<=16777216;omega,show vs.length<=lim by show _<=16777216;omega,show l.length<=lim by show _<=16777216;omega];have:=k ⟨M,H,vs,l,o++[none]⟩ ⟨X,Y,H0,H1,by show vs.length<=12;omega,E,by show l.length=vs.length;omega,f,by simp;omega,λr hr=>?_,rB B⟩;.simpa[cu.d,lD]using this
     . rcases mem_append.mp hr with hr|hr;.exact hw r hr
       .simp at hr
abbrev Pr:=Int×Int
def JT(p:Pr):List Int:=[p.1,p.2]
theorem ye{k:List Int}:∀{l acc:List (List Int)},(l.foldl stK acc).contains k=(acc.contains k||l.contains k)
 |[],acc=>by simp|a::l,acc=>by
   rw[foldl_cons,ye (l:=l)];unfold stK;split
   . rename_i h;rw[contains_cons];by_cases e:k=a;.subst e;rw[h];simp
     .rw[show(k==a)=false from beq_eq_false_iff_ne.mpr e,Bool.false_or]
   .rw[List.contains_append,contains_cons,contains_cons,List.contains_nil,Bool.or_false,Bool.or_assoc]
def dY(b:List Pr):List (List Int):=(b.map JT).foldl stK []
theorem keys_has{b:List Pr}{x y:Int}:(dY b).contains [x,y]=decide ((x,y)∈b):=by unfold dY;rw[ye];rw[Bool.eq_iff_iff];simp[JT]
abbrev Vc(b:List Pr):D:=.cX (.s (dY b))
@[simp]theorem T4:pH .sin=pM false:=rfl
@[simp]theorem Qw:pH .uM=pM true:=rfl
@[simp]theorem Z9{a:Bool}{b:List Pr}{x y:Int}:pM a (.tup [.int x,.int y]) (Vc b)=some (.val (.bl (a !=decide ((x,y)∈ b)))):=by rw[<-keys_has];rfl
abbrev vl(c:Bool)(b:List Pr):Sl:=.val c (.lst (b.map bI))
def PL(s:Sl)(c:Bool)(b:List Pr):Prop:=s=.own c (b.map bI)\/s=vl c b
def o7(a b:Pr):Prop:=a.1<b.1\/a.1=b.1/\a.2<b.2
def nu:List Pr->Bool|[]=>true|[_]=>true|a::b::r=>aQ [a.1,a.2] [b.1,b.2]&&nu (b::r)
theorem ou:∀{b:List Pr},nu b=true↔b.Pairwise o7
 |[]=>by simp[nu]|[a]=>by simp[nu]|a::b::r=>by
   have f:=ou (b:=b::r);simp only[nu,and_eq_true,f];rw[pairwise_cons (a:=a),show(aQ [a.1,a.2] [b.1,b.2]=true↔o7 a b)by simp[aQ,o7]];refine⟨λ⟨h1,e⟩=>⟨λc hc=>?_,e⟩,λ⟨h1,e⟩=>⟨h1 b (by simp),e⟩⟩;rcases mem_cons.mp hc with rfl|hc;.exact h1
   .have:=(pairwise_cons.mp e).1 c hc;unfold o7 at*;omega
def Rx:D->D|.tup [a,b]=>.bl (aQ (bw a) (bw b))|d=>d
theorem xU:∀b:List Pr,(((b.map bI).zip (b.map bI).tail).map λp=>aQ (bw p.1) (bw p.2)).all id=nu b|[]=>rfl|[a]=>rfl|a::b::r=>by have c:=xU (b::r);simp only[map_cons,List.tail_cons,List.zip_cons_cons,all_cons,nu]at c ⊢;rw[c];rfl
inductive F1r(a0:Sl)(ρ:List Sl):Prop where|mk(s:Sl)(t:Sl)(q0:ρ=[a0,s,t])(q1:fr s=true)(q2:fr t=true)
theorem V2{a b:Pr}:cm .lt (bI a) (bI b)=some (aQ (bw (bI a)) (bw (bI b))):=rfl
theorem oO{bs:List Bool}:(bs.map D.bl).mapM uU=some bs:=by induction bs with|nil=>rfl|cons b bs a=>simp[a]
theorem nC{s:Sl}{f:Bool}{b:List Pr}(hs:PL s f b)(l:b.length<=1000)(q:Q (.val (.bl (nu b))) [vl f b]):(run Γ w (n+1) 0 [s]).sat Q:=by
 refine bM (d:=f0) rfl rfl (by decide) ?_;symm;have j:cut (b.map bI) (some 1) none=(b.map bI).tail:=by cases b with|nil=>rfl|cons a r=>simp[cut,cM];exact take_of_length_le (by simp)
 rcases hs with rfl|rfl;all_goals
  simp[f0,zP,part,zm,j];refine⟨λ_=>?_,by show _<=16777217;omega⟩;refine dj (F1r _) Rx ⟨.aU,.aU,rfl,rfl,rfl⟩ ?_ ?_;.rintro d hd _⟨s,t,rfl,hs,h⟩;obtain⟨⟨x,y⟩,g,rfl⟩:=List.mem_map.mp hd;have i:=of_mem_zip g;obtain⟨a,_,rfl⟩:=List.mem_map.mp i.1;obtain⟨c,_,rfl⟩:=List.mem_map.mp (List.mem_of_mem_tail i.2);simp[hs,h,V2];exact⟨rfl,_,_,rfl,rfl,rfl⟩
  . rintro _⟨s,t,rfl,hs,h⟩;have e:=xU b;have k:(((b.map bI).zip (b.map bI).tail).map λp=>D.tup [p.1,p.2]).map Rx=((((b.map bI).zip (b.map bI).tail).map λp=>aQ (bw p.1) (bw p.2))).map D.bl:=by rw[map_map,map_map];rfl
    rw[k];simp only[KC,Eu,oO,Option.map_some,pB,bW,Bq,e];simp;exact q
@[simp]theorem ZD{c:cu}:vd c.d (.int 0)=some (.val (.int c.m)):=by simp[cu.d]
@[simp]theorem Zy{c:cu}:vd c.d (.int 1)=some (.val (.int c.T)):=by simp[cu.d]
@[simp]theorem ZC{c:cu}:vd c.d (.int 2)=some (.val (.tup (c.ways.map gB.d))):=by simp[cu.d]
@[simp]theorem ZR{c:cu}:vd c.d (.int 3)=some (.val (.tup (c.rooms.map cB))):=by simp[cu.d]
@[simp]theorem Zx{c:cu}:vd c.d (.int 4)=some (.val (.tup (c.waits.map lD))):=by simp[cu.d]
def wt(c:cu)(p:Int):Option (List Int):=(c.waits[p.toNat]?).join
theorem sO{c:cu}(hc:c.Ok)(a:0<=p)(e:p<c.m):at' (c.waits.map lD) p=some (lD (wt c p)):=by
 have b:p.toNat<c.waits.length:=by have:=hc.al;omega
 rw[vK a (by rw[length_map];omega),getElem?_map];unfold wt;simp[b]
@[simp]theorem Xp{o:Option (List Int)}:cm .M8 (lD o) .non=some (!o.isSome):=by cases o<;>rfl
@[simp]theorem U0{o:Option (List Int)}:cm .uN (lD o) .non=some o.isSome:=by cases o<;>rfl
@[simp]theorem Qs{o:Option (List Int)}:gV (lD o)=!o.isSome:=by cases o<;>rfl
def stay(c:cu)(b:List Pr)(p h:Int):Bool:=decide (h=c.T)||(wt c p).isSome||decide ((p,h+1)∈b)
abbrev bQ(c:cu):Sl:=.val false c.d
abbrev oA(b:List Pr):Sl:=.val false (Vc b)
theorem yz{c:cu}{b:List Pr}{h:Int}(hc:c.Ok)(f:0<=p)(g:p<c.m)(k:Q (.val (.bl (stay c b p h))) [bQ c,oA b,.val false (.int p),.val false (.int h)]):(run Γ w (n+1) 1 [bQ c,oA b,.val false (.int p),.val false (.int h)]).sat Q:=by refine bM (d:=f1) rfl rfl (by decide) ?_;symm;have i:=sO hc f g;unfold stay at k;simp[f1,i];refine⟨λe=>by simpa[e]using k,λe=>⟨λa=>by simpa[e,a]using k,λa=>by simpa[e,a]using k⟩⟩
def inR(c:cu)(p h:Int):Bool:=decide (0<=p)&&decide (p<c.m-1)&&decide (0<=h)&&decide (h<=c.T)
def zJ(c:cu)(b:List Pr)(p h:Int):Bool:=inR c p h&&stay c b p h
theorem CJ{c:cu}{b:List Pr}{h:Int}(hc:c.Ok)(k:Q (.val (.bl (zJ c b p h))) [bQ c,oA b,.val false (.int p),.val false (.int h)]):(run Γ w (n+2) 2 [bQ c,oA b,.val false (.int p),.val false (.int h)]).sat Q:=by
 refine bM (d:=f2) rfl rfl (by decide) ?_;symm;have fin:inR c p h=false->Q (.val (.bl false)) [bQ c,oA b,.val false (.int p),.val false (.int h)]:=λe=>by simpa[zJ,e]using k
 by_cases h1:0<=p
 . by_cases a:p<c.m-1
   . by_cases f:0<=h
     . by_cases g:h<=c.T;.simp[f2,h1,a,f,g];symm;simp;refine yz hc h1 (by omega) ?_;simp;simpa[zJ,inR,h1,a,f,g]using k
       .simp[f2,h1,a,f,g];symm;simp;exact fin (by simp[inR,g])
     .simp[f2,h1,a,f];symm;simp;exact fin (by simp[inR,f])
   .simp[f2,h1,a];symm;simp;exact fin (by simp[inR,a])
 .simp[f2,h1];symm;simp;exact fin (by simp[inR,h1])
def beg(c:cu)(b:List Pr):Bool:=(List.range (c.T+1).toNat).all λh=>decide ((0,(h:Int))∈b)
def pI(c:cu)(b:List Pr):Bool:=nu b&&beg c b&&b.all λp=>zJ c b p.1 p.2
def SN(b:List Pr):D->D|.int h=>.bl (decide ((0,h)∈b))|d=>d
def Zn(c:cu)(b:List Pr):D->D|.tup [.int p,.int h]=>.bl (zJ c b p h)|d=>d
inductive FAa(a0 a1 a2:Sl)(ρ:List Sl):Prop where|mk(s:Sl)(q0:ρ=[a0,a1,a2,s])(q1:fr s=true)
inductive FAb(a0 a1 a2:Sl)(ρ:List Sl):Prop where|mk(s:Sl)(t:Sl)(q0:ρ=[a0,a1,a2,s,t])(q1:fr s=true)(q2:fr t=true)
theorem xF{c:cu}{s:Sl}{f:Bool}{b:List Pr}(hc:c.Ok)(hs:PL s f b)(e:b.length<=1000)(k:Q (.val (.bl (pI c b))) [bQ c,vl f b,oA b]):(run Γ w (n+3) 3 [bQ c,s,oA b]).sat Q:=by
 have t0:=hc.t0;have t1:=hc.t1;have a:b.length<=lim:=by show _<=16777216;omega
 refine bM (d:=f3) rfl rfl (by decide) ?_;symm;rcases hs with rfl|rfl;all_goals
  simp[f3];first|refine nC (.inl rfl) e ?_|refine nC (.inr rfl) e ?_
  simp;cases hr:nu b with|false=>simp;apply ak;simp;simpa[pI,hr]using k|true=>
    simp[show c.T+1<=16777216 by omega,show c.T+1<=1000000000 by omega,show-1000000000<=c.T+1 by omega];refine dj (FAa _ _ _) (SN b) ⟨.aU,rfl,rfl⟩ ?_ ?_;.rintro d hd _⟨s,rfl,hs⟩;obtain⟨j,_,rfl⟩:=List.mem_map.mp hd;simp[hs];exact⟨rfl,_,rfl,rfl⟩
    rintro _⟨s,rfl,hs⟩;have i:((List.range (c.T+1).toNat).map λ(k:Nat)=>D.int (k:Int)).map (SN b)=((List.range (c.T+1).toNat).map λ(h:Nat)=>decide ((0,(h:Int))∈b)).map D.bl:=by rw[map_map,map_map];rfl
    rw[i,oO];have l:((List.range (c.T+1).toNat).map λ(h:Nat)=>decide ((0,(h:Int))∈b)).all id=beg c b:=by unfold beg;rw[all_map];rfl
    simp[l];cases hb:beg c b with|false=>simp;apply ak;simp;simpa[pI,hr,hb]using k|true=>
      simp;apply ak;simp[a];refine dj (FAb _ _ _) (Zn c b) ⟨.aU,.aU,rfl,rfl,rfl⟩ ?_ ?_;.rintro d hd _⟨s,t,rfl,hs,g⟩;obtain⟨p,_,rfl⟩:=List.mem_map.mp hd;simp[hs,g,bI];refine CJ hc ?_;simp;exact⟨rfl,_,_,rfl,rfl,rfl⟩
      rintro _⟨s,t,rfl,hs,g⟩;have m:(b.map bI).map (Zn c b)=(b.map λp=>zJ c b p.1 p.2).map D.bl:=by rw[map_map,map_map];rfl
      rw[m,oO];have o:(b.map λp=>zJ c b p.1 p.2).all id=b.all λp=>zJ c b p.1 p.2:=by rw[all_map];rfl
      simp[o];simpa[pI,hr,hb]using k
theorem uf{b:List Pr}{x y a c:Int}(k:Q (.val (.bl (decide ((x,y)∈b)&&!decide ((a,c)∈b)))) [oA b,.val false (.tup [.int x,.int y]),.val false (.tup [.int a,.int c])]):(run Γ w (n+1) 4 [oA b,.val false (.tup [.int x,.int y]),.val false (.tup [.int a,.int c])]).sat Q:=by
 refine bM (d:=f4) rfl rfl (by decide) ?_;symm;simp[f4];refine⟨λe=>?_,λe=>?_⟩;.simpa[e]using k
 .simpa[e]using k
def bR(f:Nat->Int):Nat->Int|0=>0|n+1=>bR f n+f n
def gi(b:List Pr)(v:gB)(r:List Int)(j:Nat):Int:=if(decide ((v.s,(j:Int))∈b)&&!decide ((v.t,(j:Int)+v.h)∈b))=true then r.getD j 0 else 0
def gw(b:List Pr)(T:Int)(p:gB×List Int):Int:=bR (gi b p.1 p.2) (T-p.1.h+1).toNat
def zq(b:List Pr)(T:Int)(l:List (gB×List Int)):Int:=(l.map (gw b T)).sum
theorem tR{b:List Pr}{T:Int}{l:List (gB×List Int)}{p:gB×List Int}:zq b T (l++[p])=zq b T l+gw b T p:=by unfold zq;simp
theorem XJ{v:gB}:vd v.d (.int 0)=some (.val (.int v.s)):=by simp[gB.d]
theorem XQ{v:gB}:vd v.d (.int 1)=some (.val (.int v.t)):=by simp[gB.d]
theorem Th{v:gB}:vd v.d (.int 2)=some (.val (.int v.h)):=by simp[gB.d]
theorem Ib:∀(a:List gB)(b:List (List Int)),((a.map gB.d).zip (b.map cB)).map (λp=>D.tup [p.1,p.2])=(a.zip b).map λp=>D.tup [p.1.d,cB p.2]|[],_=>by simp|_::_,[]=>by simp|f::fs,w::a=>by simp[Ib fs a]
inductive JWo(c:cu)(b:List Pr)(r:List D)(ρ:List Sl):Prop where|mk(j5 us:List (gB×List Int))(s3 s4 s5:Sl)(q0:ρ=[bQ c,oA b,.val false (.int (zq b c.T j5)),s3,s4,s5])(q1:A3 (fr s3=true) (fr s4=true) (fr s5=true))(q2:r=us.map (λp=>D.tup [p.1.d,cB p.2]))(q3:j5++us=c.ways.zip c.rooms)
inductive JWh(c:cu)(b:List Pr)(v:gB)(r:List Int)(t0:Int)(i:Nat)(ρ:List Sl):Prop where|mk(s5:Sl)(q0:ρ=[bQ c,oA b,.val false (.int (t0+bR (gi b v r) i)),.val false v.d,.val false (cB r),s5])(q1:fr s5=true)
theorem vm{r:List Int}{j:Nat}(h:j<r.length):at' (r.map D.int) (j:Int)=some (.int (r.getD j 0)):=by have e:=fZ (f:=D.int) (show r[j]?=some r[j]by simp[h]);rw[e];simp[h]
theorem uC{c:cu}{b:List Pr}(hc:c.Ok)(k:Q (.val (.int (zq b c.T (c.ways.zip c.rooms)))) [bQ c,oA b]):(run Γ w (n+2) 5 [bQ c,oA b]).sat Q:=by
 have t0:=hc.t0;have t1:=hc.t1;have x:=hc.rl;have y:=hc.wl;refine bM (d:=f5) rfl rfl (by decide) ?_;symm;simp[f5];apply ak;have z:min c.ways.length c.rooms.length<=lim:=by show _<=16777216;omega
 simp[z];rw[Ib];refine cC (JWo c b) ?_ ?_ ⟨[],c.ways.zip c.rooms,.aU,.aU,.aU,rfl,⟨rfl,rfl,rfl⟩,rfl,rfl⟩;.rintro d f _⟨l,a,s3,s4,s5,rfl,⟨A,B,j⟩,hr,hd⟩;cases a with|nil=>cases hr|cons u a=>
     obtain⟨v,r⟩:=u;obtain⟨rfl,rfl⟩:d=D.tup [v.d,cB r]/\f=a.map (λp=>D.tup [p.1.d,cB p.2]):=by simpa using hr
     have o:(v,r)∈c.ways.zip c.rooms:=by rw[<-hd];simp
     have q:=hc.wok v (of_mem_zip o).1;have C:=hc.rok r (of_mem_zip o).2;have G:=q.h0;have H:=q.h1;simp[A,B];apply ak;simp[Th];refine⟨⟨by omega,by omega⟩,?_⟩;refine dg (JWh c b v r (zq b c.T l)) ?_ ?_ ⟨s5,by simp[bR],j⟩
     . rintro i _ hi⟨s5,rfl,j⟩;have m:i<r.length:=by omega
       have E:=vm m;simp[j];apply ak;simp[XJ,XQ,Th];refine uf ?_;generalize F:(decide ((v.s,(i:Int))∈b)&&!decide ((v.t,(i:Int)+v.h)∈b))=g;have e:bR (gi b v r) (i+1)=bR (gi b v r) i+if g=true then r.getD i 0 else 0:=by rw[<-F];rfl
       cases g with|false=>simp;exact⟨_,by rw[e];simp;rfl,rfl⟩|true=>simp;apply ak;simp[cB,E];exact⟨_,by rw[e];simp[cB,add_assoc];rfl,rfl⟩
     .rintro _⟨s5,rfl,j⟩;simp;exact⟨l++[(v,r)],a,_,_,_,by rw[tR];rfl,⟨rfl,rfl,j⟩,rfl,by rw[append_assoc];exact hd⟩
 . rintro _⟨l,a,s3,s4,s5,rfl,_,hr,hd⟩;have:a=[]:=by cases a with|nil=>rfl|cons _ _=>cases hr
   subst this;rw[append_nil]at hd;subst hd;symm;simp;exact k
def hw(b:List Pr)(p:Int)(r:List Int)(j:Nat):Int:=if(decide ((p,(j:Int))∈b)&&!decide ((p,(j:Int)+1)∈b))=true then r.getD j 0 else 0
def ow(b:List Pr)(p:Int):Option (List Int)->Int|none=>0|some r=>bR (hw b p r) r.length
def wo(c:cu)(b:List Pr)(p:Nat):Int:=ow b p (wt c p)
theorem p8{a:Type}{L:List a}{i:Nat}{d:a}{r:List a}(h:d::r=L.drop i):L[i]?=some d/\r=L.drop (i+1):=by
 constructor
 . have h1:L[i]?=(L.drop i)[0]?:=by simp
   rw[h1,<-h];rfl
 .rw[<-List.tail_drop,<-h];rfl
theorem ud{a:Type}{L:List a}{i:Nat}(h:[]=L.drop i)(hi:i<=L.length):i=L.length:=by have:=congrArg List.length h;simp at this;omega
abbrev Z6(l:List D):List D:=l.mapIdx λi d=>D.tup [.int (i:Int),d]
inductive JWa(c:cu)(b:List Pr)(r:List D)(ρ:List Sl):Prop where|mk(i:Nat)(s3 s4 s5 s6:Sl)(q0:ρ=[bQ c,oA b,.val false (.int (bR (wo c b) i)),s3,s4,s5,s6])(q1:A4 (fr s3=true) (fr s4=true) (fr s5=true) (fr s6=true))(q2:r=(Z6 (c.waits.map lD)).drop i)(q3:i<=c.waits.length)
inductive JWb(c:cu)(b:List Pr)(t0:Int)(i:Nat)(r:List Int)(rs:List D)(ρ:List Sl):Prop where|mk(j:Nat)(s5 s6:Sl)(q0:ρ=[bQ c,oA b,.val false (.int (t0+bR (hw b i r) j)),.val false (.int i),.val false (cB r),s5,s6])(q1:(fr s5=true/\fr s6=true))(q2:rs=(Z6 (r.map D.int)).drop j)(q3:j<=r.length)
theorem rP{c:cu}{b:List Pr}(hc:c.Ok)(k:Q (.val (.int (bR (wo c b) c.m.toNat))) [bQ c,oA b]):(run Γ w (n+2) 6 [bQ c,oA b]).sat Q:=by
 have t0:=hc.t0;have t1:=hc.t1;have G:=hc.al;have O:=hc.m1;refine bM (d:=f6) rfl rfl (by decide) ?_;symm;simp[f6];apply ak;simp[show c.waits.length<=lim by show _<=16777216;omega];refine cC (JWa c b) ?_ ?_ ⟨0,.aU,.aU,.aU,.aU,rfl,⟨rfl,rfl,rfl,rfl⟩,rfl,by omega⟩
 . rintro d h _⟨i,s3,s4,s5,s6,rfl,⟨H,I,a,f⟩,hr,hi⟩;obtain⟨v,x⟩:=p8 hr;rw[List.getElem?_mapIdx,getElem?_map,Option.map_map]at v;obtain⟨o,s,z⟩:=map_eq_some_iff.mp v;simp only[Function.comp]at z;subst z;have l:i<c.waits.length:=(gW s).1;have t:wt c (i:Int)=o:=by unfold wt;simp[s]
   have e:bR (wo c b) (i+1)=bR (wo c b) i+ow b i o:=by rw[<-t];rfl
   simp[H,I];apply ak;cases o with|none=>simp;exact⟨i+1,.val false (.int i),.val false .non,s5,s6,by rw[e];simp[ow,lD],⟨rfl,rfl,a,f⟩,x,l⟩|some r=>
     have J:=hc.aok r (mem_of_getElem? s);simp;apply ak;simp[lD,cB,show r.length<=lim by show _<=16777216;omega];refine cC (JWb c b (bR (wo c b) i) i r) ?_ ?_ ⟨0,s5,s6,by simp[bR,cB],⟨a,f⟩,rfl,by omega⟩
     . rintro d h _⟨j,s5,s6,rfl,⟨a,f⟩,hr,A⟩;obtain⟨B,C⟩:=p8 hr;rw[List.getElem?_mapIdx,getElem?_map,Option.map_map]at B;obtain⟨y,E,F⟩:=map_eq_some_iff.mp B;simp only[Function.comp]at F;subst F;have q:j<r.length:=(gW E).1;have L:r.getD j 0=y:=by simp[E]
       simp[a,f];apply ak;simp;refine uf ?_;generalize M:(decide (((i:Int),(j:Int))∈b)&&!decide (((i:Int),(j:Int)+1)∈b))=g;have u:bR (hw b i r) (j+1)=bR (hw b i r) j+if g=true then r.getD j 0 else 0:=by rw[<-M];rfl
       rw[L]at u;cases g with|false=>simp;exact⟨j+1,.val false (.int j),.val false (.int y),by rw[u];simp[cB],⟨rfl,rfl⟩,C,q⟩|true=>simp;apply ak;simp;exact⟨j+1,.val false (.int j),.val false (.int y),by rw[u];simp[add_assoc,cB],⟨rfl,rfl⟩,C,q⟩
     .rintro _⟨j,s5,s6,rfl,⟨a,f⟩,hr,A⟩;have:=ud hr (by simpa using A);simp at this;subst this;simp;exact⟨i+1,.val false (.int i),.val false (cB r),s5,s6,by rw[e];rfl,⟨rfl,rfl,a,f⟩,x,l⟩
 . rintro _⟨i,s3,s4,s5,s6,rfl,_,hr,hi⟩;have N:i=c.waits.length:=by simpa using ud hr (by simpa using hi)
   symm;simp;rw[N,show c.waits.length=c.m.toNat by omega];exact k
theorem G4{c:Call}{x:Nat}{ρ:List Sl}:ex c n (.DK x) ρ=match ρ[x]?with|some .aU=>.ok .next (ρ.set x (.gY (.s [])))|_=>.stuck:=(rfl)
theorem Gh{c:Call}{x k:Nat}{ρ:List Sl}:ex c n (.zK x k) ρ=match ρ[x]?,ρ[k]?with|some (.gY (.s ks)),some (.val _ (.tup ds))=>if gZ (.tup ds)=true/\ks.length<lim then .ok .next (ρ.set x (.gY (.s (stK ks (ds.map cJ)))))else .stuck|_,_=>.stuck:=(rfl)
@[simp]theorem Zt{c:Call}{x:Nat}{ρ:List Sl}:ev c (.vw x) ρ=match ρ[x]?with|some (.gY m)=>.ok (.val (.cX m)) (ρ.set x (.val false (.cX m)))|some (.qD a)=>.ok (.val (.dv (a.map (·.1)) (a.map (·.2)))) (ρ.set x (.val false (.dv (a.map (·.1)) (a.map (·.2)))))|some (.own b ds)=>.ok (.val (.lst ds)) (ρ.set x (.val b (.lst ds)))|some (.val _ d)=>.ok (.val d) ρ|_=>.stuck:=(rfl)
@[simp]theorem R7{x:Nat}:isVar (.vw x)=none:=rfl
theorem zg{b:List Pr}:(dY b).length<=b.length:=by
 have:∀(l acc:List (List Int)),(l.foldl stK acc).length<=acc.length+l.length:=by intro l;induction l with|nil=>intro acc;simp|cons k l a=>
    intro acc;have h:=a (stK acc k);have:(stK acc k).length<=acc.length+1:=by unfold stK;split<;>simp
    simp only[foldl_cons,length_cons];omega
 have h:=this (b.map JT) [];simpa[dY]using h
theorem vR{b:List Pr}{p:Pr}:dY (b++[p])=stK (dY b) (JT p):=by unfold dY;rw[List.map_append,List.foldl_append];rfl
def zH(c:cu)(b:List Pr):Int:=zq b c.T (c.ways.zip c.rooms)+bR (wo c b) c.m.toNat
def uZ(c:cu)(b:List Pr):D:=if pI c b=true then .int (zH c b)else .non
inductive Qn(a0 a1:Sl)(b:List Pr)(r:List D)(ρ:List Sl):Prop where|mk(j5 us:List Pr)(s3:Sl)(q0:ρ=[a0,a1,.gY (.s (dY j5)),s3])(q1:fr s3=true)(q2:r=us.map bI)(q3:j5++us=b)
theorem jz{c:cu}{s:Sl}{f:Bool}{b:List Pr}(hc:c.Ok)(hs:PL s f b)(m:b.length<=1000)(k:Q (.val (uZ c b)) [bQ c,vl f b]):(run Γ w (n+4) 7 [bQ c,s]).sat Q:=by
 refine bM (d:=f7) rfl rfl (by decide) ?_;symm;simp[f7,G4];apply ak;have step:∀{g:Sl}{d:D}{r:List D}{ρ:List Sl}{o:Fl->List Sl->Prop},Qn (bQ c) g b (d::r) ρ->(∀a,Qn (bQ c) g b r a->o .next a)->∃j,cj ρ [3] true d=some j/\(je (run Γ w (n+3)) w [.zK 2 3] j).sat o:=by rintro g d r _ o⟨l,i,s3,rfl,q,hr,hd⟩x;cases i with|nil=>cases hr|cons u i=>
    obtain⟨rfl,rfl⟩:d=bI u/\r=i.map bI:=by simpa using hr
    have t:=zg (b:=l);have y:l.length<=1000:=by rw[<-hd]at m;simp at m;omega
    simp[q,bI];apply ak;have e:(dY l).length<lim:=by show _<16777216;omega
    simp[Gh,gZ,cI,cJ,e];refine x _ ⟨l++[u],i,_,by rw[vR];rfl,rfl,rfl,by rw[append_assoc];exact hd⟩
 have fin:∀{s:Sl}{s3:Sl},PL s f b->(je (run Γ w (n+3)) w [.ifs (.not (.call 3 [.var 0,.var 1,.vw 2])) [.ret (.con .non)] [],.ret (.bin .add (.call 5 [.var 0,.vw 2]) (.call 6 [.var 0,.vw 2]))] [bQ c,s,.gY (.s (dY b)),s3]).sat (eQ 2 Q):=by intro s s3 hs;symm;rcases hs with rfl|rfl;all_goals
   simp;first|refine xF hc (.inl rfl) m ?_|refine xF hc (.inr rfl) m ?_
   simp;cases ha:pI c b with|false=>simp;apply ak;simp;simpa[uZ,ha]using k|true=>simp;apply ak;simp;refine uC hc ?_;simp;refine rP hc ?_;simp;simpa[uZ,zH,ha]using k
 have v:∀{g:Sl}{ρ:List Sl},Qn (bQ c) g b [] ρ->∃s3,ρ=[bQ c,g,.gY (.s (dY b)),s3]:=by
  rintro g _⟨l,i,s3,rfl,q,hr,hd⟩;have:i=[]:=by cases i with|nil=>rfl|cons _ _=>cases hr
  subst this;rw[append_nil]at hd;subst hd;exact⟨_,rfl⟩
 rcases hs with rfl|rfl;.simp;refine cC (Qn (bQ c) (.lent (b.map bI)) b) (λd r ρ h=>step h λa h'=>h') (λρ h=>?_) ⟨[],b,.aU,rfl,rfl,rfl,rfl⟩;obtain⟨s3,rfl⟩:=v h;exact fin (.inl rfl)
 .simp;refine cC (Qn (bQ c) (vl f b) b) (λd r ρ h=>step h λa h'=>h') (λρ h=>?_) ⟨[],b,.aU,rfl,rfl,rfl,rfl⟩;obtain⟨s3,rfl⟩:=v h;exact fin (.inr rfl)
theorem An{c:cu}{b:List Pr}{h:Int}{r:List Pr}(k:stay c b p h=true):stay c (b++r) p h=true:=by
 unfold stay at*;simp only[or_eq_true,decide_eq_true_eq,mem_append]at*;rcases k with k|k;.exact .inl k
 .exact .inr (.inl k)
structure fH(c:cu)(b:List Pr):Prop where
 ri:b.Pairwise o7
 be:∃r,b=((List.range (c.T+1).toNat).map λ(h:Nat)=>((0:Int),(h:Int)))++r
 rg:∀x∈b,inR c x.1 x.2=true
 st:∀x∈b,stay c b x.1 x.2=true
 len:b.length<=100
structure Lt(c:cu)(b:List Pr)(P j:Int)(a:Bool):Prop where
 ri:b.Pairwise o7
 be:∃r,b=((List.range (c.T+1).toNat).map λ(h:Nat)=>((0:Int),(h:Int)))++r
 rg:∀x∈b,0<=x.1/\(x.1<P\/x.1=P/\x.2<j)/\0<=x.2/\x.2<=c.T
 st:∀x∈b,stay c b x.1 x.2=true\/x=(P,j-1)/\a=true
 len:(b.length:Int)<=P*13+j
theorem Lt.next{c:cu}{b:List Pr}{P j:Int}{a v:Bool}(h:Lt c b P j a)(m:1<=P)(f:0<=j)(g:j<=c.T)(i:a=true->(wt c P).isSome=false->v=true):Lt c (if v=true then b++[(P,j)]else b) P (j+1) v:=by
 cases v with|true=>
   rw[if_pos rfl];refine⟨?_,?_,λx hx=>?_,λx hx=>?_,by have:=h.len;simp;omega⟩
   . rw[pairwise_append];refine⟨h.ri,by simp,λx hx y k=>?_⟩;obtain rfl:y=(P,j):=by simpa using k
     have:=(h.rg x hx).2.1;unfold o7;simp only;omega
   .obtain⟨r,e⟩:=h.be;exact⟨r++[(P,j)],by rw[e,append_assoc]⟩
   . rcases mem_append.mp hx with hx|hx;.have:=h.rg x hx;omega
     . obtain rfl:x=(P,j):=by simpa using hx
       exact⟨by show 0<=P;omega,.inr ⟨rfl,by show j<j+1;omega⟩,f,g⟩
   . rcases mem_append.mp hx with hx|hx
     . rcases h.st x hx with e|⟨rfl,_⟩;.exact .inl (An e)
       .refine .inl ?_;unfold stay;simp
     . obtain rfl:x=(P,j):=by simpa using hx
       exact .inr ⟨by simp,rfl⟩|false=>
   rw[if_neg (by decide)];refine⟨h.ri,h.be,λx hx=>?_,λx hx=>?_,by have:=h.len;omega⟩;.have:=h.rg x hx;omega
   . rcases h.st x hx with e|⟨rfl,l⟩;.exact .inl e
     . refine .inl ?_;have hw:(wt c P).isSome=true:=by cases e:(wt c P).isSome with|true=>rfl|false=>exact absurd (i l e) (by decide)
       unfold stay;simp[hw]
theorem Lt.turn{c:cu}{b:List Pr}{P:Int}{a:Bool}(h:Lt c b P (c.T+1) a)(t1:c.T<=12):Lt c b (P+1) 0 false:=by
 refine⟨h.ri,h.be,λx f=>?_,λx f=>?_,by have:=h.len;omega⟩;.have:=h.rg x f;omega
 . rcases h.st x f with e|⟨rfl,_⟩;.exact .inl e
   .refine .inl ?_;unfold stay;simp
theorem Lt.zero{c:cu}(t0:0<=c.T)(t1:c.T<=12):Lt c ((List.range (c.T+1).toNat).map λ(h:Nat)=>((0:Int),(h:Int))) 1 0 false:=by
 refine⟨?_,⟨[],by simp⟩,λx f=>?_,λx f=>?_,by simp;omega⟩;.rw[List.pairwise_map];exact List.pairwise_lt_range.imp λ{a b}g=>.inr ⟨rfl,by show(a:Int)<(b:Int);omega⟩
 .obtain⟨i,hi,rfl⟩:=List.mem_map.mp f;rw[mem_range]at hi;simp only;omega
 . obtain⟨i,hi,rfl⟩:=List.mem_map.mp f;rw[mem_range]at hi;refine .inl ?_;unfold stay;simp only[or_eq_true,decide_eq_true_eq];by_cases e:(i:Int)=c.T;.exact .inl (.inl e)
   .exact .inr (List.mem_map.mpr ⟨i+1,by rw[mem_range];omega,by simp⟩)
theorem Lt.ok{c:cu}{b:List Pr}(h:Lt c b (c.m-1) 0 false)(m1:c.m<=6):fH c b:=by
 refine⟨h.ri,h.be,λx a=>?_,λx a=>?_,by have:=h.len;omega⟩;.have:=h.rg x a;unfold inR;simp only[and_eq_true,decide_eq_true_eq];omega
 . rcases h.st x a with e|⟨_,h⟩;.exact e
   .cases h
inductive FLl(a0 a1 a2 a3 a4 a5 a6 a7 a8 a9 a10 a11 a12:Sl)(ρ:List Sl):Prop where|mk(s:Sl)(q0:ρ=[a0,a1,a2,a3,a4,a5,a6,a7,a8,a9,a10,a11,a12,s])(q1:fr s=true)
inductive JLa(ds:List Int)(A:Int)(c:cu)(i:Nat)(ρ:List Sl):Prop where|mk(b:List Pr)(s9 pg lM s12:Sl)(q0:ρ=[nF ds,.val false (.int A),bQ c,.val false (.int c.m),.val false (.int c.T),.val false (.tup (c.ways.map gB.d)),.val false (.tup (c.rooms.map cB)),.val false (.tup (c.waits.map lD)),.own false (b.map bI),s9,pg,lM,s12])(q1:A4 (fr s9=true) (fr pg=true) (fr lM=true) (fr s12=true))(q2:Lt c b (1+i) 0 false)
inductive ZP(ds:List Int)(A:Int)(c:cu)(P s:Int)(j:Nat)(ρ:List Sl):Prop where|mk(b:List Pr)(a:Bool)(s12:Sl)(q0:ρ=[nF ds,.val false (.int A),bQ c,.val false (.int c.m),.val false (.int c.T),.val false (.tup (c.ways.map gB.d)),.val false (.tup (c.rooms.map cB)),.val false (.tup (c.waits.map lD)),.own false (b.map bI),.val false (.int P),.val false (.int s),.val false (.bl a),s12])(q1:fr s12=true)(q2:Lt c b P j a)
theorem Fj{A:Int}{c:cu}(hd:0<ds.length)(F:0<=A)(hc:c.Ok)(k:∀b,fH c b->Q (.own (b.map bI)) [nF ds,.val false (.int A),bQ c]):(run Γ w (n+2) 13 [nF ds,.val false (.int A),bQ c]).sat Q:=by
 have t0:=hc.t0;have t1:=hc.t1;have m0:=hc.m0;have m1:=hc.m1;refine bM (d:=Uw) rfl rfl (by decide) ?_;symm;simp[Uw,cu.d];apply ak;simp[show c.T+1<=16777216 by omega,show c.T+1<=1000000000 by omega,show-1000000000<=c.T+1 by omega];refine dj (FLl _ _ _ _ _ _ _ _ _ _ _ _ _) (λd=>.tup [.int 0,d]) ⟨.aU,rfl,rfl⟩ ?_ ?_;.rintro d hd _⟨s,rfl,hs⟩;simp[hs];exact⟨_,rfl,rfl⟩
 rintro _⟨s,rfl,hs⟩;have r:((List.range (c.T+1).toNat).map λ(k:Nat)=>D.int (k:Int)).map (λd=>D.tup [.int 0,d])=((List.range (c.T+1).toNat).map λ(h:Nat)=>((0:Int),(h:Int))).map bI:=by rw[map_map,map_map];rfl
 rw[r];simp;apply ak;simp[show c.m-1<=1000000000 by omega,show-1000000000<=c.m-1 by omega];refine dg (JLa ds A c) ?_ ?_ ⟨_,.aU,.aU,.aU,.aU,by rw[map_map],⟨rfl,rfl,rfl,rfl⟩,Lt.zero t0 t1⟩
 . rintro i _ hi⟨b,s9,pg,lM,s12,rfl,⟨x,o,q,f⟩,l⟩;simp[x];apply ak;simp;refine aV hd (by omega) (by omega) (by omega) λe G r=>?_;simp[o];apply ak;simp[q];apply ak;simp[show c.T+1<=1000000000 by omega,show-1000000000<=c.T+1 by omega];refine dg (ZP ds A c (1+i) (1+e)) ?_ ?_ ⟨b,false,s12,rfl,f,l⟩
   . rintro j _ H⟨b,a,s12,rfl,f,l⟩;have y:=sO hc (p:=1+(i:Int)) (by omega) (by omega);simp[f];apply ak;simp;refine aV hd (by omega) (by omega) (by omega) λg I J=>?_;have go:∀(v:Bool){K:Fl->List Sl->Prop},(a=true->(wt c (1+(i:Int))).isSome=false->v=true)->(je (run Γ w (n+1)) w [.ifs (.var 11) [.app 8 (.tup [.var 9,.var 12])] []] [nF ds,.val false (.int A),bQ c,.val false (.int c.m),.val false (.int c.T),.val false (.tup (c.ways.map gB.d)),.val false (.tup (c.rooms.map cB)),.val false (.tup (c.waits.map lD)),.own false (b.map bI),.val false (.int (1+(i:Int))),.val false (.int (1+e)),.val false (.bl v),.val false (.int (j:Int))]).sat (fQ (ZP ds A c (1+i) (1+e) (j+1)) K):=by
      intro v K z;have t:=l.next (v:=v) (by omega) (by omega) (by omega) z;have B:b.length<lim:=by have:=l.len;show _<16777216;omega
      symm;cases v with|true=>simp;apply ak;simp[B];exact⟨b++[(1+(i:Int),(j:Int))],true,.val false (.int j),by simp[bI],rfl,by simpa using t⟩|false=>simp;exact⟨b,false,.val false (.int j),rfl,rfl,by simpa using t⟩
     simp[y];refine⟨λ_=>go true (λ_ _=>rfl),λ_=>⟨λu=>go _ (λ_ hw=>by cases C:wt c (1+(i:Int))<;>simp[C]at hw ⊢),λu=>go false (λh=>by rw[u]at h;cases h)⟩⟩
   . rintro _⟨b,a,s12,rfl,f,l⟩;simp;refine⟨b,_,_,_,_,rfl,⟨rfl,rfl,rfl,f⟩,?_⟩;have E:(((c.T+1).toNat:Nat):Int)=c.T+1:=by omega
     rw[E]at l;have:=l.turn t1;rwa[show(1:Int)+(i:Int)+1=1+((i+1:Nat):Int)by omega]at this
 . rintro _⟨b,s9,pg,lM,s12,rfl,_,l⟩;symm;simp
   exact k b (Lt.ok (by have e:(1:Int)+((c.m.toNat-1-1:Nat):Int)=c.m-1:=by omega
                        rw[<-e];exact l) m1)
def Nr(d:D):D:=.tup [d,.bl true]
theorem uG:∀{b:List Pr},((b.map bI).map Nr).mapM Pa=some (b.map JT)|[]=>rfl|p::b=>by have a:=uG (b:=b);simp only[map_cons,mapM_cons,a];rfl
theorem xY{b:List Pr}(h:b.length<=1000):blt .qF [.lst ((b.map bI).map Nr)]=some (.val (Vc b)):=by show(if((b.map bI).map Nr).length<lim then(((b.map bI).map Nr).mapM Pa).map λks=>R.val (.cX (.s (ks.foldl stK [])))else none)=_;rw[if_pos (by rw[length_map,length_map];show _<16777216;omega),uG];rfl
def gq(c:cu)(b:List Pr)(x:Pr):Int:=match wt c x.1 with|none=>0|some r=>if(decide (x.2<c.T)&&!decide ((x.1,x.2+1)∈b))=true then r.getD x.2.toNat 0 else 0
def Eg(c:cu)(b:List Pr)(l:List Pr):Int:=(l.map (gq c b)).sum
theorem Ci{c:cu}{b l:List Pr}{x:Pr}:Eg c b (l++[x])=Eg c b l+gq c b x:=by unfold Eg;simp
theorem BW{c:cu}(hc:c.Ok){r:List Int}(h:wt c p=some r):(r.length:Int)=c.T:=by unfold wt at h;rw[Option.join_eq_some_iff]at h;exact hc.aok r (mem_of_getElem? h)
inductive FDu(a0 a1 a2 a3 a4 a5 a6 a7 a8 a9 a10 a11 a12 a13 a14:Sl)(ρ:List Sl):Prop where|mk(s:Sl)(q0:ρ=[a0,a1,a2,a3,a4,a5,a6,a7,a8,a9,a10,a11,a12,a13,a14,s])(q1:fr s=true)
inductive JDa(c:cu)(a1:Sl)(b:List Pr)(i:Nat)(ρ:List Sl):Prop where|mk(s9 pg lM s12 pq:Sl)(q0:ρ=[bQ c,a1,.val false (.int c.m),.val false (.int c.T),.val false (.tup (c.ways.map gB.d)),.val false (.tup (c.rooms.map cB)),.val false (.tup (c.waits.map lD)),oA b,.val false (.int (zq b c.T ((c.ways.zip c.rooms).take i))),s9,pg,lM,s12,pq,.aU])(q1:fr s9=true)(q2:fr pg=true)(q3:fr lM=true)(q4:fr s12=true)(q5:fr pq=true)
inductive JDb(c:cu)(a1:Sl)(b:List Pr)(t0:Int)(i:Nat)(v:gB)(r:List Int)(j:Nat)(ρ:List Sl):Prop where|mk(pq:Sl)(q0:ρ=[bQ c,a1,.val false (.int c.m),.val false (.int c.T),.val false (.tup (c.ways.map gB.d)),.val false (.tup (c.rooms.map cB)),.val false (.tup (c.waits.map lD)),oA b,.val false (.int (t0+bR (gi b v r) j)),.val false (.int i),.val false (.int v.s),.val false (.int v.t),.val false (.int v.h),pq,.aU])(q1:fr pq=true)
inductive Z5(c:cu)(a1:Sl)(b:List Pr)(t0:Int)(r:List D)(ρ:List Sl):Prop where|mk(j5 us:List Pr)(s9 pg lM s12 pq mH:Sl)(q0:ρ=[bQ c,a1,.val false (.int c.m),.val false (.int c.T),.val false (.tup (c.ways.map gB.d)),.val false (.tup (c.rooms.map cB)),.val false (.tup (c.waits.map lD)),oA b,.val false (.int (t0+Eg c b j5)),s9,pg,lM,s12,pq,mH])(q1:(fr pq=true/\fr mH=true))(q2:r=us.map bI)(q3:j5++us=b)
theorem GP{c:cu}{s:Sl}{f:Bool}{b:List Pr}(hc:c.Ok)(hs:PL s f b)(W:fH c b)(k:Q (.val (.int (zq b c.T (c.ways.zip c.rooms)+Eg c b b))) [bQ c,s]):(run Γ w (n+1) 14 [bQ c,s]).sat Q:=by have t0:=hc.t0;have t1:=hc.t1;have Ng:=W.len;have H:=hc.rl;have ae:=hc.wl;refine bM (d:=Uq) rfl rfl (by decide) ?_;symm;rcases hs with rfl|rfl;all_goals
  simp[Uq,cu.d];apply ak;simp[show b.length<=lim by show _<=16777216;omega];refine dj (FDu _ _ _ _ _ _ _ _ _ _ _ _ _ _ _) Nr ⟨.aU,rfl,rfl⟩ ?_ ?_;.rintro d hd _⟨s,rfl,hs⟩;simp[hs];exact⟨rfl,_,rfl,rfl⟩
  rintro _⟨s,rfl,hs⟩;rw[xY (by omega)];simp;apply ak;simp;apply ak;simp[show(c.ways.length:Int)<=1000000000 by omega];refine dg (JDa c _ b) ?_ ?_ ⟨.aU,.aU,.aU,.aU,.aU,by simp[zq];rfl,rfl,rfl,rfl,rfl,rfl⟩
  . rintro i _ hi⟨s9,pg,lM,s12,pq,rfl,X,q,y,z,a⟩;obtain⟨v,ev⟩:∃v,c.ways[i]?=some v:=⟨c.ways[i],by simp[hi]⟩;obtain⟨r,I⟩:∃r,c.rooms[i]?=some r:=⟨c.rooms[i]'(by omega),by simp[show i<c.rooms.length by omega]⟩;have A:=fZ (f:=gB.d) ev;have a2:=fZ (f:=cB) I;have Y:=hc.wok v (mem_of_getElem? ev);have af:=hc.rok r (mem_of_getElem? I);have v0:=Y.h0;have v1:=Y.h1;have J:(c.ways.zip c.rooms).take (i+1)=(c.ways.zip c.rooms).take i++[(v,r)]:=by
     have:(c.ways.zip c.rooms)[i]?=some (v,r):=by rw[List.getElem?_zip_eq_some];exact⟨ev,I⟩
     rw[List.take_add_one,this];rfl
    simp[X];apply ak;simp[A,gB.d,q,y,z];apply ak;simp[show c.T+1-v.h<=1000000000 by omega,show-1000000000<=c.T+1-v.h by omega];refine dg (JDb c _ b (zq b c.T ((c.ways.zip c.rooms).take i)) i v r) ?_ ?_ ⟨pq,by simp[bR];rfl,a⟩
    . rintro j _ L⟨pq,rfl,a⟩;have M:j<r.length:=by omega
      have F:=vm M;simp[a];apply ak;generalize g:decide ((v.s,(j:Int))∈b)=Z;generalize o:decide ((v.t,(j:Int)+v.h)∈b)=g2;have e:bR (gi b v r) (j+1)=bR (gi b v r) j+if(Z&&!g2)=true then r.getD j 0 else 0:=by rw[<-g,<-o];rfl
      cases Z with|false=>simp[g];exact⟨.val false (.int j),by rw[e];simp,rfl⟩|true=>cases g2 with|true=>simp[g,o];exact⟨.val false (.int j),by rw[e];simp,rfl⟩|false=>simp[g,o];apply ak;simp[a2,cB,F];exact⟨.val false (.int j),by rw[e];simp[add_assoc,cB],rfl⟩
    .rintro _⟨pq,rfl,a⟩;simp;exact⟨_,_,_,_,pq,by rw[J,tR];unfold gw;rw[show c.T-v.h+1=c.T+1-v.h by omega],rfl,rfl,rfl,rfl,a⟩
  . rintro _⟨s9,pg,lM,s12,pq,rfl,X,q,y,z,a⟩;symm;have J:(c.ways.zip c.rooms).take c.ways.length=c.ways.zip c.rooms:=take_of_length_le (by rw[List.length_zip];omega);simp only[J];generalize zq b c.T (c.ways.zip c.rooms)=N at*;simp;refine cC (Z5 c _ b N) ?_ ?_ ⟨[],b,s9,pg,lM,s12,pq,.aU,by simp[Eg];rfl,⟨a,rfl⟩,rfl,rfl⟩;.rintro d B _⟨O,l,s9,pg,lM,s12,pq,mH,rfl,⟨a,U⟩,hr,hd⟩;cases l with|nil=>cases hr|cons u l=>
        obtain⟨rfl,rfl⟩:d=bI u/\B=l.map bI:=by simpa using hr
        have hu:u∈b:=by rw[<-hd];simp
        have hi:=W.rg u hu;unfold inR at hi;simp only[and_eq_true,decide_eq_true_eq]at hi;have C:=sO hc (p:=u.1) (by omega) (by omega);have fin:∀(A:Sl)(x:Int),gq c b u=x->Z5 c A b N (l.map bI) [bQ c,A,.val false (.int c.m),.val false (.int c.T),.val false (.tup (c.ways.map gB.d)),.val false (.tup (c.rooms.map cB)),.val false (.tup (c.waits.map lD)),oA b,.val false (.int (N+Eg c b O+x)),s9,pg,lM,s12,.val false (.int u.2),.val false (.int u.1)]:=λA x hx=>⟨O++[u],l,s9,pg,lM,s12,_,_,by rw[Ci,hx,add_assoc],⟨rfl,rfl⟩,rfl,by rw[append_assoc];exact hd⟩;simp[a,U,bI];apply ak;cases hw:wt c u.1 with|none=>simp[C,hw];simpa using fin _ 0 (by unfold gq;rw[hw])|some r=>
          have H:=BW hc hw;by_cases E:u.2<c.T
          . by_cases G:(u.1,u.2+1)∈b;.simp[C,hw,E,G];simpa using fin _ 0 (by unfold gq;rw[hw];simp[G])
            .obtain⟨j,L⟩:∃j:Nat,u.2=(j:Int):=⟨u.2.toNat,by omega⟩;have F:=vm (r:=r) (j:=j) (by omega);rw[<-L]at F;simp[C,hw,E,G];apply ak;simp[C,hw,lD,cB,F];exact fin _ _ (by unfold gq;rw[hw];dsimp only;rw[if_pos (by simp[E,G]),L];rfl)
          .simp[C,hw,E];simpa using fin _ 0 (by unfold gq;rw[hw];simp[E])
    . rintro _⟨O,l,s9,pg,lM,s12,pq,mH,rfl,_,hr,hd⟩;have:l=[]:=by cases l with|nil=>rfl|cons _ _=>cases hr
      subst this;rw[append_nil]at hd;subst hd;simp;apply ak;simp;exact k
theorem eX{f g:Nat->Int}:∀{n:Nat},(∀i,i<n->f i=g i)->bR f n=bR g n|0,_=>rfl|n+1,h=>by rw[bR,bR,eX λi hi=>h i (by omega),h n (by omega)]
theorem mX{f g:Nat->Int}:∀{n:Nat},bR (λi=>f i+g i) n=bR f n+bR g n|0=>rfl|n+1=>by rw[bR,bR,bR,mX];omega
theorem eO{f:Nat->Int}:∀{n:Nat},(∀i,i<n->f i=0)->bR f n=0|0,_=>rfl|n+1,h=>by rw[bR,eO λi hi=>h i (by omega),h n (by omega)];rfl
theorem oh{f:Nat->Int}{k:Nat}:∀{n:Nat},k<n->(∀i,i<n->i≠k->f i=0)->bR f n=f k
 |0,h,_=>by omega|n+1,h,a=>by
   rw[bR];by_cases e:k=n;.subst e;rw[eO λi hi=>a i (by omega) (by omega)];omega
   .rw[oh (by omega) λi hi=>a i (by omega),a n (by omega) (by omega)];omega
theorem Ss{G:Pr->Int}{M N:Nat}:∀{l:List Pr},l.Nodup->(∀x∈l,0<=x.1/\x.1<M/\0<=x.2/\x.2<N)->(l.map G).sum=bR (λp=>bR (λh=>if((p:Int),(h:Int))∈l then G (p,h)else 0) N) M
 |[],_,_=>by
   rw[eO];.rfl
   .intro i _;exact eO λj _=>by simp|x::l,b,hr=>by
   rw[nodup_cons]at b;have c:=Ss (G:=G) (M:=M) (N:=N) b.2 λy f=>hr y (by simp[f]);obtain⟨a0,m,b0,b1⟩:=hr x (by simp);have e:∀(p h:Nat),(if((p:Int),(h:Int))∈x::l then G (p,h)else 0)=(if((p:Int),(h:Int))=x then G x else 0)+if((p:Int),(h:Int))∈l then G (p,h)else 0:=λp h=>by
    by_cases q:((p:Int),(h:Int))=x;.rw[if_pos q,if_pos (by simp[q]),if_neg (by rw[q];exact b.1),q];omega
    . rw[if_neg q];by_cases a:((p:Int),(h:Int))∈l;.rw[if_pos a,if_pos (by simp[a])];omega
      .rw[if_neg a,if_neg (by simp[q,a])];rfl
   have one:bR (λp=>bR (λh=>if((p:Int),(h:Int))=x then G x else 0) N) M=G x:=by rw[oh (k:=x.1.toNat) (by omega) λi _ hi=>eO λj _=>if_neg λq=>hi (by rw[<-q];rfl)];rw[oh (k:=x.2.toNat) (by omega) λj _ g=>if_neg λq=>g (by rw[<-q];rfl)];rw[if_pos (Prod.ext (by show((x.1.toNat:Nat):Int)=x.1;omega) (by show((x.2.toNat:Nat):Int)=x.2;omega))]
   rw[map_cons,List.sum_cons,c];have two:bR (λp=>bR (λh=>if((p:Int),(h:Int))∈x::l then G (p,h)else 0) N) M=bR (λp=>bR (λh=>if((p:Int),(h:Int))=x then G x else 0) N+bR (λh=>if((p:Int),(h:Int))∈l then G (p,h)else 0) N) M:=eX λp _=>by rw[<-mX];exact eX λh _=>e p h
   rw[two,mX,one]
theorem fH.nd{c:cu}{b:List Pr}(h:fH c b):b.Nodup:=h.ri.imp λ{x y}a e=>by subst e;unfold o7 at a;omega
theorem fH.sum{c:cu}{b:List Pr}(h:fH c b)(hc:c.Ok):Eg c b b=bR (wo c b) c.m.toNat:=by have t0:=hc.t0;unfold Eg;rw[Ss (M:=c.m.toNat) (N:=(c.T+1).toNat) h.nd λx a=>by have:=h.rg x a;unfold inR at this;simp only[and_eq_true,decide_eq_true_eq]at this;omega];refine eX λp e=>?_;show _=ow b p (wt c p);cases hq:wt c (p:Int)with
 |none=>
   exact eO λj _=>by
    split;.unfold gq;rw[hq]
    .rfl|some r=>
   have f:=BW hc hq;show _=bR (hw b p r) r.length;have ge:∀j:Nat,gq c b ((p:Int),(j:Int))=if(decide ((j:Int)<c.T)&&!decide (((p:Int),(j:Int)+1)∈b))=true then r.getD j 0 else 0:=λj=>by unfold gq;rw[hq];rfl
   have z:(if((p:Int),((r.length:Nat):Int))∈b then gq c b ((p:Int),((r.length:Nat):Int))else 0)=0:=by
    split;.rw[ge,if_neg (by rw[decide_eq_false (show ¬((r.length:Nat):Int)<c.T by omega)];simp)]
    .rfl
   rw[show(c.T+1).toNat=r.length+1 by omega,bR,z,Int.add_zero];refine eX λj g=>?_;rw[ge];unfold hw;by_cases h1:((p:Int),(j:Int))∈b;.rw[if_pos h1,decide_eq_true h1,decide_eq_true (show(j:Int)<c.T by omega)]
   .rw[if_neg h1,decide_eq_false h1];rfl
theorem fH.are{c:cu}{b:List Pr}(h:fH c b)(hc:c.Ok):pI c b=true:=by
 unfold pI;rw[ou.mpr h.ri];have f:beg c b=true:=by unfold beg;rw[all_eq_true];intro j g;obtain⟨r,e⟩:=h.be;rw[decide_eq_true_eq,e];exact mem_append_left _ (List.mem_map.mpr ⟨j,g,rfl⟩)
 rw[f];simp only[Bool.true_and,all_eq_true];intro x a;unfold zJ;rw[h.rg x a,h.st x a];rfl
def dB(c:cu)(b:List Pr):Prop:=¬ b.Pairwise o7\/((0:Int),(0:Int))∉b\/(∃x∈b,inR c x.1 x.2=false)\/∃x∈b,(wt c x.1).isSome=false/\x.2<c.T/\(x.1,x.2+1)∉b
theorem dB.are{c:cu}{b:List Pr}(h:dB c b)(hc:c.Ok):pI c b=false:=by
 have t0:=hc.t0;unfold pI;rcases h with h|h|⟨x,a,h⟩|⟨x,a,h1,g,f⟩;.cases e:nu b with|true=>exact absurd (ou.mp e) h|false=>rfl
 . have:beg c b=false:=by cases e:beg c b with|false=>rfl|true=>unfold beg at e;rw[all_eq_true]at e;have:=e 0 (by rw[mem_range];omega);rw[decide_eq_true_eq]at this;exact absurd this h
   rw[this];simp
 . have:(b.all λp=>zJ c b p.1 p.2)=false:=by rw[List.all_eq_false];exact⟨x,a,by unfold zJ;rw[h];simp⟩
   rw[this];simp
 . have:(b.all λp=>zJ c b p.1 p.2)=false:=by rw[List.all_eq_false];refine⟨x,a,?_⟩;unfold zJ stay;rw[h1,decide_eq_false f,decide_eq_false (show ¬ x.2=c.T by omega)];simp
   rw[this];simp
theorem uc:∀{a b:List Pr},gD (a.map bI) (b.map bI)=decide (a=b)
 |[],[]=>rfl|[],_::_=>rfl|_::_,[]=>rfl|x::a,y::b=>by
   have c:=uc (a:=a) (b:=b);have e:jb (bI x) (bI y)=decide (x=y):=by show((x.1==y.1)&&((x.2==y.2)&&true))=_;rw[Bool.eq_iff_iff];simp[Prod.ext_iff]
   show(jb (bI x) (bI y)&&gD (a.map bI) (b.map bI))=_;rw[e,c,Bool.eq_iff_iff];simp
theorem rJ{a b:List Pr}:cm .ne (.lst (a.map bI)) (.lst (b.map bI))=some (!decide (a=b)):=by
 show vW _ _=_;unfold vW;have d:∀l:List Pr,gO 8 (.lst (l.map bI))=true:=λl=>by show List.all _ (gO 7)=true;rw[all_eq_true];intro d hd;obtain⟨p,_,rfl⟩:=List.mem_map.mp hd;rfl
 rw[d,d];show some (!gD _ _)=_;rw[uc]
theorem xV{b:List Pr}:∃ks:List Pr,qm (b.map bI)=ks.map bI/\ks.Perm b/\ks.Pairwise λx y=>jh (bI x) (bI y)=true:=by
 have c:=oJ (b.map bI);have hs:=nW (b.map bI);let g:D->Pr:=λd=>match d with|.tup [.int h,.int w]=>(h,w)|_=>(0,0);have e:qm (b.map bI)=((qm (b.map bI)).map g).map bI:=by rw[map_map];refine((List.map_congr_left λd hd=>?_).trans (List.map_id _)).symm;obtain⟨i,_,rfl⟩:=List.mem_map.mp (c.mem_iff.mp hd);rfl
 have a:((qm (b.map bI)).map g).Perm b:=by have:=c.map g;rw[map_map]at this;exact this.trans (.of_eq ((List.map_congr_left λd _=>rfl).trans (List.map_id _)))
 refine⟨_,e,a,?_⟩;rw[e,List.pairwise_map]at hs;exact hs
theorem jP{b:List Pr}(h:b.length<=1000):sortable (b.map bI)=true:=by have h:=(show b.length<=16777216 by omega);simp[sortable,h,gZ,cI,bI]
theorem G3{x y:Pr}(h:jh (bI x) (bI y)=true)(n:x≠y):o7 x y:=by simp[jh,bw,bI,cJ,aQ]at h;have:¬(x.1=y.1/\x.2=y.2):=λe=>n (Prod.ext e.1 e.2);unfold o7;omega
theorem zX:∀{l acc:List (List Int)},acc.length+l.length<=(l.foldl stK acc).length->l.Nodup/\∀x∈l,x∉acc
 |[],_,_=>⟨.nil,by simp⟩|k::l,acc,h=>by
   have le:∀(l acc:List (List Int)),(l.foldl stK acc).length<=acc.length+l.length:=by intro l;induction l with|nil=>intro acc;simp|cons k l f=>
      intro acc;have h:=f (stK acc k);have:(stK acc k).length<=acc.length+1:=by unfold stK;split<;>simp
      simp only[foldl_cons,length_cons];omega
   rw[foldl_cons,length_cons]at h;by_cases a:acc.contains k=true;.have:stK acc k=acc:=if_pos a;rw[this]at h;have:=le l acc;omega
   . have e:stK acc k=acc++[k]:=if_neg a;rw[e]at h;obtain⟨h1,c⟩:=zX (l:=l) (acc:=acc++[k]) (by simp;omega);have b:k∉acc:=λz=>a (by simpa using z);refine⟨nodup_cons.mpr ⟨λz=>c k z (by simp),h1⟩,λx hx=>?_⟩;rcases mem_cons.mp hx with rfl|hx;.exact b
     .exact λz=>c x hx (by simp[z])
theorem yO{b:List Pr}(h1:∃ks:List Pr,qm (b.map bI)=ks.map bI/\ks.Perm b/\(ks.Pairwise λx y=>jh (bI x) (bI y)=true)/\b=ks)(c:b.length<=(dY b).length):b.Pairwise o7:=by obtain⟨ks,_,_,hs,rfl⟩:=h1;have f:=(zX (l:=b.map JT) (acc:=[]) (by simpa[dY]using c)).1;have a:b.Nodup:=List.Pairwise.of_map JT (λ_ _ h e=>h (by rw[e])) f;exact(hs.and a).imp λ{x y}h=>G3 h.1 h.2
@[simp]theorem VR{b:List Pr}:blt .DG [Vc b]=some (.val (.int ((dY b).length:Int))):=rfl
inductive FIs(a0 a1 a2 a3 a4 a5 a6 a7 a8 a9:Sl)(ρ:List Sl):Prop where|mk(s:Sl)(q0:ρ=[a0,a1,a2,a3,a4,a5,a6,a7,a8,a9,s])(q1:fr s=true)
inductive ZM(c:cu)(f:Bool)(b:List Pr)(r:List D)(ρ:List Sl):Prop where|mk(j5 us:List Pr)(s8 s9:Sl)(q0:ρ=[bQ c,vl f b,.val false (.int c.m),.val false (.int c.T),.val false (.tup (c.ways.map gB.d)),.val false (.tup (c.rooms.map cB)),.val false (.tup (c.waits.map lD)),oA b,s8,s9])(q1:(fr s8=true/\fr s9=true))(q2:r=us.map bI)(q3:j5++us=b)(q4:∀x∈j5,inR c x.1 x.2=true/\¬((wt c x.1).isSome=false/\x.2<c.T/\(x.1,x.2+1)∉b))
theorem zF{c:cu}{f:Bool}{b:List Pr}(hc:c.Ok)(z:b.length<=1000)(E:dB c b)(k:Q (.val (.bl false)) [bQ c,vl f b]):(run Γ w (n+1) 15 [bQ c,vl f b]).sat Q:=by
 have t0:=hc.t0;have t1:=hc.t1;refine bM (d:=Vm) rfl rfl (by decide) ?_;symm;simp[Vm,cu.d];apply ak;simp[show b.length<=lim by show _<=16777216;omega];refine dj (FIs _ _ _ _ _ _ _ _ _ _) Nr ⟨.aU,rfl,rfl⟩ ?_ ?_;.rintro d hd _⟨s,rfl,hs⟩;simp[hs];exact⟨rfl,_,rfl,rfl⟩
 rintro _⟨s,rfl,hs⟩;rw[xY z];simp;apply ak;obtain⟨ks,A,F,G⟩:=xV (b:=b);have e:blt .sorted [.lst (b.map bI)]=some (.own (ks.map bI)):=by show(if sortable (b.map bI)=true then some (R.own (qm (b.map bI)))else none)=_;rw[if_pos (jP z),A]
 by_cases h1:b=ks
 . by_cases B:(dY b).length<b.length;.rw[<-h1]at e;simp[e,rJ,B];apply ak;simp;exact k
   . have H:b.Pairwise o7:=yO ⟨ks,A,F,G,h1⟩ (by omega);rw[<-h1]at e;simp[e,rJ,B];apply ak;simp;refine cC (ZM c f b) ?_ ?_ ⟨[],b,.aU,.aU,rfl,⟨rfl,rfl⟩,rfl,rfl,by simp⟩;.rintro d g _⟨q,a,s8,s9,rfl,⟨I,J⟩,hr,hd,hok⟩;cases a with|nil=>cases hr|cons u a=>
         obtain⟨rfl,rfl⟩:d=bI u/\g=a.map bI:=by simpa using hr
         simp[I,J,bI];apply ak;by_cases i:u.1<0;.simp[i];symm;simp;exact k
         by_cases j:c.m-2<u.1;.simp[i,j];symm;simp;exact k
         by_cases t:u.2<0;.simp[i,j,t];symm;simp;exact k
         by_cases C:c.T<u.2;.simp[i,j,t,C];symm;simp;exact k
         have v:inR c u.1 u.2=true:=by unfold inR;simp only[and_eq_true,decide_eq_true_eq];omega
         have l:=sO hc (p:=u.1) (by omega) (by omega);have fin:¬((wt c u.1).isSome=false/\u.2<c.T/\(u.1,u.2+1)∉b)->ZM c f b (a.map bI) [bQ c,vl f b,.val false (.int c.m),.val false (.int c.T),.val false (.tup (c.ways.map gB.d)),.val false (.tup (c.rooms.map cB)),.val false (.tup (c.waits.map lD)),oA b,.val false (.int u.1),.val false (.int u.2)]:=λL=>by
          refine⟨q++[u],a,_,_,rfl,⟨rfl,rfl⟩,rfl,by rw[append_assoc];exact hd,λx hx=>?_⟩;rcases mem_append.mp hx with hx|hx;.exact hok x hx
          .rw[List.mem_singleton.mp hx];exact⟨v,L⟩
         simp[i,j,t,C];apply ak;cases hq:wt c u.1 with|some r=>simp[l,hq];exact fin (by rw[hq];simp)|none=>
           by_cases o:u.2<c.T
           . by_cases y:(u.1,u.2+1)∈b;.simp[l,hq,o,y];exact fin (by simp[y])
             .simp[l,hq,o,y];symm;simp;exact k
           .simp[l,hq,o];exact fin (by simp[o])
     . rintro _⟨q,a,s8,s9,rfl,_,hr,hd,hok⟩;have:a=[]:=by cases a with|nil=>rfl|cons _ _=>cases hr
       subst this;rw[append_nil]at hd;subst hd;simp;apply ak;have M:((0:Int),(0:Int))∉q:=by
        rcases E with h|h|⟨x,hx,h⟩|⟨x,hx,h⟩;.exact absurd H h
        .exact h
        .rw[(hok x hx).1]at h;cases h
        .exact absurd h (hok x hx).2
       simp[M];exact k
 .simp[e,rJ,h1];symm;simp;exact k
theorem wj{x y:Pr}(h:o7 x y)(g:o7 y x):False:=by unfold o7 at*;omega
theorem QZ{c:cu}{b:List Pr}{s:Nat}{x:Pr}(e:b[s]?=some x):dB c (b.take s++[x]++b.drop s):=by refine .inl λh=>?_;have hs:=(gW e);obtain⟨h1,a⟩:=hs;rw[drop_eq_getElem_cons h1,a]at h;have:=(pairwise_append.mp h).2.2 x (by simp) x (by simp);exact wj this this
theorem fH.cut{c:cu}{b:List Pr}(h:fH c b)(t0:0<=c.T):b[c.T.toNat]?=some (0,c.T)/\(0<c.T->b[c.T.toNat-1]?=some (0,c.T-1)):=by
 obtain⟨r,e⟩:=h.be;have g:∀i:Nat,i<(c.T+1).toNat->b[i]?=some (0,(i:Int)):=λi hi=>by rw[e,getElem?_append_left (by simp;omega)];simp[hi]
 refine⟨?_,λh0=>?_⟩;.rw[g _ (by omega),show((c.T.toNat:Nat):Int)=c.T by omega]
 .rw[g _ (by omega),show((c.T.toNat-1:Nat):Int)=c.T-1 by omega]
theorem vJ{b:List Pr}{s:Nat}{x:Pr}(a:b.Nodup)(e:b[s]?=some x):x∉b.take s++b.drop (s+1):=by
 obtain⟨h1,c⟩:=gW e;have f:b=b.take s++x::b.drop (s+1):=by rw[<-c,<-drop_eq_getElem_cons h1,take_append_drop]
 rw[f]at a;have:=(List.nodup_append.mp a);intro z;rcases mem_append.mp z with z|z;.exact this.2.2 x z x (by simp) rfl
 .exact(nodup_cons.mp this.2.1).1 z
theorem K1{c:cu}{b:List Pr}(h:fH c b)(t0:0<=c.T):dB c (b.drop 1):=by
 refine .inr (.inl ?_);obtain⟨r,e⟩:=h.be;have a:b[0]?=some ((0:Int),(0:Int)):=by
  rw[e,getElem?_append_left (by simp;omega)];have:0<(c.T+1).toNat:=by omega
  simp[this]
 have:=vJ h.nd a;simpa using this
theorem V8{c:cu}(hc:c.Ok):(wt c 0).isSome=false:=by unfold wt;show((c.waits[0]?).join).isSome=false;rw[hc.a0];rfl
theorem Ld{c:cu}{b:List Pr}(h:fH c b)(hc:c.Ok):dB c (b.take c.T.toNat++b.drop (c.T.toNat+1)):=by
 have t0:=hc.t0;obtain⟨a,e⟩:=h.cut t0;have ho:=vJ h.nd a;by_cases z:c.T=0;.refine .inr (.inl ?_);rw[z]at ho ⊢;exact ho
 . refine .inr (.inr (.inr ⟨(0,c.T-1),?_,V8 hc,by show c.T-1<c.T;omega,?_⟩));.refine mem_append_left _ ?_;have:=e (by omega);refine mem_of_getElem? (i:=c.T.toNat-1) ?_;rw[getElem?_take,if_pos (by omega)];exact this
   .show(0,c.T-1+1)∉_;rwa[show c.T-1+1=c.T by omega]
theorem Q6{c:cu}{b ks:List Pr}{x:Pr}(a:ks.Perm (b++[x]))(e:inR c x.1 x.2=false):dB c ks:=.inr (.inr (.inl ⟨x,a.mem_iff.mpr (by simp),e⟩))
theorem J7{c:cu}{x y:Pr}{r:List Pr}(h:o7 x y):dB c ([y]++[x]++r):=by refine .inl λg=>?_;have:=(pairwise_cons.mp g).1 x (by simp);exact wj this h
theorem R1{c:cu}{x y:Pr}{r:List Pr}(h:o7 x y):dB c (x::y::r).reverse:=by refine .inl λg=>?_;rw[List.pairwise_reverse]at g;exact wj h ((pairwise_cons.mp g).1 y (by simp))
theorem Qz{c:cu}{b:List Pr}{s:Nat}{x y:Pr}(h:fH c b)(a:b[s]?=some x)(e:b[s+1]?=some y)(hw:(wt c x.1).isSome=false)(he:x.1=y.1):dB c (b.take (s+1)++b.drop (s+2)):=by
 obtain⟨h1,q⟩:=gW a;obtain⟨r,t⟩:=gW e;have k:b=b.take s++x::y::b.drop (s+2):=by
  have:b.drop s=x::y::b.drop (s+2):=by rw[drop_eq_getElem_cons h1,q,drop_eq_getElem_cons r,t]
  rw[<-this,take_append_drop]
 have l:=h.ri;rw[k,pairwise_append]at l;obtain⟨_,m,u⟩:=l;have f:=(pairwise_cons.mp m).1 y (by simp);have g:x∈b:=mem_of_getElem? a;have j:y∈b:=mem_of_getElem? e;have o:=h.rg y j;unfold inR at o;simp only[and_eq_true,decide_eq_true_eq]at o;have v:x.2<y.2:=by unfold o7 at f;omega
 have st:=h.st x g;unfold stay at st;simp only[or_eq_true,decide_eq_true_eq]at st;have hn:(x.1,x.2+1)∈b:=by
  rcases st with(st|st)|st;.omega
  .rw[hw]at st;cases st
  .exact st
 have z:(x.1,x.2+1)=y:=by
  rw[k]at hn;rcases mem_append.mp hn with hn|hn;.have:=u _ hn x (by simp);unfold o7 at this;simp only at this;omega
  . rcases mem_cons.mp hn with hn|hn;.have:=congrArg Prod.snd hn;simp only at this;omega
    . rcases mem_cons.mp hn with hn|hn;.exact hn
      .have:=(pairwise_cons.mp (pairwise_cons.mp m).2).1 _ hn;unfold o7 at this;simp only at this;omega
 refine .inr (.inr (.inr ⟨x,mem_append_left _ (mem_of_getElem? (i:=s) (by rw[getElem?_take,if_pos (by omega)];exact a)),hw,by omega,?_⟩));rw[z];exact vJ h.nd e
theorem wN{l:List D}{h:Nat}:cut l none (some (h:Int))=l.take h:=by unfold cut cM;simp
theorem tE{l:List D}{h:Nat}:cut l (some (h:Int)) none=l.drop h:=by
 unfold cut cM;simp;by_cases e:h<=l.length;.rw[Nat.min_eq_left e,take_of_length_le (by simp)]
 .rw[Nat.min_eq_right (by omega),List.drop_eq_nil_of_le (cH),List.drop_eq_nil_of_le (by omega)];simp
theorem KH{a b:D}{r:List D}:cut (a::b::r) (some 1) (some 2)=[b]:=by
 have h1:min 1 (r.length+1+1)=1:=by omega
 have c:min 2 (r.length+1+1)=2:=by omega
 simp[cut,cM,h1,c]
def yQ(c:cu)(bs:List (List Pr)):Prop:=∀b∈bs,dB c b/\b.length<=300
def bD(b:List Pr):D:=.lst (b.map bI)
theorem yQ.app{c:cu}{bs:List (List Pr)}{b:List Pr}(h:yQ c bs)(h1:dB c b)(a:b.length<=300):yQ c (bs++[b]):=λx hx=>by
 rcases mem_append.mp hx with hx|hx;.exact h x hx
 .rw[List.mem_singleton.mp hx];exact⟨h1,a⟩
inductive Ve(ds:List Int)(A:Int)(c:cu)(b:List Pr)(a9 a10 a11 a12:Sl)(N:Nat)(r:List D)(ρ:List Sl):Prop where|mk(bs:List (List Pr))(mH:Sl)(q0:ρ=[nF ds,.val false (.int A),bQ c,.own true (b.map bI),.val false (.int c.m),.val false (.int c.T),.val false (.tup (c.ways.map gB.d)),.val false (.tup (c.rooms.map cB)),.val false (.tup (c.waits.map lD)),a9,a10,a11,a12,.own false (bs.map bD),mH,.aU])(q1:fr mH=true)(q2:yQ c bs)(q3:(∀d∈r,∃x:Pr,d=bI x/\inR c x.1 x.2=false))(q4:bs.length+r.length=N)
inductive JSq(ds:List Int)(A:Int)(c:cu)(b:List Pr)(a9 a10 a11 a12 mH:Sl)(j:Nat)(ρ:List Sl):Prop where|mk(bs:List (List Pr))(zp:Sl)(q0:ρ=[nF ds,.val false (.int A),bQ c,.own true (b.map bI),.val false (.int c.m),.val false (.int c.T),.val false (.tup (c.ways.map gB.d)),.val false (.tup (c.rooms.map cB)),.val false (.tup (c.waits.map lD)),a9,a10,a11,a12,.own false (bs.map bD),mH,zp])(q1:fr zp=true)(q2:yQ c bs)(q3:0<bs.length)(q4:bs.length<=15+j)
theorem vV{A:Int}{c:cu}{b:List Pr}(hd:0<ds.length)(A0:0<=A)(hc:c.Ok)(v:fH c b)(k:∀b2,dB c b2->b2.length<=300->Q (.val (bD b2)) [nF ds,.val false (.int A),bQ c,.own true (b.map bI)]):(run Γ w (n+2) 16 [nF ds,.val false (.int A),bQ c,.own true (b.map bI)]).sat Q:=by
 have t0:=hc.t0;have t1:=hc.t1;have m0:=hc.m0;have U:=v.len;obtain⟨W,am⟩:=v.cut t0;have X:0<b.length:=by have:=(gW W).1;omega
 refine bM (d:=Uj) rfl rfl (by decide) ?_;symm;simp[Uj,cu.d];apply ak;simp;refine aV hd (by omega) (by omega) (by omega) λs s0 s1=>?_;obtain⟨i,rfl⟩:∃i:Nat,s=(i:Int):=⟨s.toNat,by omega⟩;obtain⟨x,ex⟩:∃x,b[i]?=some x:=⟨b[i]'(by omega),by simp[show i<b.length by omega]⟩;have ax:=fZ (f:=bI) ex;simp;apply ak;simp[ax,bI];apply ak;simp;refine aV hd (by omega) (by omega) (by omega) λq r0 r1=>?_;simp;apply ak;have Y:∀l:List D,cut l none (some c.T)=l.take c.T.toNat:=λl=>by rw[<-wN,show((c.T.toNat:Nat):Int)=c.T by omega]
 have Z:∀l:List D,cut l (some (c.T+1)) none=l.drop (c.T.toNat+1):=λl=>by rw[<-tE,show((c.T.toNat+1:Nat):Int)=c.T+1 by omega]
 have c1:∀l:List D,cut l (some 1) none=l.drop 1:=λl=>tE (h:=1);have o:∀a:Nat,a<=16777216->a<=lim:=λa h=>h;simp[zP,part,zm,wN,tE,Y,Z,c1,ax];refine⟨o _ (by omega),o _ (by omega),o _ (by omega),?_⟩;have step:∀{K:Fl->List Sl->Prop}{a9 C E F:Sl}{N:Nat}{d:D}{r:List D}{ρ:List Sl},N<=20->Ve ds A c b a9 C E F N (d::r) ρ->∃I,cj ρ [14] true d=some I/\(je (run Γ w (n+1)) w [.app 13 (.blt .sorted [.bin .add (.var 3) (.lst [.var 14])])] I).sat (fQ (Ve ds A c b a9 C E F N r) K):=by
  rintro K a9 C E F N d r _ hN⟨bs,mH,rfl,B,t,hd,H⟩;obtain⟨x,rfl,hx⟩:=hd d (by simp);obtain⟨ks,e1,e2,_⟩:=xV (b:=b++[x]);have es:blt .sorted [.lst (b.map bI++[bI x])]=some (.own (ks.map bI)):=by
   have:b.map bI++[bI x]=(b++[x]).map bI:=by simp
   rw[this];show(if sortable ((b++[x]).map bI)=true then some (R.own (qm ((b++[x]).map bI)))else none)=_;rw[if_pos (jP (by simp;omega)),e1]
  have ae:=e2.length_eq;simp at ae;simp[B];apply ak;simp at H;simp[es,show b.length+1<=lim by show _<=16777216;omega,show bs.length<lim by show _<16777216;omega];exact⟨bs++[ks],_,by simp[bD];rfl,rfl,t.app (Q6 e2 hx) (by omega),λd af=>hd d (by simp[af]),by simp;omega⟩
 have u:∀p h:Int,(p<0\/c.m-1<=p\/h<0\/c.T<h)->inR c p h=false:=λp h z=>by cases e:inR c p h with|false=>rfl|true=>unfold inR at e;simp only[and_eq_true,decide_eq_true_eq]at e;omega
 have Zb:dB c (b.take i++[x]++b.drop i):=QZ ex;symm;simp[show 0<c.T+1 by omega];refine cC (Ve ds A c b (.val false (.int i)) (.val false (.int x.1)) (.val false (.int x.2)) (.val false (.int q)) 8) (λd r ρ h=>step (by omega) h) ?_ ⟨[b.take i++[x]++b.drop i,b.drop 1,b.take c.T.toNat++b.drop (c.T.toNat+1)],.aU,by simp[bD,List.map_take,List.map_drop],rfl,λy hy=>?_,?_,rfl⟩
 . rintro _⟨bs,mH,rfl,B,t,_,H⟩;simp at H;apply ak;simp;refine cC (Ve ds A c b (.val false (.int i)) (.val false (.int x.1)) (.val false (.int x.2)) (.val false (.int q)) 13) (λd r ρ h=>step (by omega) h) ?_ ⟨bs,mH,rfl,B,t,?_,by simp[H]⟩
   . rintro _⟨bs,mH,rfl,B,t,_,H⟩;simp at H;rw[Fv];refine mO (λρ=>∃bs:List (List Pr),ρ=[nF ds,.val false (.int A),bQ c,.own true (b.map bI),.val false (.int c.m),.val false (.int c.T),.val false (.tup (c.ways.map gB.d)),.val false (.tup (c.rooms.map cB)),.val false (.tup (c.waits.map lD)),.val false (.int i),.val false (.int x.1),.val false (.int x.2),.val false (.int q),.own false (bs.map bD),mH,.aU]/\yQ c bs/\0<bs.length/\bs.length<=15) ?_ ?_;.match b,v,U with|[],_,_=>cases X|[y],_,_=>simp;exact⟨bs,rfl,t,by omega,by omega⟩|y::z::r,v,U=>have J:o7 y z:=(pairwise_cons.mp v.ri).1 z (by simp);have ag:∀l:List D,cut l none (some 1)=l.take 1:=λl=>wN (h:=1);have ah:∀l:List D,cut l (some 2) none=l.drop 2:=λl=>tE (h:=2);have ai:∀l:List D,blt .Dz [.lst l]=some (.own l.reverse):=λ_=>rfl;have ap:∀l:List D,zP (.lst l) (some (some 1)) (some (some 2))=some (.own (cut l (some 1) (some 2))):=λ_=>rfl;simp at U;simp[show 1<(r.length:Int)+1+1 by omega];apply ak;simp[zP,part,zm,KH,ag,ah,show r.length+1+1<=lim by show _<=16777216;omega,show bs.length<lim by show _<16777216;omega];refine⟨o _ (by omega),o _ (by omega),?_⟩;symm;simp[ai,show bs.length+1<lim by show _<16777216;omega];refine⟨bs++[z::y::r]++[(y::z::r).reverse],by simp[bD],(t.app (J7 J) (by simp;omega)).app (R1 J) (by simp;omega),by simp,by simp;omega⟩
     . rintro _⟨bs,rfl,t,b0,b1⟩;symm;simp[show(b.length:Int)-1<=1000000000 by omega,show-1000000000<=(b.length:Int)-1 by omega];refine dg (JSq ds A c b (.val false (.int i)) (.val false (.int x.1)) (.val false (.int x.2)) (.val false (.int q)) mH) ?_ ?_ ⟨bs,.aU,rfl,rfl,t,b0,by omega⟩;.rintro j _ hj⟨bs,zp,rfl,L,t,b0,b1⟩;obtain⟨y,G⟩:∃y,b[j]?=some y:=⟨b[j]'(by omega),by simp[show j<b.length by omega]⟩;obtain⟨z,ez⟩:∃z,b[j+1]?=some z:=⟨b[j+1]'(by omega),by simp[show j+1<b.length by omega]⟩;have M:=fZ (f:=bI) G;have O:=fZ (f:=bI) ez;simp[L];apply ak;have O:at' (b.map bI) ((j:Int)+1)=some (bI z):=O;have iy:=v.rg y (mem_of_getElem? G);unfold inR at iy;simp only[and_eq_true,decide_eq_true_eq]at iy;have ew:=sO hc (p:=y.1) (by omega) (by omega);have q1:cut (b.map bI) none (some ((j:Int)+1))=(b.map bI).take (j+1):=wN (h:=j+1);have q2:cut (b.map bI) (some ((j:Int)+2)) none=(b.map bI).drop (j+2):=tE (h:=j+2);cases hq:wt c y.1 with|some r=>simp[M,O,bI,ew,hq];exact⟨bs,_,rfl,rfl,t,b0,by omega⟩|none=>
           by_cases he:y.1=z.1;.simp[M,O,bI,ew,hq,he.symm];symm;simp[zP,part,zm,q1,q2,show bs.length<lim by show _<16777216;omega];refine⟨o _ (by omega),bs++[b.take (j+1)++b.drop (j+2)],_,by simp[bD,List.map_take,List.map_drop];rfl,rfl,t.app (Qz v G ez (by rw[hq];rfl) he) (by simp;omega),by simp,by simp;omega⟩
           .simp[M,O,bI,ew,hq,he];exact⟨bs,_,rfl,rfl,t,b0,by omega⟩
       .rintro _⟨bs,zp,rfl,L,t,b0,b1⟩;simp;apply ak;simp;refine aV hd (by omega) (by omega) (by omega) λg g0 g1=>?_;obtain⟨j,rfl⟩:∃j:Nat,g=(j:Int):=⟨g.toNat,by omega⟩;obtain⟨y,G⟩:∃y,bs[j]?=some y:=⟨bs[j]'(by omega),by simp[show j<bs.length by omega]⟩;have M:=fZ (f:=bD) G;simp[M];exact k y (t y (mem_of_getElem? G)).1 (t y (mem_of_getElem? G)).2
   . intro d hd;simp at hd;rcases hd with rfl|rfl|rfl|rfl|rfl;.exact⟨(x.1,c.T+1+q),rfl,u _ _ (by simp only;omega)⟩
     .exact⟨(x.1,-1),rfl,u _ _ (by simp only;omega)⟩
     .exact⟨(x.1,-1-q),rfl,u _ _ (by simp only;omega)⟩
     .exact⟨(-1,0),rfl,u _ _ (by simp only;omega)⟩
     .exact⟨(-1-q,x.2),rfl,u _ _ (by simp only;omega)⟩
 . simp at hy;rcases hy with rfl|rfl|rfl;.exact⟨by simpa using Zb,by simp;omega⟩
   .exact⟨by simpa using K1 v t0,by simp;omega⟩
   .exact⟨Ld v hc,by simp;omega⟩
 . intro d hd;simp at hd;rcases hd with rfl|rfl|rfl|rfl|rfl;.exact⟨(c.m-1,c.T),rfl,u _ _ (by simp only;omega)⟩
   .exact⟨(c.m-1,q%(c.T+1)),rfl,u _ _ (by simp only;omega)⟩
   .exact⟨(c.m,0),rfl,u _ _ (by simp only;omega)⟩
   .exact⟨(c.m+q,0),rfl,u _ _ (by simp only;omega)⟩
   .exact⟨(x.1,c.T+1),rfl,u _ _ (by simp only;omega)⟩
inductive JRi(ds:List Int)(A:Int)(c:cu)(b:List Pr)(S:Int)(i:Nat)(ρ:List Sl):Prop where|mk(s7 s8:Sl)(q0:ρ=[nF ds,.val false (.int A),bQ c,.own false (b.map bI),vl false b,.val false (.int S),.val false (.int S),s7,s8])(q1:fr s7=true)(q2:fr s8=true)
theorem ne_int{S:Int}:cm .ne (.int S) (.int S)=some false:=by show some (!(S==S))=_;simp
theorem eq_int{S:Int}:cm .eq (.int S) (.int S)=some true:=by show some (S==S)=_;simp
theorem yH{A:Int}{c:cu}(hd:0<ds.length)(l:0<=A)(hc:c.Ok)(k:Q (.val (.bl true)) [nF ds,.val false (.int A),bQ c]):(run Γ w (n+5) 17 [nF ds,.val false (.int A),bQ c]).sat Q:=by
 refine bM (d:=T9) rfl rfl (by decide) ?_;symm;simp[T9];refine Fj hd l hc λb a=>?_;have q:=a.len;simp;apply ak;simp;apply ak;simp;refine GP hc (.inl rfl) a ?_;simp;apply ak;simp;refine jz hc (.inl rfl) (by omega) ?_;have e:uZ c b=.int (zH c b):=by unfold uZ;rw[a.are hc];rfl
 have m:zq b c.T (c.ways.zip c.rooms)+Eg c b b=zH c b:=by unfold zH;rw[a.sum hc]
 rw[m];rw[e];generalize zH c b=S at*;simp;apply ak;simp[ne_int,rJ,cg];apply ak;simp;refine dg (JRi ds A c b S) ?_ ?_ ⟨.aU,.aU,rfl,rfl,rfl⟩
 . rintro i _ hi⟨s7,s8,rfl,g,h⟩;simp[g];apply ak;simp;refine vV hd (by omega) hc a λb2 j r=>?_;simp[h];apply ak;simp;refine zF (f:=false) hc (by omega) j ?_;simp;refine jz (f:=false) hc (.inr rfl) (by omega) ?_;have o:uZ c b2=.non:=by unfold uZ;rw[j.are hc];rfl
   rw[o];simp;exact⟨_,_,rfl,rfl,rfl⟩
 .rintro _⟨s7,s8,rfl,g,h⟩;symm;simp;refine jz (f:=false) hc (.inr rfl) (by omega) ?_;rw[e];simp[eq_int];exact k
inductive F63(a0 a1 a2:Sl)(ρ:List Sl):Prop where|mk(s:Sl)(q0:ρ=[a0,a1,a2,s])(q1:fr s=true)
theorem En(ns:List Int)(f:ns.length<=63):∃as,run Γ 100000000 40 18 [.val false (.lst (ns.map D.int))]=.ok (.val (.bl true)) as:=by
 suffices h:(run Γ 100000000 40 18 [.val false (.lst (ns.map D.int))]).sat λr _=>r=.val (.bl true)by obtain⟨a,ρ,e,rfl⟩:=sat_iff.mp h;exact⟨ρ,e⟩
 refine bM (d:=U5) rfl rfl (by decide) ?_;symm;simp[U5];refine Gn (M:=900) f (by omega) λds g i=>?_;have hd:0<ds.length:=by omega
 simp;apply ak;simp;refine Fw hd λc hc=>?_;simp;apply ak;simp;refine⟨λ_=>?_,by show 4<=16777216;omega⟩;refine dj (F63 _ _ _) (λ_=>.bl true) ⟨.aU,rfl,rfl⟩ ?_ ?_;.rintro d b _⟨s,rfl,hs⟩;obtain⟨j,_,rfl⟩:=List.mem_map.mp b;simp[hs];refine yH hd (by omega) hc ?_;simp;exact⟨_,rfl,rfl⟩
 rintro _⟨s,rfl,hs⟩;rw[show((((List.range 4).map λ(k:Nat)=>D.int (k:Int)).map λ_=>D.bl true).mapM uU)=some [true,true,true,true]from rfl];simp
end T
end
structure PySem.W.Fast:Prop where(tw17345203148003619154 tw15334731203920412099 tw108615490761286868 tw18233834838982126874 tw8706598097665679807 tw4542022136473014698 tw12027534465198934804 tw10215286045429383083 tw6240950026996451066 tw15758531883555939293 tw6069273563420072149 tw8451010376278507611 tw12253770612305776442 tw4335168788843621135 tw16957553112814239307 tw7648623924149634913 tw6944302075834324481 tw2435747020964164803 tw10382805799052566605 tw8328822820445881940 tw7696965663589475353 tw15323298105869330619 tw9026424460883052603 tw15342357363556344675 tw14925467113247258093 tw17449709884093899570 tw4162731273969499459 tw17071182831087301647 tw1820986360696453286 tw12948891101938816840 tw594454838327470040 tw14190778346565400600 tw8790088119506261914 tw17259558994265311516 tw2009999125766895556 tw10905263008976619176 tw10465237437714374267 tw12660434635082852826 tw3026077398261028823 tw8227854374364457593 tw15919182500247905826 tw9609031407742138814 tw8674830154625059406 tw3828308200760400764 tw9098951786742851968 tw14068955267103439691 tw11259168457527755851 tw11993964924367101993 tw1028679559153906551 tw673615308055892531 tw7604683694680982433 tw12500844669538223614 tw14969222906930504672 tw9752612496479638468 tw8824985204921544020 tw10702564490595561311 tw16024726337690787428 tw1137063242740160693 tw6646247806553564854 tw15292776445962188711 tw6887447862508729190 tw11696354968221022438 tw6257451181221012191 tw12560931749860765775 tw7510703097222005391 tw17921867422197753207 tw2094336808750776351 tw16109563223798322530 tw2168414161521343959 tw11761907268305273305 tw149919941282064631 tw12121508366321523397 tw11903671301271442695 tw6233313490374727221 tw14506881505790818964 tw9592414844124389713 tw6249771208780437366 tw77845317553333066 tw12177351937180368353 tw13014354061211239881 tw14056161762265261538 tw11590020645196637091 tw14795399917056013490 tw4881614471996949320 tw16987019243506239918 tw3778105406770496034 tw8625176897657737961 tw3261399327378748680 tw13945605055075835250 tw662336414364414283 tw13993495260610522132 tw14382849952055377485 tw10614594533962063690 tw14933037857699407202 tw4207830521303312130 tw11503460543226519383 tw9310025547711299423 tw1906253021912983794 tw16746374221432595599 tw4322863169246402579 tw9234702800737375981 tw11050606553236278977 tw3076430259340657496 tw14479657552663279085 tw3824355532539574490 tw10961477486594357817 tw9622365374117169379 tw6572787262656789644 tw1322672256491969270 tw18042155259340943561 tw17998629080995461927 tw3709661874267242252 tw15535852383788834324 tw14801110797129253698 tw10894291557716800219:True)
namespace T
open PySem L2 PySem.Spec PyProof.Rows HH
theorem R5{P:List Value → Prop}{n:Nat}(h:∀(a:Value)(b:List Value),b.length=n → P (a::b))(b:List Value)(c:b.length=n+1):P b:=by cases b with|nil=>cases c|cons a b=>exact h a b (Nat.succ.inj c)
theorem lk0{P:List Value → Prop}(h:P [])(b:List Value)(c:b.length=0):P b:=by cases b with|nil=>exact h|cons a b=>cases c
theorem RD{P:List Value → Prop}(h:∀a,P [a]):∀b:List Value,b.length=1 → P b:=R5 λa=>lk0 (h a)
theorem zu{P:List Value → Prop}(h:∀a b,P [a,b]):∀c:List Value,c.length=2 → P c:=R5 λa=>RD (h a)
theorem vM{P:List Value → Prop}(h:∀a b c,P [a,b,c]):∀e:List Value,e.length=3 → P e:=R5 λa=>zu (h a)
theorem JN{P:List Value → Prop}(h:∀a b c d,P [a,b,c,d]):∀e:List Value,e.length=4 → P e:=R5 λa=>vM (h a)
theorem Zm{P:List Value → Prop}(h:∀a b c d e,P [a,b,c,d,e]):∀f:List Value,f.length=5 → P f:=R5 λa=>JN (h a)
local macro_rules|`(term|‹$p›)=>`(λ_ _ _ _ _ _=>$p)
structure Txt(K:PySem.W.Frag):Prop where
 D0:cU K "is_rising" s0
 D1:cU K "stays_lit" s1
 D2:cU K "is_lit_pair" s2
 D3:cU K "are_lit" s3
 D4:cU K "goes_out" s4
 D5:cU K "ways_out_sum" s5
 D6:cU K "waits_out_sum" s6
 D7:cU K "lit_sum" s7
 D8:cU K "_law_all" s8
 D9:cU K "_law_draw" s9
 D10:cU K "_law_room" pg
 D11:cU K "_law_road" lM
 D12:cU K "_law_calendar" s12
 D13:cU K "_law_lit" pq
 D14:cU K "_law_lit_sum" mH
 D15:cU K "_law_is_lit" zp
 D16:cU K "_law_spoilt" W0
 D17:cU K "_law_right" V4
 D18:cU K "law" Xr
 yo:PySem.W.nsIn K mainGlobals "abs"=some none
 iT:PySem.W.nsIn K mainGlobals "all"=some none
 wG:PySem.W.nsIn K mainGlobals "bool"=some none
 lH:PySem.W.nsIn K mainGlobals "dict"=some none
 fX:PySem.W.nsIn K mainGlobals "enumerate"=some none
 DR:PySem.W.nsIn K mainGlobals "int"=some none
 eF:PySem.W.nsIn K mainGlobals "isinstance"=some none
 dI:PySem.W.nsIn K mainGlobals "len"=some none
 wH:PySem.W.nsIn K mainGlobals "list"=some none
 DQ:PySem.W.nsIn K mainGlobals "max"=some none
 jm:PySem.W.nsIn K mainGlobals "min"=some none
 aN:PySem.W.nsIn K mainGlobals "range"=some none
 fK:PySem.W.nsIn K mainGlobals "sorted"=some none
 gU:PySem.W.nsIn K mainGlobals "tuple"=some none
 qG:PySem.W.nsIn K mainGlobals "zip"=some none
 NL:Fx K
noncomputable def pD{K:PySem.W.Frag}(T:Txt K):Nat->Addr:=λk=>0
structure Oks(Pg:Program)(w:World)(K:PySem.W.Frag)(mg:Str->Option Value)(base:Heap)(cl:Nat->Addr)(n:Nat):Prop where
 c0:bO Pg w K mg base n (run Γ 100000000 n) 0 "is_rising" 1
 c1:bO Pg w K mg base n (run Γ 100000000 n) 1 "stays_lit" 4
 c2:bO Pg w K mg base n (run Γ 100000000 n) 2 "is_lit_pair" 4
 c3:bO Pg w K mg base n (run Γ 100000000 n) 3 "are_lit" 3
 c4:bO Pg w K mg base n (run Γ 100000000 n) 4 "goes_out" 3
 c5:bO Pg w K mg base n (run Γ 100000000 n) 5 "ways_out_sum" 2
 c6:bO Pg w K mg base n (run Γ 100000000 n) 6 "waits_out_sum" 2
 c7:bO Pg w K mg base n (run Γ 100000000 n) 7 "lit_sum" 2
 c8:bO Pg w K mg base n (run Γ 100000000 n) 8 "_law_all" 2
 c9:bO Pg w K mg base n (run Γ 100000000 n) 9 "_law_draw" 3
 Zc:bO Pg w K mg base n (run Γ 100000000 n) 10 "_law_room" 3
 Zd:bO Pg w K mg base n (run Γ 100000000 n) 11 "_law_road" 3
 c12:bO Pg w K mg base n (run Γ 100000000 n) 12 "_law_calendar" 5
 Ze:bO Pg w K mg base n (run Γ 100000000 n) 13 "_law_lit" 3
 Zf:bO Pg w K mg base n (run Γ 100000000 n) 14 "_law_lit_sum" 2
 Zg:bO Pg w K mg base n (run Γ 100000000 n) 15 "_law_is_lit" 2
 c16:bO Pg w K mg base n (run Γ 100000000 n) 16 "_law_spoilt" 4
 VF:bO Pg w K mg base n (run Γ 100000000 n) 17 "_law_right" 3
 c18:bO Pg w K mg base n (run Γ 100000000 n) 18 "law" 1
set_option maxHeartbeats 0 in
theorem Cz{Pg:Program}{w:World}{K:PySem.W.Frag}{mg:Str->Option Value}{base:Heap}(T:Txt K)(X:K.In base)(G:base.Ns mainGlobals mg):∀n,Oks Pg w K mg base (pD T) n
 |0=>{
   c0:=dz (ps:=["things"]) X G T.D0 rfl ‹RD λ_=>rfl›
   c1:=dz (ps:=["calendar","shown","place","hour"]) X G T.D1 rfl ‹JN λ_ _ _ _=>rfl›
   c2:=dz (ps:=["calendar","shown","place","hour"]) X G T.D2 rfl ‹JN λ_ _ _ _=>rfl›
   c3:=dz (ps:=["calendar","lit","shown"]) X G T.D3 rfl ‹vM λ_ _ _=>rfl›
   c4:=dz (ps:=["shown","here","there"]) X G T.D4 rfl ‹vM λ_ _ _=>rfl›
   c5:=dz (ps:=["calendar","shown"]) X G T.D5 rfl ‹zu λ_ _=>rfl›
   c6:=dz (ps:=["calendar","shown"]) X G T.D6 rfl ‹zu λ_ _=>rfl›
   c7:=dz (ps:=["calendar","lit"]) X G T.D7 rfl ‹zu λ_ _=>rfl›
   c8:=dz (ps:=["script","many"]) X G T.D8 rfl ‹zu λ_ _=>rfl›
   c9:=dz (ps:=["draws","at","many"]) X G T.D9 rfl ‹vM λ_ _ _=>rfl›
   Zc:=dz (ps:=["draws","at","wide"]) X G T.D10 rfl ‹vM λ_ _ _=>rfl›
   Zd:=dz (ps:=["draws","at","many"]) X G T.D11 rfl ‹vM λ_ _ _=>rfl›
   c12:=dz (ps:=["draws","at","places","hours","most"]) X G T.D12 rfl ‹Zm λ_ _ _ _ _=>rfl›
   Ze:=dz (ps:=["draws","at","calendar"]) X G T.D13 rfl ‹vM λ_ _ _=>rfl›
   Zf:=dz (ps:=["calendar","lit"]) X G T.D14 rfl ‹zu λ_ _=>rfl›
   Zg:=dz (ps:=["calendar","lit"]) X G T.D15 rfl ‹zu λ_ _=>rfl›
   c16:=dz (ps:=["draws","at","calendar","lit"]) X G T.D16 rfl ‹JN λ_ _ _ _=>rfl›
   VF:=dz (ps:=["draws","at","calendar"]) X G T.D17 rfl ‹vM λ_ _ _=>rfl›
   c18:=dz (ps:=["script"]) X G T.D18 rfl ‹RD λ_=>rfl›}|n+1=>have a:=Cz (Pg:=Pg) (w:=w) (base:=base) T X G n
   {c0:=du (ps:=["things"]) X G T.D0 rfl rfl ‹RD λ_=>rfl› λ_ _ F=>d0 (cl:=pD T) F (mg_none_of X G T.iT) (mg_none_of X G T.qG)
    c1:=du (ps:=["calendar","shown","place","hour"]) X G T.D1 rfl rfl ‹JN λ_ _ _ _=>rfl› λ_ _ F=>d1 (cl:=pD T) F
    c2:=du (ps:=["calendar","shown","place","hour"]) X G T.D2 rfl rfl ‹JN λ_ _ _ _=>rfl› λ_ _ F=>d2 (cl:=pD T) F a.c1
    c3:=du (ps:=["calendar","lit","shown"]) X G T.D3 rfl rfl ‹vM λ_ _ _=>rfl› λ_ _ F=>d3 (cl:=pD T) F (mg_none_of X G T.iT) (mg_none_of X G T.aN) a.c2 a.c0
    c4:=du (ps:=["shown","here","there"]) X G T.D4 rfl rfl ‹vM λ_ _ _=>rfl› λ_ _ F=>d4 (cl:=pD T) F
    c5:=du (ps:=["calendar","shown"]) X G T.D5 rfl rfl ‹zu λ_ _=>rfl› λ_ _ F=>d5 (cl:=pD T) F (mg_none_of X G T.aN) (mg_none_of X G T.qG) a.c4
    c6:=du (ps:=["calendar","shown"]) X G T.D6 rfl rfl ‹zu λ_ _=>rfl› λ_ _ F=>d6 (cl:=pD T) F (mg_none_of X G T.fX) a.c4
    c7:=du (ps:=["calendar","lit"]) X G T.D7 rfl rfl ‹zu λ_ _=>rfl› λ_ _ F=>d7 (cl:=pD T) F a.c3 a.c6 a.c5 T.NL
    c8:=du (ps:=["script","many"]) X G T.D8 rfl rfl ‹zu λ_ _=>rfl› λ_ _ F=>d8 (cl:=pD T) F (mg_none_of X G T.yo) (mg_none_of X G T.dI) (mg_none_of X G T.aN)
    c9:=du (ps:=["draws","at","many"]) X G T.D9 rfl rfl ‹vM λ_ _ _=>rfl› λ_ _ F=>d9 (cl:=pD T) F (mg_none_of X G T.dI)
    Zc:=du (ps:=["draws","at","wide"]) X G T.D10 rfl rfl ‹vM λ_ _ _=>rfl› λ_ _ F=>d10 (cl:=pD T) F (mg_none_of X G T.jm) a.c9
    Zd:=du (ps:=["draws","at","many"]) X G T.D11 rfl rfl ‹vM λ_ _ _=>rfl› λ_ _ F=>d11 (cl:=pD T) F (mg_none_of X G T.DQ) (mg_none_of X G T.jm) a.c9
    c12:=du (ps:=["draws","at","places","hours","most"]) X G T.D12 rfl rfl ‹Zm λ_ _ _ _ _=>rfl› λ_ _ F=>d12 (cl:=pD T) F (mg_none_of X G T.jm) (mg_none_of X G T.aN) (mg_none_of X G T.gU) a.c9 a.Zd a.Zc
    Ze:=du (ps:=["draws","at","calendar"]) X G T.D13 rfl rfl ‹vM λ_ _ _=>rfl› λ_ _ F=>d13 (cl:=pD T) F (mg_none_of X G T.aN) a.c9
    Zf:=du (ps:=["calendar","lit"]) X G T.D14 rfl rfl ‹zu λ_ _=>rfl› λ_ _ F=>d14 (cl:=pD T) F (mg_none_of X G T.lH) (mg_none_of X G T.dI) (mg_none_of X G T.aN) T.NL
    Zg:=du (ps:=["calendar","lit"]) X G T.D15 rfl rfl ‹zu λ_ _=>rfl› λ_ _ F=>d15 (cl:=pD T) F (mg_none_of X G T.lH) (mg_none_of X G T.dI) (mg_none_of X G T.fK) T.NL
    c16:=du (ps:=["draws","at","calendar","lit"]) X G T.D16 rfl rfl ‹JN λ_ _ _ _=>rfl› λ_ _ F=>d16 (cl:=pD T) F (mg_none_of X G T.dI) (mg_none_of X G T.aN) (mg_none_of X G T.fK) a.c9
    VF:=du (ps:=["draws","at","calendar"]) X G T.D17 rfl rfl ‹vM λ_ _ _=>rfl› λ_ _ F=>d17 (cl:=pD T) F (mg_none_of X G T.wG) (mg_none_of X G T.DR) (mg_none_of X G T.eF) (mg_none_of X G T.wH) (mg_none_of X G T.aN) a.Zg a.Ze a.Zf a.c16 a.c7
    c18:=du (ps:=["script"]) X G T.D18 rfl rfl ‹RD λ_=>rfl› λ_ _ F=>Zo (cl:=pD T) F (mg_none_of X G T.iT) (mg_none_of X G T.aN) a.c8 a.c12 a.VF}
set_option maxHeartbeats 0 in
theorem LC{Pg:Program}{w:World}{K:PySem.W.Frag}{mg:Str->Option Value}{h:Heap}{i:Addr}(T:Txt K)(X:K.In h)(G:h.Ns mainGlobals mg)(b:mg "law"=some (.ref i)):∃fd:FuncData,(∀(s:Shared)(u:Value),BindsTo s fd ⟨[u],[]⟩ [("script",u)])/\∀base:Heap,K.In base->base.Ns mainGlobals mg->lz Pg w K mg base Af 40 i fd ["script"] (GR K 1 (run Γ 100000000 40 18)):=by
 obtain⟨f,fd,a,F⟩:=T.D18.ex;have e:=b.symm.trans (mg_of X G a);cases e;refine⟨fd,λs u=>?_,λbase j l=>?_⟩;.obtain⟨q,r,kV,m,t,v,cdv,ct,o,rfl,lk,p⟩:=F.ex;exact .of_eq rfl
 .have g:=Cz (Pg:=Pg) (w:=w) (base:=base) T j l 39;exact Zo (cl:=pD T) (k:=39) (n:=100000000) (c:=run Γ 100000000 39) F (mg_none_of X G T.iT) (mg_none_of X G T.aN) g.c8 g.c12 g.VF
end T
open PySem PySem.W PyProof.Rows
set_option maxRecDepth 100000 in
set_option maxHeartbeats 0 in
theorem PySem.Challenge.cw_hourhaul_k63_lit_pairs_added_holds : PySem.Challenge.rw_hourhaul_k63_lit_pairs_added.Holds := by
 w_on;o_law;k_head;(case hw=>w_witness2);k_fill;refine L2.Cg (l:=PySem.Challenge.rw_hourhaul_k63_lit_pairs_added) (n:=63) (k:=40) (x:="script") (CX:=L2.Af) (sp:=λK=>HH.GR K 1 (HH.run T.Γ 100000000 40 18)) rfl (by decide) rfl ⟨rfl,by decide,by decide⟩ (λw h Y=>PySem.W.kIn_of Y) ?F ?S ?C;case F=>
  intro w mg j h f G b;refine T.LC ?T f G b;constructor;iterate 19(· refine' HH.Mr ?a ?l ?c ?k;case a|l|c|k=>k_is)
  iterate 15(· k_is)
  .show List.map _ _=[];kernel_rfl
 case S=>intro K H a ns g m i;obtain⟨as,e⟩:=T.En ns g;exact HH.yM i e
 case C=>exact λH s e o z=>z
