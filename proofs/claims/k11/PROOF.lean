import PyProof.Rows.All
import Wide.All
import OpenK.AllK
import Wide.FinOn
import Lean
import PyProof.EqAt
import PyProof.EqKinds
import PyProof.TupleCall
import PySem.Str
import PySem.Builtin.Int.W1All
import PyProof.NeKinds
import PyProof.ZipIter
import PyProof.SumWalkG
import PyProof.MinMaxWalk
import PyProof.WalksMore
import PyProof.SeqI3
import PyProof.WalkInts
import PyProof.Rows.CallKwBuiltin
import PyProof.Rows.Tup
import PyProof.CollectIter
import PyProof.EnumMake
import PyProof.TupleOfSeq
import PyProof.ListNew
import PyProof.ReprLoop
import PyProof.StationsW
import PyProof.ExcClass3
import PyProof.Rows.CatchBare
import OpenK.KOwn
import KE.KIsAll
import PyProof.NsDelKeeps
import PyProof.RulesAs
import PyProof.ExcArgsOwn
import PyProof.ListRange
import KE.RegKIsAll
import KE.KRevIter
import PyProof.Rows.SortRuns
import KE.KSortTup
import PyProof.DictWalks
import KE.KDictList
import PyProof.ExcBaseAll.ValueError
import PySem.Challenge.RW_hourhaul_k11_whole_soonest_is_least
set_option Elab.async false
set_option linter.all false
set_option maxRecDepth 100000
set_option genSizeOf false
set_option compiler.extract_closed false
set_option bootstrap.genMatcherCode false
open List(replicate size_toArray getElem?_set_ne getElem?_set_self mem_cons mem_singleton mem_map length_cons append_assoc mem_append all_eq_true getElem?_eq_getElem length_append map_cons mem_cons_of_mem getElem?_append_left length_map lookup_cons filterMap_cons getElem?_map mem_append_right mem_of_getElem? all_cons getElem_mem foldl mem_cons_self append_nil length_take map_map mem_append_left getD_eq_getElem?_getD nodup_cons getElem?_append_right getElem?_replicate replicate_succ drop_eq_getElem_cons take_of_length_le length_replicate any_cons nil_append toArray mem_filter length_drop flatten_cons getElem?_take length_range reverse_cons ext_getElem map_append sum_cons nodup_append mem_flatMap of_mem_zip length_set map_nil map_set)
open Nat(le_refl ne_of_lt le_trans lt_of_lt_of_le zero_le lt_irrefl le_succ le_of_lt zero_add add_assoc le_of_eq)
open PySem.Heap(lt_size get?_push_of_some get?_update_other get?_push_size get?_update_self size_push get?_none_of_le SameBut)
open PySem.W(mg_none_of keepIn mg_of methodObj callWith_K)
open Bool(and_eq_true false_eq_true not_eq_true' or_eq_true)
open PySem.Builtin.Tuple(tupleExact tupleItemsOf)
open PySem.Builtin.SmallTypes(nextOf)
open Option(map_eq_some_iff bind_some getD_none)
open Array(getD length_toList toList_push toList)
open PySem.Builtin.Slice(slicePlaces sliceAdjust sliceApplied)
open PySem.Builtin.List(listTooLong listExtendWith listLengthHint listSameRef listItems)
open PySem.SeqAt.EqAt(int_str str_int none_bool none_int none_str bool_none bool_bool bool_int bool_str int_none int_bool int_int str_none str_bool str_str)
open PySem.F(slot_tuple_add entry_tuple_add args_tuple_add_2 slot_tuple_mul plainAttrs_list)
open Int(toNat_natCast)
open PySem.SeqAt.RcAt(lists_lengths)
open PySem.SeqAt.RcNeAt(int_list str_list list_int list_str)
theorem gG{h:PySem.Heap}{o b:PySem.Obj}{a:PySem.Addr}(e:h.get? a=some o):(h.push b).get? a=some o:=PySem.Heap.get?_push_of_some _ e
theorem gW{b:Type}{l:List b}{i:Nat}{a:b}(h:l[i]?=some a):∃h:i<l.length,l[i]=a:=List.getElem?_eq_some_iff.mp h
theorem gk{b:Type}{l:List b}{i j:Nat}{a:b}(h:j≠i):(l.set i a)[j]?=l[j]?:=List.getElem?_set_ne (Ne.symm h)
theorem uI{n:Nat}:0<=n:=Nat.zero_le n
theorem cD{n:Nat}:n<=n:=Nat.le_refl n
section
namespace L2
open PySem PySem.Spec PyProof.Rows
variable{w:World}{h:Heap}{t' i:Nat}{M:Model}{s:Shared}{pos:Pos}{pins:List (Addr×Obj)}{K:PySem.W.Frag}{tg:Expr}{op:CmpOp}{us:List Value}
noncomputable abbrev Key:=Sum Int Str
noncomputable def JB:Key->Value->Bool|.inl k,v=>Value.isInt k v|.inr x,v=>Value.isStrOf x v
noncomputable def Yt(w:World):Key->Int|.inl k=>hashInt k|.inr x=>hashStr w x
theorem bM:∀{k:Key}{v:Value},JB k v=true->(∃i t,k=Sum.inl i/\v=Value.int i t)\/(∃x t,k=Sum.inr x/\v=Value.str x t)|.inl i,v,h=>by obtain⟨t,e⟩:=Value.isInt_shape (k:=i) (v:=v) h;exact .inl ⟨i,t,rfl,e⟩|.inr x,v,h=>by obtain⟨t,e⟩:=Value.isStrOf_shape (x:=x) (v:=v) h;exact .inr ⟨x,t,rfl,e⟩
theorem Mm(a b:Int):decide ((Sum.inl a:Key)=Sum.inl b)=(a==b):=by
 by_cases e:a=b;.subst e;simp
 .have h:¬(Sum.inl a:Key)=Sum.inl b:=λq=>e (Sum.inl.inj q);rw[decide_eq_false h];exact(beq_eq_false_iff_ne.mpr e).symm
theorem Oh(a b:Str):decide ((Sum.inr a:Key)=Sum.inr b)=decide (a=b):=by
 by_cases e:a=b;.subst e;simp
 .have h:¬(Sum.inr a:Key)=Sum.inr b:=λq=>e (Sum.inr.inj q);rw[decide_eq_false h,decide_eq_false e]
theorem Ot(a:Int)(b:Str):decide ((Sum.inl a:Key)=Sum.inr b)=false:=decide_eq_false (λq=>nomatch q)
theorem Oo(a:Str)(b:Int):decide ((Sum.inr a:Key)=Sum.inl b)=false:=decide_eq_false (λq=>nomatch q)
noncomputable def ye(prog:Program)(w:World):PySem.KeyKind prog w Key where
 is:=JB;hash:=Yt w;inj:=λv a b g f=>by
  rcases bM g with⟨i,t,rfl,rfl⟩|⟨x,t,rfl,rfl⟩
  . rcases bM f with⟨j,u,rfl,e⟩|⟨y,u,rfl,e⟩;.injection e with e1 _;rw[e1]
    .exact nomatch e
  . rcases bM f with⟨j,u,rfl,e⟩|⟨y,u,rfl,e⟩;.exact nomatch e
    .injection e with e1 _;rw[e1]
 byValue:=λk v h=>by rcases bM h with⟨i,t,rfl,rfl⟩|⟨x,t,rfl,rfl⟩<;>rfl
 pyHash:=λc h=>by
  rcases bM c with⟨i,t,rfl,rfl⟩|⟨x,t,rfl,rfl⟩;.exact wpAny_pyHash_int h
  .exact wpAny_pyHash_str h
 eqBool:=λl c h=>by
  rcases bM l with⟨i,t,rfl,rfl⟩|⟨x,t,rfl,rfl⟩
  . rcases bM c with⟨j,u,rfl,rfl⟩|⟨y,u,rfl,rfl⟩;.rw[Mm]at h;exact wpAny_eqBool_int h
    .rw[Ot]at h;exact int_str i t y u _ _ _ _ h
  . rcases bM c with⟨j,u,rfl,rfl⟩|⟨y,u,rfl,rfl⟩;.rw[Oo]at h;exact str_int x t j u _ _ _ _ h
    .rw[Oh]at h;exact wpAny_eqBool_str h
 «strs»:=λk x t v h=>by
  rcases bM h with⟨i,u,rfl,e⟩|⟨y,u,rfl,e⟩;.exact nomatch e
  .injection e with e1 _;subst e1;cases v<;>rfl
inductive V where|non|bl(b:Bool)|int(i:Int)|str(x:Str)|byt(b:Array UInt8)|flt(b:UInt64)|ref(a:Addr)|ty(n:String)deriving DecidableEq
def RelV:V->Value->Prop|.non,u=>u=Value.none|.bl b,u=>u=Value.bool b|.int i,u=>∃t,u=Value.int i t|.str x,u=>∃t,u=Value.str x t|.byt b,u=>∃t,u=Value.bytes b t|.flt b,u=>∃t,u=Value.float b t|.ref a,u=>u=Value.ref a|.ty n,u=>u=Value.type n
abbrev Vals:List V->List Value->Prop:=Paired RelV
theorem Vals.length{xs:List V}{us:List Value}(r:Vals xs us):xs.length=us.length:=Paired.length r
theorem Vals.get:∀{xs:List V}{us:List Value}{i:Nat}{x:V},Vals xs us->xs[i]?=some x->∃u,us[i]?=some u/\RelV x u|_,_,_,_,.nil,e=>by simp at e|_,_,0,_,.cons r _,e=>by simp at e;subst e;exact⟨_,rfl,r⟩|_,_,i+1,x,.cons _ t,e=>by obtain⟨u,h1,a⟩:=Vals.get (i:=i) (x:=x) t (by simpa using e);exact⟨u,by simpa using h1,a⟩
theorem Vals.set{x:V}{u:Value}(r:RelV x u):∀{xs:List V}{us:List Value}(i:Nat),Vals xs us->Vals (xs.set i x) (us.set i u)|_,_,_,.nil=>.nil|_,_,0,.cons _ t=>.cons r t|_,_,i+1,.cons q t=>.cons q (Vals.set r i t)
theorem Vals.append:∀{xs ys:List V}{us ws:List Value},Vals xs us->Vals ys ws->Vals (xs++ys) (us++ws)|_,_,_,_,.nil,s=>s|_,_,_,_,.cons r t,s=>.cons r (Vals.append t s)
theorem Vals.take:∀{xs:List V}{us:List Value}(n:Nat),Vals xs us->Vals (xs.take n) (us.take n)|_,_,0,_=>.nil|_,_,_+1,.nil=>.nil|_,_,n+1,.cons r t=>.cons r (Vals.take n t)
theorem Vals.drop:∀{xs:List V}{us:List Value}(n:Nat),Vals xs us->Vals (xs.drop n) (us.drop n)|_,_,0,r=>r|_,_,_+1,.nil=>.nil|_,_,n+1,.cons _ t=>Vals.drop n t
def R0:Option V->Option Value->Prop|some v,some u=>RelV v u|none,none=>True|_,_=>False
def KV{κ:Type}:List (κ×V)->List (κ×Value)->Prop:=Paired λ(p:κ×V)(q:κ×Value)=>p.1=q.1/\RelV p.2 q.2
noncomputable def kV:Key->V|.inl i=>.int i|.inr x=>.str x
inductive HO where|lst(xs:List V)|tup(xs:List V)|dK(kvs:List (Key×V))|dT(kvs:List (List Key×V))|set(S:Int->Bool)(n:Nat)|ins(C dx:Addr)(fs:List (Str×V))|own(x:Addr)|xd(fs:List (Str×V))|met(f x:Addr)|xu(lo hi:Int)|fM(o:Obj)(u:HO)|J0(ps:Array Value)|ext(φ:Heap->Prop)
noncomputable abbrev Hp:=Addr->Option HO
variable{H:Hp}
noncomputable def upd(H:Hp)(a:Addr)(o:HO):Hp:=λb=>if b=a then some o else H b
theorem bh{a:Addr}{o:HO}:upd H a o a=some o:=by unfold upd;rw[if_pos rfl]
theorem aG{a b:Addr}{o:HO}(h:b≠a):upd H a o b=H b:=by unfold upd;rw[if_neg h]
theorem eG{a b:Addr}{o:HO}(h:H a=some o)(h':H b=none):a≠b:=by intro e;subst e;rw[h]at h';cases h'
section
variable(P:Program)(w:World)
def cI(H:Hp)(h:Heap)(a:Addr):HO->Prop|.lst xs=>xs.length<=sizeLine/\∃(b:List Value)(n:Nat),Vals xs b/\h.get? a=some {cls:=.type "list",data:=.seq b.toArray n}|.tup xs=>xs.length<=sizeLine/\∃b:List Value,Vals xs b/\IsTup h a b.toArray|.dK c=>c.length<=sizeLine/\(a==sysModules)=false/\∃vs,KV c vs/\h.DictOf (ye P w) a vs|.dT c=>c.length<=sizeLine/\(a==sysModules)=false/\∃xs:List (List Key×Addr×Value),Paired (λ(p:List Key×V)(q:List Key×Addr×Value)=>p.1=q.1/\H q.2.1=some (.tup (p.1.map kV))/\RelV p.2 q.2.2) c xs/\∃o k m,h.get? a=some o/\o.ExactDict/\o.data=.dict k m/\k.toList=xs.map (entryOfKey (tupleKind (ye P w)))/\(xs.map (·.1)).Nodup|.set S n=>h.SetOf (intKind P w) a S n|.ins C g fs=>H g=some (.own a)/\fs.length<=1000/\g≠a/\h.get? a=some (PySem.W.instObj C g)/\∃e,h.Ns1 g e/\(∀f,R0 (fs.lookup f) (e f))/\PySem.Within e (fs.map (·.1))|.own _=>∃o,h.get? a=some o|.xd fs=>∃e,h.Ns1 a e/\∀f,R0 (fs.lookup f) (e f)|.xu lo r=>∃t u v,h.get? a=some {cls:=.type "range",data:=.fields #[.int lo t,.int r u,.int 1 v]}|.fM o u=>h.get? a=some o/\cI H h a u|.J0 ps=>h.get? a=some {cls:=.none,data:=.fields ps}|.met f x=>h.get? a=some (methodObj (.ref f) (.ref x))|.ext j=>j h/\(∃o,h.get? a=some o)/\∀h1 l:Heap,j h1->(∀o,h1.get? a=some o->l.get? a=some o)->j l
def jG(H:Hp)(h:Heap):Prop:=∀a o,H a=some o->cI P w H h a o
end
section
variable{P:Program}{w:World}{H H':Hp}{h h':Heap}{a:Addr}{o:HO}
theorem cI.lt(x:cI P w H h a o):a<h.objs.size:=by cases o with|lst xs=>obtain⟨_,_,_,_,e⟩:=x;exact lt_size e|tup xs=>obtain⟨_,_,_,p⟩:=x;exact p.lt|dK b=>obtain⟨_,_,_,_,o,_,_,e,_⟩:=x;exact lt_size e|dT b=>obtain⟨_,_,_,_,o,_,_,e,_⟩:=x;exact lt_size e|set S n=>obtain⟨o,_,_,_,e,_⟩:=x;exact lt_size e|ins C c fs=>obtain⟨_,_,_,e,_⟩:=x;exact lt_size e|own y=>obtain⟨_,e⟩:=x;exact lt_size e|xd fs=>obtain⟨_,⟨_,_,_,e,_⟩,_⟩:=x;exact lt_size e|xu lo g=>obtain⟨_,_,_,e⟩:=x;exact lt_size e|fM j u=>obtain⟨e,_⟩:=x;exact lt_size e|J0 ps=>exact lt_size (show h.get? a=some _ from x)|met f y=>exact lt_size (show h.get? a=some _ from x)|ext k=>obtain⟨_,⟨_,e⟩,_⟩:=x;exact lt_size e
theorem Paired.Ue{g j:Type}{F G:g->j->Prop}:∀{c:List g}{e:List j},Paired F c e->(∀a b,F a b->G a b)->Paired G c e|_,_,.nil,_=>.nil|_,_,.cons r t,f=>.cons (f _ _ r) (Paired.Ue t f)
theorem cI.stay(x:cI P w H h a o)(k:∀b u,(b=a\/H b=some (.own a))->h.get? b=some u->h'.get? b=some u)(ho:∀b,H b=some (.own a)->H' b=some (.own a))(J:∀b xs,H b=some (.tup xs)->H' b=some (.tup xs)):cI P w H' h' a o:=by induction o with|lst xs=>obtain⟨z,m,n,r,e⟩:=x;exact⟨z,m,n,r,k _ _ (.inl rfl) e⟩|tup xs=>obtain⟨z,m,r,g,e,c⟩:=x;exact⟨z,m,r,g,k _ _ (.inl rfl) e,c⟩|dK B=>obtain⟨z,y,vs,r,g,j,l,e,c⟩:=x;exact⟨z,y,vs,r,g,j,l,k _ _ (.inl rfl) e,c⟩|dT B=>obtain⟨z,y,xs,r,g,j,l,e,c⟩:=x;exact⟨z,y,xs,Paired.Ue r λp q z=>⟨z.1,J _ _ z.2.1,z.2.2⟩,g,j,l,k _ _ (.inl rfl) e,c⟩|set S n=>obtain⟨g,j,l,t,e,c⟩:=x;exact⟨g,j,l,t,k _ _ (.inl rfl) e,c⟩|ins C O fs=>obtain⟨d,z,ne,e,G,⟨I,j,l,L,c⟩,r⟩:=x;exact⟨ho _ d,z,ne,k _ _ (.inl rfl) e,G,⟨I,j,l,k _ _ (.inr d) L,c⟩,r⟩|own y=>obtain⟨g,e⟩:=x;exact⟨g,k _ _ (.inl rfl) e⟩|xd fs=>obtain⟨G,⟨I,j,l,e,c⟩,r⟩:=x;exact⟨G,⟨I,j,l,k _ _ (.inl rfl) e,c⟩,r⟩|xu lo Q=>obtain⟨t,u,v,e⟩:=x;exact⟨t,u,v,k _ _ (.inl rfl) e⟩|fM g u N=>obtain⟨e,q⟩:=x;exact⟨k _ _ (.inl rfl) e,N q⟩|J0 ps=>have e:h.get? a=some {cls:=.none,data:=.fields ps}:=x;show h'.get? a=some {cls:=.none,data:=.fields ps};exact k a _ (.inl rfl) e|met f y=>have e:h.get? a=some (methodObj (.ref f) (.ref y)):=x;show h'.get? a=some (methodObj (.ref f) (.ref y));exact k a _ (.inl rfl) e|ext U=>obtain⟨p,⟨o,e⟩,st⟩:=x;exact⟨st _ _ p λo q=>k _ _ (.inl rfl) q,⟨o,k _ _ (.inl rfl) e⟩,st⟩
theorem jG.lt(x:jG P w H h)(e:H a=some o):a<h.objs.size:=(x a o e).lt
theorem jG.fresh(x:jG P w H h)(e:h.objs.size<=a):H a=none:=by cases q:H a with|none=>rfl|some u=>exact absurd (lt_of_lt_of_le (x.lt q) e) (lt_irrefl _)
theorem jG.kept(x:jG P w H h)(k:∀b u,h.get? b=some u->h'.get? b=some u):jG P w H h':=λa o e=>(x a o e).stay (λb u _ q=>k b u q) (λ_ q=>q) λ_ _ q=>q
theorem jG.laid(x:jG P w H h)(k:∀b u,h.get? b=some u->h'.get? b=some u)(j:h.objs.size<=a)(new:cI P w (upd H a o) h' a o):jG P w (upd H a o) h':=λb u e=>by
 have f:=x.fresh j;by_cases g:b=a;.subst g;rw[bh]at e;cases e;exact new
 .rw[aG g]at e;exact(x b u e).stay (λc v _ q=>k c v q) (λc q=>by rw[aG (eG q f)];exact q) λc xs q=>by rw[aG (eG q f)];exact q
end
def Rd(H:Hp)(a:Addr)(u:HO):Prop:=H a=some u\/∃o,H a=some (.fM o u)
theorem Rd.ok{P:Program}{a:Addr}{u:HO}(r:Rd H a u)(x:jG P w H h):cI P w H h a u:=by
 rcases r with r|⟨o,r⟩;.exact x a u r
 .obtain⟨_,q⟩:=x a _ r;exact q
def V7:Option HO->Prop|some (.lst _)=>True|some (.dK _)=>True|some (.dT _)=>True|some (.set _ _)=>True|some (.ins _ _ _)=>True|some (.ext _)=>True|_=>False
section
variable{P:Program}{w:World}{H:Hp}{h h':Heap}{x e:Addr}{o':HO}
theorem jG.write(ok:jG P w H h)(f:V7 (H x))(he:e=x\/H e=some (.own x))(k:∀b u,b≠e->h.get? b=some u->h'.get? b=some u)(j:∃u,h'.get? e=some u)(new:cI P w (upd H x o') h' x o'):jG P w (upd H x o') h':=λb u q=>by
 have m:∀c y,H c=some (.own y)->c≠x:=λc y r z=>by subst z;rw[r]at f;exact f
 have l:∀c xs,H c=some (.tup xs)->c≠x:=λc xs r z=>by subst z;rw[r]at f;exact f
 by_cases g:b=x;.subst g;rw[bh]at q;cases q;exact new
 . rw[aG g]at q;by_cases a:b=e
   . have n:H b=some (.own x):=by
      rcases he with z|z;.exact absurd (a.trans z) g
      .rw[a];exact z
     rw[q]at n;cases n;obtain⟨v,o⟩:=j;exact⟨v,by rw[a];exact o⟩
   . refine(ok b u q).stay (λc v hc r=>k c v ?_ r) (λc r=>by rw[aG (m c b r)];exact r) λc xs r=>by rw[aG (l c xs r)];exact r
     rcases hc with rfl|hc;.exact a
     . rintro rfl;rcases he with z|z;.exact m c b hc z
       .rw[hc]at z;cases z;exact g rfl
end
structure Un(fs ex:List Addr)(H H':Hp)(h h':Heap):Prop where
 keep:∀b o,h.get? b=some o->H b=none->b∉fs->b∉ex->h'.get? b=some o
 slot:∀b o,h.get? b=some o->H b=none->b∈fs->b∉ex->∃sl,h'.get? b=some {o with slots:=sl}free:∀b o,h.get? b=some o->H b=none->b∉ex->H' b=none
 there:∀b o,h.get? b=some o->b∉ex->∃o',h'.get? b=some o'
 tups:∀b xs,H b=some (.tup xs)->H' b=some (.tup xs)o9:∀b o u,H b=some (.fM o u)->H' b=some (.fM o u)pG:∀b ps,H b=some (.J0 ps)->∃more,H' b=some (.J0 (ps++more))
section
variable{fs fs' ex ex':List Addr}{H H1 H2:Hp}{h h1 h2 h':Heap}{a x e:Addr}{o:HO}
theorem Un.any(u:Un fs ex H H1 h h1){b:Addr}{c:Obj}(q:h.get? b=some c)(n:H b=none)(f:b∉ex):∃j,h1.get? b=some {c with slots:=j}:=by
 by_cases g:b∈fs;.exact u.slot b c q n g f
 .exact⟨c.slots,u.keep b c q n g f⟩
theorem Un.kept(k:∀b u,h.get? b=some u->h'.get? b=some u):Un fs ex H H h h':=⟨λb c q _ _ _=>k b c q,λb c q _ _ _=>⟨c.slots,k b c q⟩,λ_ _ _ n _=>n,λb c q _=>⟨c,k b c q⟩,λ_ _ q=>q,λ_ _ _ q=>q,λ_ ps q=>⟨#[],by rw[q];simp⟩⟩
theorem Un.refl:Un fs ex H H h h:=Un.kept λ_ _ q=>q
theorem Un.laid(k:∀b u,h.get? b=some u->h'.get? b=some u)(f:h.objs.size<=a)(c:H a=none):Un fs ex H (upd H a o) h h' where
 keep:=λb u q _ _ _=>k b u q;slot:=λb u q _ _ _=>⟨u.slots,k b u q⟩;free:=λb u q n _=>by rw[aG (ne_of_lt (lt_of_lt_of_le (lt_size q) f))];exact n
 there:=λb u q _=>⟨u,k b u q⟩;tups:=λb xs q=>by rw[aG (eG q c)];exact q
 o9:=λb u xs q=>by rw[aG (eG q c)];exact q
 pG:=λb ps q=>⟨#[],by rw[aG (eG q c),q];simp⟩
theorem Un.write(f:V7 (H x))(he:e=x\/H e=some (.own x))(k:∀b u,b≠e->h.get? b=some u->h'.get? b=some u)(g:∃u,h'.get? e=some u):Un fs ex H (upd H x o) h h':=by
 have l:∀b,H b=none->b≠x:=λb n z=>by subst z;rw[n]at f;exact f
 have m:∀b,H b=none->b≠e:=λb n z=>by
  subst z;rcases he with r|r;.exact l b n r
  .rw[n]at r;cases r
 have j:∀b u,H b=some u->¬ V7 (some u)->b≠x:=λb u q nm z=>by subst z;rw[q]at f;exact nm f
 refine⟨λb u q n _ _=>k b u (m b n) q,λb u q n _ _=>⟨u.slots,k b u (m b n) q⟩,λb u q n _=>by rw[aG (l b n)];exact n,λb u q _=>?_,λb xs q=>by rw[aG (j b _ q λz=>z)];exact q,λb u xs q=>by rw[aG (j b _ q λz=>z)];exact q,λb ps q=>⟨#[],by rw[aG (j b _ q λz=>z),q];simp⟩⟩;by_cases c:b=e;.subst c;exact g
 .exact⟨u,k b u c q⟩
end
noncomputable def V1(h:Heap)(H:Hp):List Addr:=(List.range h.objs.size).filter λa=>(H a).isSome
noncomputable def rz(h:Heap)(H:Hp):Heap:=PySem.W.hideAll h (V1 h H)
theorem zA(h:Heap)(H:Hp):(rz h H).objs.size=h.objs.size:=PySem.W.hideAll_size _ _
theorem Cr{b:Addr}{o:Obj}(e:h.get? b=some o)(n:H b=none):(rz h H).get? b=some o:=PySem.W.hideAll_get _ e λa=>by have q:(H b).isSome=true:=(mem_filter.mp a).2;rw[n]at q;simp at q
theorem Ff{b:Addr}{o:Obj}(e:(rz h H).get? b=some o):h.get? b=some o/\H b=none:=by have a:h.get? b=some o:=PySem.W.of_hideAll (V1 h H) e;refine⟨a,?_⟩;cases q:H b with|none=>rfl|some x=>have c:b∈V1 h H:=mem_filter.mpr ⟨List.mem_range.mpr (lt_size a),by simp[q]⟩;have z:(rz h H).get? b=none:=PySem.W.hideAll_none (V1 h H) c;rw[z]at e;cases e
structure Mod(K:PySem.W.Frag)(mg:Str->Option Value)(base:Heap):Prop where
 WR:K.In base
 glob:base.Ns mainGlobals mg
 blt:∃mb,base.Ns builtinsNs mb/\∀x:Str,x≠"__name__"->mb x=bootBuiltins x
 nolimit:base.NoLimit
structure Cx where
 prog:Program
 w:World
 K:PySem.W.Frag
 mg:Str->Option Value
 base:Heap
 A:Around
 N:List Str
 s₀:Shared
 H₀:Hp
 env:Env
 outer:List Env
 stack:List Env
 ex:List Addr
 fn:Str->Bool
 calm:Bool
 pn:List (Addr×Obj)xe:Value->Shared->Prop
variable{X:Cx}
noncomputable def frs(l:List Env):List Addr:=l.filterMap (·.frame)
noncomputable abbrev Cx.fs(X:Cx):List Addr:=frs X.outer
def FJ(a:Scope)(x:Str):Prop:=a.names.lookup x=some .local\/a.names.lookup x=some .cell\/a.names.lookup x=some .free
def Loc(a:Scope)(x:Str):Prop:=a.names.lookup x=some .local\/a.names.lookup x=some .cell
def Look(env:Env)(h:Heap)(m:Str->Option Value)(x:Str)(u:Value):Prop:=(env.kindOf x=some .local/\m x=some u)\/((env.kindOf x=some .cell\/env.kindOf x=some .free)/\∃c,env.cells.lookup x=some c/\h.IsCell c (some u))
structure Cx.Ok(X:Cx):Prop where
 mod:Mod X.K X.mg X.base
 kind:X.env.scope.kind=.function
 glob:X.env.globals=mainGlobals
 blt:X.env.builtins=builtinsNs
 above:X.s₀.heap.objs.size<=X.env.locals
 inj:∀x y c,X.env.cells.lookup x=some c->X.env.cells.lookup y=some c->x=y
 has:∀x,(X.env.kindOf x=some .cell\/X.env.kindOf x=some .free)->∃c,X.env.cells.lookup x=some c
 cab:∀x c,X.fn x=true->X.env.cells.lookup x=some c->X.s₀.heap.objs.size<=c
 hd:X.calm=true->X.A.handled=none
 frames:X.A.frames=some X.stack
 O9:X.stack=X.outer\/(X.stack=X.env::X.outer/\X.env.frame=some X.env.locals)U5:∀b∈X.ex,b≠X.env.locals/\∀x c,X.env.cells.lookup x=some c->c≠b
 bs:∀b o,X.base.get? b=some o->X.s₀.heap.get? b=some o/\X.H₀ b=none
 DW:X.base.objs.size<=X.s₀.heap.objs.size
 vA:∀b o,X.base.get? b=some o->b∉X.ex
 xx:∀b∈X.ex,b∉X.fs
 kZ:X.s₀.heap.FunFrames X.base X.outer
 Ik:∀b∈X.fs,X.H₀ b=none
structure Inv(X:Cx)(pins:List (Addr×Obj))(σ:List (Option V))(H:Hp)(s:Shared):Prop where
 ok:X.Ok
 os:s.os=X.s₀.os
 bare:AllBare s.gens
 base:Un X.fs X.ex X.H₀ H X.s₀.heap s.heap
 loc:∃m,s.heap.Ns X.env.locals m/\∀(i:Nat)(x:Str)(v:V),X.N[i]?=some x->σ[i]?=some (some v)->FJ X.env.scope x->∃u,RelV v u/\Look X.env s.heap m x u
 cell:∀x c,X.env.cells.lookup x=some c->∃v,s.heap.IsCell c v
 free:H X.env.locals=none
 eU:∀x c,X.env.cells.lookup x=some c->H c=none
 pin:∀p∈X.pn++pins,s.heap.get? p.1=some p.2/\H p.1=none/\p.1≠X.env.locals/\p.1∉X.fs/\∀v,p.2.data≠.cell v
 hok:jG X.prog X.w H s.heap
 len:σ.length=X.N.length
section
variable{X:Cx}{pins:List (Addr×Obj)}{σ:List (Option V)}{H H':Hp}{s:Shared}{h':Heap}
theorem Cx.Ok.Lb(ok:X.Ok){b:Addr}{o:Obj}(e:X.base.get? b=some o):b∉X.fs:=λa=>by have:=(ok.kZ.mem a).1;rw[e]at this;cases this
theorem Inv.bs(I:Inv X pins σ H s):∀b o,X.base.get? b=some o->s.heap.get? b=some o/\H b=none:=λb o e=>⟨I.base.keep b o (I.ok.bs b o e).1 (I.ok.bs b o e).2 (I.ok.Lb e) (I.ok.vA b o e),I.base.free b o (I.ok.bs b o e).1 (I.ok.bs b o e).2 (I.ok.vA b o e)⟩
theorem Inv.bk(I:Inv X pins σ H s):∀b o,X.base.get? b=some o->s.heap.get? b=some o:=λb o e=>(I.bs b o e).1
theorem Inv.mod(I:Inv X pins σ H s):Mod X.K X.mg X.base:=I.ok.mod
theorem Inv.JV(I:Inv X pins σ H s):X.K.In s.heap:=I.ok.mod.WR.keeps I.bk
theorem Inv.lt(I:Inv X pins σ H s):X.env.locals<s.heap.objs.size:=let⟨_,hn,_⟩:=I.loc;hn.lt
theorem Inv.sz(I:Inv X pins σ H s):X.s₀.heap.objs.size<=s.heap.objs.size:=le_trans I.ok.above (le_of_lt I.lt)
theorem Inv.XM(I:Inv X pins σ H s){a:Addr}(h:s.heap.objs.size<=a):a∉X.fs:=λb=>by obtain⟨_,o,ho,_⟩:=I.ok.kZ.mem b;exact absurd (lt_of_lt_of_le (lt_size ho) (le_trans I.sz h)) (lt_irrefl _)
theorem Inv.KD(I:Inv X pins σ H s):∀x c,X.env.cells.lookup x=some c->c≠X.env.locals:=λx c e z=>by obtain⟨v,o,ho,hd⟩:=I.cell x c e;obtain⟨m,⟨f,g,j,a,b,_⟩,_⟩:=I.loc;rw[z,a]at ho;cases ho;rw[b]at hd;cases hd
theorem Inv.kZ(I:Inv X pins σ H s):s.heap.FunFrames X.base X.outer:=by
 have all:∀(l:List Env),(∀b∈frs l,b∈X.fs)->X.s₀.heap.FunFrames X.base l->s.heap.FunFrames X.base l:=by intro l;induction l with|nil=>intro _ _;trivial|cons env r g=>intro hs j;obtain⟨k,⟨L,o,a,m,ho,hd⟩,hr⟩:=j;have c:L∈X.fs:=hs L (by unfold frs;rw[filterMap_cons,a];exact mem_cons_self);obtain⟨n,e⟩:=I.base.slot L o ho (I.ok.Ik L c) c λz=>I.ok.xx L z c;exact⟨k,⟨L,_,a,m,e,hd⟩,g (λb f=>hs b (by unfold frs;rw[filterMap_cons,a];exact mem_cons_of_mem _ f)) hr⟩
 exact all X.outer (λ_ f=>f) I.ok.kZ
theorem Inv.stack(I:Inv X pins σ H s):s.heap.FunFrames X.base X.stack:=by
 rcases I.ok.O9 with e|⟨e,a⟩;.rw[e];exact I.kZ
 .rw[e];obtain⟨m,b,_⟩:=I.loc;refine .cons (by rw[I.ok.kind];decide) a b ?_ I.kZ;exact get?_none_of_le (le_trans I.ok.DW I.ok.above)
theorem Inv.nP(I:Inv X pins σ H s):∀b∈frs X.stack,b∈X.env.locals::X.fs:=λb a=>by
 rcases I.ok.O9 with e|⟨e,c⟩;.rw[e]at a;exact mem_cons_of_mem _ a
 .rw[e]at a;unfold frs at a;rw[filterMap_cons,c]at a;exact a
theorem Inv.mY(I:Inv X pins σ H s):∀b∈frs X.stack,H b=none:=λb hb=>by
 rcases mem_cons.mp (I.nP b hb)with e|hb;.rw[e];exact I.free
 .obtain⟨_,o,ho,_⟩:=I.ok.kZ.mem hb;exact I.base.free b o ho (I.ok.Ik b hb) λz=>I.ok.xx b z hb
theorem Inv.step{g':Array GenState}{t':Nat}{d':Drawn}{ch:List Addr}(I:Inv X pins σ H s)(f:∀b∈ch,(b∈X.ex\/X.s₀.heap.objs.size<=b)/\b≠X.env.locals/\(∀x c,X.env.cells.lookup x=some c->c≠b)/\∀p∈X.pn++pins,p.1≠b)(keep:∀b o,b≠X.env.locals->b∉X.fs->b∉ch->s.heap.get? b=some o->H b=none->h'.get? b=some o)(slot:∀b o,b≠X.env.locals->b∈X.fs->b∉ch->s.heap.get? b=some o->H b=none->∃L,h'.get? b=some {o with slots:=L})(free:∀b o,b∉ch->s.heap.get? b=some o->H b=none->H' b=none)(there:∀b o,b∉ch->s.heap.get? b=some o->∃y,h'.get? b=some y)(tups:∀b xs,H b=some (.tup xs)->H' b=some (.tup xs))(o9:∀b o u,H b=some (.fM o u)->H' b=some (.fM o u))(pG:∀b ps,H b=some (.J0 ps)->∃more,H' b=some (.J0 (ps++more)))(ns:∀m,s.heap.Ns X.env.locals m->h'.Ns X.env.locals m)(hok:jG X.prog X.w H' h')(U:AllBare g'):Inv X pins σ H' {s with heap:=h',gens:=g',drawn:=d',toks:=t'}:=by
 have B:∀b o,X.s₀.heap.get? b=some o->b≠X.env.locals:=λb o e=>ne_of_lt (lt_of_lt_of_le (lt_size e) I.ok.above);have J:∀b o,X.s₀.heap.get? b=some o->b∉X.ex->b∉ch:=λb o e a t=>by
  rcases(f b t).1 with z|z;.exact a z
  .exact absurd (lt_of_lt_of_le (lt_size e) z) (lt_irrefl _)
 have g:∀x c,X.env.cells.lookup x=some c->∀v,s.heap.IsCell c v->h'.IsCell c v:=λx c e v⟨o,ho,hd⟩=>by
  have C:c∉ch:=λz=>(f c z).2.2.1 x c e rfl;by_cases hc:c∈X.fs;.obtain⟨L,q⟩:=slot c o (I.KD x c e) hc C ho (I.eU x c e);exact⟨_,q,hd⟩
  .exact⟨o,keep c o (I.KD x c e) hc C ho (I.eU x c e),hd⟩
 refine⟨I.ok,I.os,U,⟨λb o e n t a=>?_,λb o e n t a=>?_,λb o e n a=>?_,λb o e a=>?_,λb xs e=>tups b xs (I.base.tups b xs e),λb o xs e=>o9 b o xs (I.base.o9 b o xs e),λb ps e=>?_⟩,?_,λx c e=>?_,?_,λx c e=>?_,λp O=>?_,hok,I.len⟩;.exact keep b o (B b o e) t (J b o e a) (I.base.keep b o e n t a) (I.base.free b o e n a)
 .obtain⟨L,j⟩:=I.base.slot b o e n t a;obtain⟨N,G⟩:=slot b _ (B b o e) t (J b o e a) j (I.base.free b o e n a);exact⟨N,G⟩
 .obtain⟨y,j⟩:=I.base.there b o e a;exact free b y (J b o e a) j (I.base.free b o e n a)
 .obtain⟨y,j⟩:=I.base.there b o e a;exact there b y (J b o e a) j
 .obtain⟨m1,j⟩:=I.base.pG b ps e;obtain⟨W,G⟩:=pG b _ j;exact⟨m1++W,by rw[G,Array.append_assoc]⟩
 . obtain⟨m,Y,Z⟩:=I.loc;refine⟨m,ns m Y,λi x v j G e3=>?_⟩;obtain⟨u,r,l⟩:=Z i x v j G e3;refine⟨u,r,?_⟩;rcases l with l|⟨k,c,e,z⟩;.exact .inl l
   .exact .inr ⟨k,c,e,g x c e _ z⟩
 .obtain⟨v,z⟩:=I.cell x c e;exact⟨v,g x c e v z⟩
 .obtain⟨m,⟨o,_,_,ho,_⟩,_⟩:=I.loc;exact free _ o (λz=>(f _ z).2.1 rfl) ho I.free
 .obtain⟨v,o,ho,hd⟩:=I.cell x c e;exact free c o (λz=>(f c z).2.2.1 x c e rfl) ho (I.eU x c e)
 .obtain⟨e,n,ne,Q,d⟩:=I.pin p O;have C:p.1∉ch:=λz=>(f p.1 z).2.2.2 p O rfl;exact⟨keep p.1 p.2 ne Q C e n,free p.1 p.2 C e n,ne,Q,d⟩
theorem Inv.un(I:Inv X pins σ H s)(u:Un X.fs [] H H' s.heap h')(hok:jG X.prog X.w H' h'):Inv X pins σ H' {s with heap:=h',toks:=t'}:=by obtain⟨m,⟨o,l,p,ho,r⟩,_⟩:=id I.loc;obtain⟨q,j⟩:=u.any ho I.free (by simp);exact I.step (g':=s.gens) (d':=s.drawn) (ch:=[]) (λ_ z=>nomatch z) (λb o _ c _ e n=>u.keep b o e n c (by simp)) (λb o _ c _ e n=>u.slot b o e n c (by simp)) (λb o _ e n=>u.free b o e n (by simp)) (λb o _ e=>u.there b o e (by simp)) u.tups u.o9 u.pG (λt k=>by obtain⟨v,f,g,a,r'⟩:=k;rw[ho]at a;cases a;exact⟨_,f,g,j,r'⟩) hok I.bare
theorem Inv.call{g':Array GenState}{d':Drawn}{ch:List Addr}(I:Inv X pins σ H s)(u:Un (frs X.stack) ch H H' s.heap h')(hok:jG X.prog X.w H' h')(l:AllBare g')(a:∀b∈ch,(b∈X.ex\/X.s₀.heap.objs.size<=b)/\b≠X.env.locals/\(∀x c,X.env.cells.lookup x=some c->c≠b)/\∀p∈X.pn++pins,p.1≠b):Inv X pins σ H' {s with heap:=h',gens:=g',drawn:=d',toks:=t'}:=by obtain⟨m,⟨o,v,y,ho,r⟩,_⟩:=id I.loc;obtain⟨B,g⟩:=u.any ho I.free λz=>(a _ z).2.1 rfl;exact I.step (ch:=ch) a (λb o g q hc e n=>u.keep b o e n (λz=>(mem_cons.mp (I.nP b z)).elim g q) hc) (λb o _ _ hc e n=>u.any e n hc) (λb o hc e n=>u.free b o e n hc) (λb o hc e=>u.there b o e hc) u.tups u.o9 u.pG (λC t=>by obtain⟨G,j,k,f,r'⟩:=t;rw[ho]at f;cases f;exact⟨_,j,k,g,r'⟩) hok l
theorem Inv.turned{it:Addr}(I:Inv X pins σ H s)(k:∀b o,b≠it->s.heap.get? b=some o->h'.get? b=some o)(g:H it=none)(f:it≠X.env.locals)(h1:it∈X.ex\/X.s₀.heap.objs.size<=it)(j:∀x c,X.env.cells.lookup x=some c->c≠it)(l:∀p∈X.pn++pins,p.1≠it):Inv X pins σ H {s with heap:=h',toks:=t'}:=by
 have a:∀b u,H b=some u->b≠it:=λb u e z=>by rw[z,g]at e;cases e
 refine I.step (g':=s.gens) (d':=s.drawn) (ch:=[it]) (λb t=>?_) (λb o _ _ hc e _=>k b o (λz=>hc (by simp[z])) e) (λb o _ _ hc e _=>⟨o.slots,k b o (λz=>hc (by simp[z])) e⟩) (λ_ _ _ _ n=>n) (λb o hc e=>⟨o,k b o (λz=>hc (by simp[z])) e⟩) (λ_ _ e=>e) (λ_ _ _ e=>e) (λb ps e=>⟨#[],by rw[e];simp⟩) (λm y=>?_) (λb u e=>?_) I.bare
 . have e:b=it:=by simpa using t
   subst e;exact⟨h1,f,j,l⟩
 .obtain⟨o,B,C,ho,r⟩:=y;exact⟨o,B,C,k _ o (Ne.symm f) ho,r⟩
 . refine(I.hok b u e).stay (λc v hc q=>k c v ?_ q) (λ_ q=>q) λ_ _ q=>q;rcases hc with z|z;.rw[z];exact a b u e
   .exact a c _ z
theorem Inv.tok(I:Inv X pins σ H s)(t:Nat):Inv X pins σ H {s with toks:=t}:=I.un (h':=s.heap) (t':=t) Un.refl I.hok
theorem Inv.kept{t':Nat}(I:Inv X pins σ H s)(k:∀b u,s.heap.get? b=some u->h'.get? b=some u):Inv X pins σ H {s with heap:=h',toks:=t'}:=I.un (Un.kept k) (I.hok.kept k)
theorem Inv.laid{a:Addr}{o:HO}{t':Nat}(I:Inv X pins σ H s)(k:∀b u,s.heap.get? b=some u->h'.get? b=some u)(c:s.heap.objs.size<=a)(new:cI X.prog X.w (upd H a o) h' a o):Inv X pins σ (upd H a o) {s with heap:=h',toks:=t'}:=I.un (Un.laid k c (I.hok.fresh c)) (I.hok.laid k c new)
theorem Inv.write{x e:Addr}{o:HO}{t':Nat}(I:Inv X pins σ H s)(c:V7 (H x))(he:e=x\/H e=some (.own x))(k:∀b u,b≠e->s.heap.get? b=some u->h'.get? b=some u)(a:∃u,h'.get? e=some u)(new:cI X.prog X.w (upd H x o) h' x o):Inv X pins σ (upd H x o) {s with heap:=h',toks:=t'}:=I.un (Un.write c he k a) (I.hok.write c he k a new)
theorem Inv.yG{a:List (Addr×Obj)}(I:Inv X pins σ H s)(h:∀p∈a,s.heap.get? p.1=some p.2/\H p.1=none/\p.1≠X.env.locals/\p.1∉X.fs/\∀v,p.2.data≠.cell v):Inv X a σ H s:=⟨I.ok,I.os,I.bare,I.base,I.loc,I.cell,I.free,I.eU,λp b=>(mem_append.mp b).elim (λz=>I.pin p (mem_append_left _ z)) (h p),I.hok,I.len⟩
theorem tO{N:List Str}(c:N.Nodup){j:Nat}{x:Str}(a:N[i]?=some x)(b:N[j]?=some x):i=j:=by obtain⟨h1,e⟩:=gW a;obtain⟨g,f⟩:=gW b;exact(List.getElem_inj c).mp (e.trans f.symm)
theorem qe{A:Around}{E:Value->Shared->Prop}{x:Str}{v:V}{u:Value}{Q:Unit->Shared->Prop}(I:Inv X pins σ H s)(hN:X.N.Nodup)(O:X.N[i]?=some x)(l:Loc X.env.scope x)(r:RelV v u)(h:∀s',Inv X pins (σ.set i (some v)) H s'->(∃a,SameBut a s.heap s'.heap/\(a=X.env.locals\/X.env.cells.lookup x=some a))->Q () s')(hf:X.fn x=true\/X.env.scope.names.lookup x=some .local:=by first|exact .inl rfl|exact .inr rfl|assumption):wpAny M A (storeName X.env x u) Q E s:=by
 obtain⟨m,hn,hl⟩:=id I.loc;have U:(X.env.scope.kind==.class||(X.env.scope.kind==.module&&X.env.locals !=X.env.globals))=false:=by rw[I.ok.kind];rfl
 have C:i<σ.length:=by rw[I.len];exact(gW O).1
 have KD:=I.KD;have f:∀{a:Addr}{h':Heap},(∃o,s.heap.get? a=some o/\H a=none)->SameBut a s.heap h'->jG X.prog X.w H h':=λ{a h'}ha hs b ob e=>by
  obtain⟨_,_,t⟩:=ha;refine(I.hok b ob e).stay (λc w' hc q=>(hs.2 c ?_).trans q) (λ_ q=>q) λ_ _ q=>q;rintro rfl;rcases hc with rfl|hc;.rw[t]at e;cases e
  .rw[t]at hc;cases hc
 rcases l with hk|hk
 . refine wpAny_storeName_local hk hn (λh' ae hs=>?_) U;obtain⟨oL,_,_,af,_⟩:=id hn;refine h _ ⟨I.ok,I.os,I.bare,⟨λb o e n G l=>?_,λb o e n G l=>?_,I.base.free,λb o e l=>?_,I.base.tups,I.base.o9,I.base.pG⟩,⟨_,ae,λj y v' g B e3=>?_⟩,λy c e=>?_,I.free,I.eU,λp hp=>?_,f ⟨oL,af,I.free⟩ hs,by simpa using I.len⟩ ⟨_,hs,.inl rfl⟩;.exact(hs.2 b (ne_of_lt (lt_of_lt_of_le (lt_size e) I.ok.above))).trans (I.base.keep b o e n G l)
   .obtain⟨sl,g⟩:=I.base.slot b o e n G l;exact⟨sl,(hs.2 b (ne_of_lt (lt_of_lt_of_le (lt_size e) I.ok.above))).trans g⟩
   .obtain⟨o',g⟩:=I.base.there b o e l;exact⟨o',(hs.2 b (ne_of_lt (lt_of_lt_of_le (lt_size e) I.ok.above))).trans g⟩
   . by_cases J:j=i;.subst J;rw[O]at g;cases g;rw[getElem?_set_self C]at B;cases B;exact⟨u,r,.inl ⟨hk,by simp⟩⟩
     . rw[gk J]at B;obtain⟨u',r',q⟩:=hl j y v' g B e3;refine⟨u',r',?_⟩;rcases q with⟨k,e⟩|⟨k,c,e,z⟩;.refine .inl ⟨k,?_⟩;have:y≠x:=λe=>J (tO hN g (e▸O));simp[this,e]
       .exact .inr ⟨k,c,e,z.sameBut hs (KD y c e)⟩
   .obtain⟨w',z⟩:=I.cell y c e;exact⟨w',z.sameBut hs (KD y c e)⟩
   .obtain⟨e,n,ne,nf,d⟩:=I.pin p hp;exact⟨(hs.2 p.1 ne).trans e,n,ne,nf,d⟩
 . have L:X.fn x=true:=by
    rcases hf with z|z;.exact z
    .rw[z]at hk;cases hk
   obtain⟨c,hc⟩:=I.ok.has x (.inl hk);obtain⟨w',z⟩:=I.cell x c hc;refine wpAny_storeName_cell I.ok.kind hk hc z (λh' W hs=>?_);obtain⟨oc,Y,ag⟩:=id z;refine h {s with heap:=h'} ⟨I.ok,I.os,I.bare,⟨λb o e n G l=>?_,λb o e n G l=>?_,I.base.free,λb o e l=>?_,I.base.tups,I.base.o9,I.base.pG⟩,⟨m,hn.sameBut hs (Ne.symm (KD x c hc)),λj y v' g B e3=>?_⟩,λy c' e=>?_,I.free,I.eU,λp hp=>?_,f ⟨oc,Y,I.eU x c hc⟩ hs,by simpa using I.len⟩ ⟨c,hs,.inr hc⟩;.exact(hs.2 b (ne_of_lt (lt_of_lt_of_le (lt_size e) (I.ok.cab x c L hc)))).trans (I.base.keep b o e n G l)
   .obtain⟨sl,g⟩:=I.base.slot b o e n G l;exact⟨sl,(hs.2 b (ne_of_lt (lt_of_lt_of_le (lt_size e) (I.ok.cab x c L hc)))).trans g⟩
   .obtain⟨o',g⟩:=I.base.there b o e l;exact⟨o',(hs.2 b (ne_of_lt (lt_of_lt_of_le (lt_size e) (I.ok.cab x c L hc)))).trans g⟩
   . by_cases J:j=i;.subst J;rw[O]at g;cases g;rw[getElem?_set_self C]at B;cases B;exact⟨u,r,.inr ⟨.inl hk,c,hc,W⟩⟩
     . rw[gk J]at B;obtain⟨u',r',q⟩:=hl j y v' g B e3;refine⟨u',r',?_⟩;rcases q with q|⟨k,c',e,z'⟩;.exact .inl q
       .refine .inr ⟨k,c',e,z'.sameBut hs ?_⟩;rintro rfl;exact J (tO hN g (I.ok.inj _ _ _ e hc▸O))
   . by_cases Z:c'=c;.subst Z;exact⟨_,W⟩
     .obtain⟨w2,z2⟩:=I.cell y c' e;exact⟨w2,z2.sameBut hs Z⟩
   .obtain⟨e,n,ne,nf,d⟩:=I.pin p hp;refine⟨(hs.2 p.1 ?_).trans e,n,ne,nf,d⟩;intro q;rw[q,Y]at e;have q':oc=p.2:=Option.some.inj e;exact d w' (by rw[<-q'];exact ag)
theorem jW{A:Around}{E:Value->Shared->Prop}{x:Str}{v:V}{u:Value}{Q:Unit->Shared->Prop}(I:Inv X pins σ H s)(b:X.N.Nodup)(c:X.N[i]?=some x)(e:Loc X.env.scope x)(r:RelV v u)(h:∀a,Inv X pins (σ.set i (some v)) H a->Q () a)(f:X.fn x=true\/X.env.scope.names.lookup x=some .local:=by first|exact .inl rfl|exact .inr rfl|assumption):wpAny M A (storeName X.env x u) Q E s:=qe I b c e r (λa g _=>h a g) f
end
abbrev XK:=Value->Option Addr->Hp->Prop
noncomputable abbrev St:=List (Option V)
abbrev VK:=V->Hp->Prop
abbrev TE:=St->Hp->VK->Prop
abbrev TT:=St->Hp->(Bool->Hp->Prop)->Prop
abbrev TA:=St->Hp->(List V->Hp->Prop)->Prop
structure Ends where
 nx:St->Hp->Prop
 rt:VK
 bk:St->Hp->Prop:=λ_ _=>False
 ct:St->Hp->Prop:=λ_ _=>False
abbrev TS:=Ends->St->Hp->Prop
inductive EP(X:Cx)(pins:List (Addr×Obj))(σ:St)(Q:VK)(u:Value)(s':Shared):Prop where|mk(v:V)(H':Hp)(q0:Inv X pins σ H' s')(q1:RelV v u)(q2:Q v H')
def TP(X:Cx)(pins:List (Addr×Obj))(c:St)(Q:Bool->Hp->Prop)(b:Bool)(e:Shared):Prop:=∃a,Inv X pins c a e/\Q b a
inductive AP(X:Cx)(pins:List (Addr×Obj))(σ:St)(Q:List V->Hp->Prop)(us:List Value)(s':Shared):Prop where|mk(vs:List V)(H':Hp)(q0:Inv X pins σ H' s')(q1:Vals vs us)(q2:Q vs H')
def SP(X:Cx)(pins:List (Addr×Obj))(D:Ends)(f:Flow)(c:Shared):Prop:=match f with|.next=>∃a b,Inv X pins a b c/\D.nx a b|.brk=>∃a b,Inv X pins a b c/\D.bk a b|.cont=>∃a b,Inv X pins a b c/\D.ct a b|.ret u=>∃v a b,Inv X pins a b c/\RelV v u/\D.rt v b
def PE(X:Cx)(e:Expr)(t:TE):Prop:=∀(pins:List (Addr×Obj))(s:Shared)(a:St)(H:Hp)(Q:VK),Inv X pins a H s->t a H Q->wpAny (model X.prog X.w) X.A (eval e X.env) (EP X pins a Q) X.xe s
def PT(X:Cx)(e:Expr)(t:TT):Prop:=∀(pins:List (Addr×Obj))(s:Shared)(a:St)(H:Hp)(Q:Bool->Hp->Prop),Inv X pins a H s->t a H Q->wpAny (model X.prog X.w) X.A (isTrue e X.env (eval e X.env)) (TP X pins a Q) X.xe s
def PW(X:Cx)(e:Expr)(t:TT):Prop:=∀(a:Sem Value)(pins:List (Addr×Obj))(s:Shared)(b:St)(H:Hp)(Q:Bool->Hp->Prop),Inv X pins b H s->t b H Q->wpAny (model X.prog X.w) X.A (isTrue e X.env a) (TP X pins b Q) X.xe s
theorem PW.pt{e:Expr}{t:TT}(h:PW X e t):PT X e t:=h _
def PA(X:Cx)(b:List Expr)(t:TA):Prop:=∀(pos:Pos)(pins:List (Addr×Obj))(s:Shared)(a:St)(H:Hp)(Q:List V->Hp->Prop),Inv X pins a H s->t a H Q->wpAny (model X.prog X.w) X.A (spliced (backTo pos (starEach b X.env))) (AP X pins a Q) X.xe s
def PS(X:Cx)(st:Stmt)(t:TS):Prop:=∀(pins:List (Addr×Obj))(s:Shared)(a:St)(H:Hp)(D:Ends),Inv X pins a H s->t D a H->wpAny (model X.prog X.w) X.A (exec st X.env) (SP X pins D) X.xe s
def mL(X:Cx)(st:List Stmt)(t:TS):Prop:=∀(pins:List (Addr×Obj))(s:Shared)(a:St)(H:Hp)(D:Ends),Inv X pins a H s->t D a H->wpAny (model X.prog X.w) X.A (execs st X.env) (SP X pins D) X.xe s
theorem cJ{b:Type}{t:Sem b}{Q c:b->Shared->Prop}{A:Around}{E:Value->Shared->Prop}(h:wpAny M A t Q E s)(e:∀a s,Q a s->c a s):wpAny M A t c E s:=wpAny_mono h e λ_ _ x=>x
section
variable{X:Cx}
def RD(i:Nat):TE:=λa H Q=>∃v,a[i]?=some (some v)/\Q v H
def tC(v:V):TE:=λ_ H Q=>Q v H
theorem nF{x:Str}(f:X.N[i]?=some x)(g:FJ X.env.scope x)(hd:(x==("__debug__":Str))=false:=by decide)(b:(x==("__classdict__":Str))=false:=by decide):PE X (.Name x pos) (RD i):=by
 intro pins s j H Q I h;obtain⟨v,e,h⟩:=h;obtain⟨m,k,n⟩:=I.loc;obtain⟨u,r,l⟩:=n i x v f e g;have fin:EP X pins j Q u s:=⟨v,H,I,r,h⟩;rcases l with⟨hk,o⟩|⟨hk,c,hc,a⟩;.exact wpAny_Name (wpAny_loadName_local I.ok.kind hk k o fin) hd
 . rcases hk with hk|hk;.exact wpAny_Name (wpAny_loadName_cell I.ok.kind hk hc a fin) hd
   .exact wpAny_Name (wpAny_loadName_free I.ok.kind hk hc a fin b) hd
theorem Kv{i j pos}:PE X (.Constant (.int i) j pos) (tC (.int i)):=λ_ _ _ H _ I h=>wpAny_Constant_int ⟨.int i,H,I.tok _,⟨_,rfl⟩,h⟩
theorem TV{b j pos}:PE X (.Constant (.bool b) j pos) (tC (.bl b)):=λ_ _ _ H _ I h=>Constant_bool ⟨.bl b,H,I,rfl,h⟩
theorem Nz{j pos}:PE X (.Constant .none j pos) (tC .non):=λ_ _ _ H _ I h=>Constant_none ⟨.non,H,I,rfl,h⟩
def Gl(X:Cx)(x:Str):Prop:=X.env.kindOf x=some .globalImplicit
theorem kh{E:Value->Shared->Prop}{a:St}{x:Str}{u:Value}{Q:Value->Shared->Prop}(I:Inv X pins a H s)(b:Gl X x)(c:X.mg x=some u)(h:Q u s)(hd:(x==("__debug__":Str))=false:=by decide):wpAny (model X.prog X.w) X.A (eval (.Name x pos) X.env) Q E s:=Calls.Name_function_global I.ok.kind b (Calls.loadGlobal_global (by rw[I.ok.glob];exact I.mod.glob.keeps I.bk) c h) hd
theorem iM{E:Value->Shared->Prop}{a:St}{x:Str}{u:Value}{Q:Value->Shared->Prop}(I:Inv X pins a H s)(b:Gl X x)(c:X.mg x=none)(e:bootBuiltins x=some u)(h:Q u s)(f:x≠"__name__":=by decide)(hd:(x==("__debug__":Str))=false:=by decide):wpAny (model X.prog X.w) X.A (eval (.Name x pos) X.env) Q E s:=by obtain⟨j,h1,g⟩:=I.mod.blt;exact Calls.Name_function_global I.ok.kind b (Calls.loadGlobal_builtin (by rw[I.ok.glob];exact I.mod.glob.keeps I.bk) c (by rw[I.ok.blt];exact h1.keeps I.bk) ((g x f).trans e) h) hd
theorem Hq{x:Str}{v:V}{u:Value}(a:Gl X x)(b:X.mg x=some u)(r:RelV v u)(hd:(x==("__debug__":Str))=false:=by decide):PE X (.Name x pos) (tC v):=λ_ _ _ H _ I h=>kh I a b ⟨v,H,I,r,h⟩ hd
variable{a b:Expr}{ta tb:TE}{pos:Pos}
def tB(t:TE):TT:=λe H Q=>t e H λx f=>∃c,x=.bl c/\Q c f
theorem KH{e:Expr}{t:TE}(h:PE X e t)(he:∀c,isTrue e X.env c=(do let v<-c;standAt e.pos;holding [v] (truthy v)):=by intro _;rfl):PT X e (tB t):=by intro pins s f H Q I g;refine isTrue_plain (cJ (h pins s f H _ I g) λv s1⟨x,H1,I1,r1,q1⟩=>?_) (he _);obtain⟨d,rfl,q⟩:=q1;cases r1;exact wpAny_truthy_bool ⟨H1,I1,q⟩
variable{tA WW:TT}{rest:List Expr}
def Y6(t u:TT):TT:=λe H Q=>t e H λc f=>if c=true then u e f Q else Q false f
def tOr(t u:TT):TT:=λe H Q=>t e H λc f=>if c=true then Q true f else u e f Q
def Z4(t:TT):TT:=λe H Q=>t e H λc f=>Q (!c) f
theorem GF(f:PT X a tA):PW X (.BoolOp .And [a] pos) tA:=by intro j pins s g H Q I h;refine isTrue_and (cJ (f pins s g H Q I h) λc s1 e=>?_);cases c with|true=>exact isTrue_and_nil e|false=>exact e
theorem Mp(f:PT X a tA):PW X (.BoolOp .Or [a] pos) tA:=by intro j pins s g H Q I h;refine isTrue_or (cJ (f pins s g H Q I h) λc s1 e=>?_);cases c with|false=>exact isTrue_or_nil e|true=>exact e
theorem Mq(g:PT X a tA)(j:PW X (.BoolOp .And (b::rest) pos) WW):PW X (.BoolOp .And (a::b::rest) pos) (Y6 tA WW):=by intro k pins s e H Q I h;refine isTrue_and (cJ (g pins s e H _ I h) λc s1⟨f,I1,q1⟩=>?_);cases c with|true=>exact j k pins s1 e f Q I1 q1|false=>exact⟨f,I1,q1⟩
theorem Uy(g:PT X a tA)(j:PW X (.BoolOp .Or (b::rest) pos) WW):PW X (.BoolOp .Or (a::b::rest) pos) (tOr tA WW):=by intro k pins s e H Q I h;refine isTrue_or (cJ (g pins s e H _ I h) λc s1⟨f,I1,q1⟩=>?_);cases c with|true=>exact⟨f,I1,q1⟩|false=>exact j k pins s1 e f Q I1 q1
theorem K5(e:PT X a tA):PT X (.UnaryOp .Not a pos) (Z4 tA):=by intro pins s f H Q I h;exact isTrue_not (e pins s f H (λc g=>Q (!c) g) I h)
def RM(ta tb:TE):TE:=λe H Q=>ta e H λx f=>∃c,x=.bl c/\if c=true then tb e f Q else Q (.bl false) f
theorem Mi{op}{t:TE}(h:PE X a t):PE X (.BoolOp op [a] pos) t:=λpins s c H Q I e=>BoolOp_one (h pins s c H Q I e)
theorem KN(g:PE X a ta)(j:PE X (.BoolOp .And (b::rest) pos) tb):PE X (.BoolOp .And (a::b::rest) pos) (RM ta tb):=by intro pins s f H Q I h;refine BoolOp_and (cJ (g pins s f H _ I h) λv s1⟨x,H1,I1,r1,e⟩=>?_);obtain⟨c,rfl,e⟩:=e;cases r1;refine wpAny_truthy_bool ?_;cases c with|true=>exact j pins s1 f H1 Q I1 e|false=>exact⟨.bl false,H1,I1,rfl,e⟩
def tIf(t:TT)(ta tb:TE):TE:=λe H Q=>t e H λc f=>if c=true then ta e f Q else tb e f Q
theorem Ds{c:Expr}(hc:PT X c tA)(g:PE X a ta)(j:PE X b tb):PE X (.IfExp c a b pos) (tIf tA ta tb):=by intro pins s e H Q I h;refine wpAny_IfExp (cJ (hc pins s e H _ I h) λd s1⟨f,I1,q1⟩=>?_);cases d with|true=>exact g pins s1 e f Q I1 q1|false=>exact j pins s1 e f Q I1 q1
end
def dJ(K:PySem.W.Frag)(H:Hp)(a:Addr)(xs:List V):Prop:=Rd H a (.lst xs)\/∃(o:Obj)(b:Array Value)(n:Nat),K.lookup a=some o/\o.cls=.type "list"/\o.dict=none/\o.data=.seq b n/\b.size<=sizeLine/\Vals xs b.toList
def gA(K:PySem.W.Frag)(H:Hp)(a:Addr)(xs:List V):Prop:=Rd H a (.tup xs)\/∃(o:Obj)(b:Array Value)(n:Nat),K.lookup a=some o/\o.cls=.type "tuple"/\o.data=.seq b n/\b.size<=sizeLine/\Vals xs b.toList
noncomputable def Zi:Value->Option V|.none=>some .non|.bool b=>some (.bl b)|.int i _=>some (.int i)|.str x _=>some (.str x)|.bytes b _=>some (.byt b)|.float b _=>some (.flt b)|.ref a=>some (.ref a)|.type n=>some (.ty n)|_=>none
theorem RelV.abs{x:V}{u:Value}(r:RelV x u):Zi u=some x:=by cases x with|non=>cases r;rfl|bl _=>cases r;rfl|int _=>obtain⟨t,rfl⟩:=r;rfl|str _=>obtain⟨t,rfl⟩:=r;rfl|byt _=>obtain⟨t,rfl⟩:=r;rfl|flt _=>obtain⟨t,rfl⟩:=r;rfl|ref _=>cases r;rfl|ty _=>cases r;rfl
theorem RelV.inj{x y:V}{u:Value}(r:RelV x u)(q:RelV y u):x=y:=Option.some.inj (r.abs.symm.trans q.abs)
theorem Vals.inj:∀{xs ys:List V}{us:List Value},Vals xs us->Vals ys us->xs=ys|_,_,_,.nil,.nil=>rfl|_,_,_,.cons r t,.cons r' t'=>by rw[r.inj r',Vals.inj t t']
section
variable{X:Cx}{pins:List (Addr×Obj)}{σ:St}{H:Hp}{s:Shared}{a:Addr}{xs ys:List V}
theorem dJ.of(h:H a=some (.lst xs)):dJ K H a xs:=.inl (.inl h)
theorem gA.of(h:H a=some (.tup xs)):gA K H a xs:=.inl (.inl h)
theorem Inv.list(I:Inv X pins σ H s)(h:dJ X.K H a xs):∃b:List Value,Vals xs b/\PlainL s.heap a b.toArray/\xs.length<=sizeLine:=by
 rcases h with h|⟨o,b,n,c,hc,hd,hs,hz,r⟩;.obtain⟨z,b,n,r,e⟩:=h.ok I.hok;exact⟨b,r,⟨_,n,e,rfl,rfl,rfl⟩,z⟩
 .refine⟨b.toList,r,⟨o,n,I.JV a o c,hc,hd,by simpa using hs⟩,?_⟩;have e:=r.length;simp only[length_toList]at e;omega
theorem Inv.tuple(I:Inv X pins σ H s)(h:gA X.K H a xs):∃b:List Value,Vals xs b/\IsTup s.heap a b.toArray/\xs.length<=sizeLine:=by
 rcases h with h|⟨o,b,n,c,hc,hs,hz,r⟩;.obtain⟨z,b,r,p⟩:=h.ok I.hok;exact⟨b,r,p,z⟩
 .refine⟨b.toList,r,⟨o,I.JV a o c,hc,n,by simpa using hs⟩,?_⟩;have e:=r.length;simp only[length_toList]at e;omega
theorem Inv.o5(I:Inv X pins σ H s)(h:dJ X.K H a xs)(h':dJ X.K H a ys):xs=ys:=by
 obtain⟨b,r,⟨o,n,e,_,_,d⟩,_⟩:=I.list h;obtain⟨its',r',⟨f,g,c,_,_,d'⟩,_⟩:=I.list h';rw[e]at c;cases c;rw[d]at d';injection d' with d1 _;have:b=its':=by simpa using congrArg toList d1
 subst this;exact r.inj r'
theorem Inv.lQ(I:Inv X pins σ H s)(h:gA X.K H a xs)(h':gA X.K H a ys):xs=ys:=by
 obtain⟨b,r,⟨o,e,_,n,d⟩,_⟩:=I.tuple h;obtain⟨its',r',⟨f,c,_,g,d'⟩,_⟩:=I.tuple h';rw[e]at c;cases c;rw[d]at d';injection d' with d1 _;have:b=its':=by simpa using congrArg toList d1
 subst this;exact r.inj r'
end
noncomputable abbrev Cx.wish(X:Cx)(E:Value->Shared->Prop):Cx:={X with xe:=E}
noncomputable abbrev Cx.S8(X:Cx):Cx:=X.wish λ_ _=>False
theorem Cx.Ok.wish{X:Cx}(ok:X.Ok)(E:Value->Shared->Prop):(X.wish E).Ok:=⟨ok.mod,ok.kind,ok.glob,ok.blt,ok.above,ok.inj,ok.has,ok.cab,ok.hd,ok.frames,ok.O9,ok.U5,ok.bs,ok.DW,ok.vA,ok.xx,ok.kZ,ok.Ik⟩
theorem Cx.Ok.iw{E:Value->Shared->Prop}(ok:(X.wish E).Ok):X.Ok:=⟨ok.mod,ok.kind,ok.glob,ok.blt,ok.above,ok.inj,ok.has,ok.cab,ok.hd,ok.frames,ok.O9,ok.U5,ok.bs,ok.DW,ok.vA,ok.xx,ok.kZ,ok.Ik⟩
section
variable{X:Cx}{pins:List (Addr×Obj)}{σ:St}{H:Hp}{s:Shared}{E:Value->Shared->Prop}
theorem Inv.wish(I:Inv X pins σ H s)(E:Value->Shared->Prop):Inv (X.wish E) pins σ H s:=⟨I.ok.wish E,I.os,I.bare,I.base,I.loc,I.cell,I.free,I.eU,I.pin,I.hok,I.len⟩
theorem Inv.iw(I:Inv (X.wish E) pins σ H s):Inv X pins σ H s:=⟨I.ok.iw,I.os,I.bare,I.base,I.loc,I.cell,I.free,I.eU,I.pin,I.hok,I.len⟩
theorem SP.iw{D:Ends}{f:Flow}{c:Shared}(h:SP (X.wish E) pins D f c):SP X pins D f c:=by cases f with|next=>obtain⟨a,b,I,q⟩:=h;exact⟨a,b,I.iw,q⟩|brk=>obtain⟨a,b,I,q⟩:=h;exact⟨a,b,I.iw,q⟩|cont=>obtain⟨a,b,I,q⟩:=h;exact⟨a,b,I.iw,q⟩|ret u=>obtain⟨v,a,b,I,r,q⟩:=h;exact⟨v,a,b,I.iw,r,q⟩
theorem mL.S8{st:List Stmt}{t:TS}(h:mL X.S8 st t):mL X st t:=λpins s σ H D I a=>wpAny_mono (h pins s σ H D (I.wish _) a) (λ_ _ q=>q.iw) λ_ _ z=>False.elim z
end
section
variable{X:Cx}{st:Stmt}{rest:List Stmt}{t u:TS}{e:Expr}{te:TE}{pos:Pos}
def Ti:TS:=λD a H=>D.nx a H
def ZR(t u:TS):TS:=λD a H=>t {D with nx:=u D} a H
theorem yl:mL X [] Ti:=λ_ _ a H _ I h=>wpAny_execs_nil ⟨a,H,I,h⟩
theorem uY(h1:PS X st t)(b:mL X rest u):mL X (st::rest) (ZR t u):=by intro pins s c H D I h;refine wpAny_execs_cons (cJ (h1 pins s c H {D with nx:=u D} I h) λf s1 q=>?_);cases f with|next=>obtain⟨a,g,j,q⟩:=q;exact b pins s1 a g D j q|ret v=>exact q|brk=>exact q|cont=>exact q
theorem yM(h1:PS X st t):mL X [st] t:=by intro pins s a H D I h;refine wpAny_execs_cons (cJ (h1 pins s a H D I h) λf s1 q=>?_);cases f with|next=>exact wpAny_execs_nil q|ret v=>exact q|brk=>exact q|cont=>exact q
theorem Inv.quiet{a:St}(I:Inv X pins a H s):interactive X.env=false:=by simp[interactive,I.ok.kind]
def UL(te:TE):TS:=λD a H=>te a H λ_ b=>D.nx a b
theorem rZ(he:PE X e te)(hs:swapsWith e none pos.line X.env=pure false:=by rfl):PS X (.Expr e pos) (UL te):=by intro pins s a H D I h;exact wpAny_Expr_any (cJ (he pins s a H _ I h) λv s1⟨x,H1,I1,r1,q1⟩=>⟨a,H1,I1,q1⟩) I.quiet hs
def Z7(te:TE):TS:=λD a H=>te a H D.rt
theorem wO(he:PE X e te):PS X (.Return (some e) pos) (Z7 te):=by intro pins s a H D I h;exact wpAny_Return_some (cJ (he pins s a H _ I h) λv s1⟨x,H1,I1,r1,q1⟩=>⟨x,a,H1,I1,r1,q1⟩)
def Xn(c:TT)(t u:TS):TS:=λD a H=>c a H λb f=>if b=true then t D a f else u D a f
theorem JG{c:Expr}{a b:List Stmt}{g:TT}(hc:PT X c g)(k:mL X a t)(l:mL X b u):PS X (.If c a b pos) (Xn g t u):=by intro pins s f H D I h;refine wpAny_If (cJ (hc pins s f H _ I h) λd s1⟨j,I1,q1⟩=>?_);cases d with|true=>exact k pins s1 f j D I1 q1|false=>exact l pins s1 f j D I1 q1
def Mh:TS:=λ_ _ _=>False
theorem vf:PS X st Mh:=λ_ _ _ _ _ _ h=>h.elim
end
abbrev TG:=V->St->Hp->(St->Hp->Prop)->Prop
abbrev Ek:=List V->St->Hp->(St->Hp->Prop)->Prop
def PG(X:Cx)(a:Expr)(t:TG):Prop:=∀(pins:List (Addr × Obj))(s:Shared)(c:St)(H:Hp)(v:V)(u:Value)(Q:St->Hp->Prop),Inv X pins c H s->RelV v u->t v c H Q->wpAny (model X.prog X.w) X.A (assign a X.env u) (λ_ f=>∃b e,Inv X pins b e f/\Q b e) X.xe s
def VN(X:Cx)(e:List Expr)(t:Ek):Prop:=∀(pins:List (Addr × Obj))(s:Shared)(b:St)(H:Hp)(vs:List V)(us:List Value)(Q:St->Hp->Prop),Inv X pins b H s->Vals vs us->t vs b H Q->wpAny (model X.prog X.w) X.A (assignInOrder ((assignEach e X.env).map (·.2)) us) (λ_ f=>∃a c,Inv X pins a c f/\Q a c) X.xe s
abbrev M8:=V->V->V->Hp->(Hp->Prop)->Prop
def R1(X:Cx)(t:M8):Prop:=∀(pins:List (Addr × Obj))(s:Shared)(a:St)(H:Hp)(o i v:V)(b c u:Value)(Q:Hp->Prop),Inv X pins a H s->RelV o b->RelV i c->RelV v u->t o i v H Q->wpAny (model X.prog X.w) X.A (setItem b c u) (λ_ f=>∃e,Inv X pins a e f/\Q e) X.xe s
section
variable{X:Cx}{pos:Pos}
def p6(i:Nat):TG:=λv a H Q=>Q (a.set i (some v)) H
theorem fj{x:Str}(a:X.N.Nodup)(b:X.N[i]?=some x)(c:Loc X.env.scope x)(e:X.fn x=true\/X.env.scope.names.lookup x=some .local:=by first|exact .inl rfl|exact .inr rfl|assumption):PG X (.Name x pos) (p6 i):=by intro pins s g H v u Q I r h;exact wpAny_assign_Name (jW I a b c r (λj f=>⟨_,H,f,h⟩) e)
def TQ:Ek:=λvs a H Q=>vs=[]/\Q a H
def Jy(t:TG)(u:Ek):Ek:=λvs b H Q=>∃v r,vs=v::r/\t v b H λa c=>u r a c Q
theorem Fp:VN X [] TQ:=by intro pins s a H vs us Q I r h;obtain⟨e,h⟩:=h;subst e;cases r;exact assignInOrder_nil ⟨a,H,I,h⟩
theorem uH{e:Expr}{a:List Expr}{t:TG}{u:Ek}(h1:PG X e t)(c:VN X a u)(hs:(assignEach (e::a) X.env).map (·.2)=assign e X.env::(assignEach a X.env).map (·.2):=by rfl):VN X (e::a) (Jy t u):=by intro pins s f H vs us Q I r h;obtain⟨v,k,g,h⟩:=h;subst g;cases r with|cons r j=>rw[hs];refine assignInOrder_cons (cJ (h1 pins s f H _ _ _ I r h) λ_ s1⟨b,H1,I1,q1⟩=>?_);exact c pins s1 b H1 _ _ Q I1 j q1
def RK(K:PySem.W.Frag)(n:Nat)(t:Ek):TG:=λv b H Q=>∃a xs,v=.ref a/\gA K H a xs/\xs.length=n/\t xs b H Q
theorem N5{c:List Expr}{k:Nat}{t:Ek}{n:Nat}(hc:X.calm=true)(h:VN X c t)(m:(assignEach c X.env).length=n:=by rfl)(f:(assignEach c X.env).findIdx? (·.1)=none:=by rfl):PG X (.Tuple c k pos) (RK X.K n t):=by intro pins s j H v u Q I r g;obtain⟨a,xs,p,q,x,g⟩:=g;subst p;cases r;obtain⟨y,l,z,hz⟩:=I.tuple q;refine assign_Tuple_tuple (I.ok.hd hc) z (by simp[m,<-x,l.length]) f λh' B=>?_;have C:Inv X pins j H {s with heap:=h'}:=I.kept (t':=s.toks) λb o e=>B b o (ne_of_lt (lt_size e)) e;exact h pins _ j H xs _ Q C (by simpa using l) g
def Yl(b c:TE)(t:M8):TG:=λv a H Q=>b a H λo e=>c a e λi f=>t o i v f λg=>Q a g
theorem J9{o i:Expr}{e f:TE}{t:M8}(ho:PE X o e)(g:PE X i f)(hs:R1 X t)(j:∀ v,assign (.Subscript o i pos) X.env v=(do
  let a<-holding [v] (eval o X.env)let b<-holding [v,a] (eval i X.env)standAt pos
  holding [v,a,b] (setItem a b v)release [v,a,b] []):=by intro _;rfl):PG X (.Subscript o i pos) (Yl e f t):=by intro pins s c H v u Q I r h;rw[j];refine wpAny_bind (wpAny_holding (cJ (ho pins s c H _ I h) λa s1⟨x,H1,I1,r1,q1⟩=>?_));refine wpAny_bind (wpAny_holding (cJ (g pins s1 c H1 _ I1 q1) λb s2⟨y,H2,I2,r2,q2⟩=>?_));refine wpAny_bind (wpAny_standAt (wpAny_bind (wpAny_holding (cJ (hs pins s2 c H2 x y v a b u _ I2 r1 r2 r q2) λ_ s3⟨k,I3,q3⟩=>?_))));exact wpAny_release ⟨c,k,I3,q3⟩
def Kp(te:TE)(g:TG):TS:=λD a H=>te a H λx b=>g x a b D.nx
theorem J8{e:Expr}{te:TE}{g:TG}(he:PE X e te)(b:PG X tg g)(hs:swapsWithSole [tg] e pos.line X.env=pure false:=by rfl)(c:swappedStores [tg] e X.env=pure none:=by rfl)(h1:(assignEach [tg] X.env).map (·.2)=[assign tg X.env]:=by rfl):PS X (.Assign [tg] e pos) (Kp te g):=by intro pins s a H D I h;refine wpAny_Assign_stores (cJ (he pins s a H _ I h) λv s1⟨x,H1,I1,r1,q1⟩=>?_) hs c;rw[h1];exact cJ (b pins s1 a H1 x v _ I1 r1 q1) λ_ s2 q=>q
theorem Cp{x:Str}{e:Expr}{te:TE}{a:Pos}(b:X.N.Nodup)(c:X.N[i]?=some x)(f:Loc X.env.scope x)(he:PE X e te)(hs:swapsWith e (some (.Name x a)) pos.line X.env=pure false:=by rfl)(g:X.fn x=true\/X.env.scope.names.lookup x=some .local:=by first|exact .inl rfl|exact .inr rfl|assumption):PS X (.Assign [.Name x a] e pos) (Kp te (p6 i)):=by intro pins s j H D I h;refine wpAny_Assign_Name (cJ (he pins s j H _ I h) λv s1⟨y,H1,I1,r1,q1⟩=>?_) hs;exact jW I1 b c f r1 (λs2 k=>⟨_,H1,k,q1⟩) g
def Xl(i j:Nat)(b:TA):TS:=λD a H=>b a H λvs c=>∃v w,vs=[v,w]/\D.nx ((a.set i (some v)).set j (some w)) c
theorem LQ{j:Nat}{x y:Str}{a b:Expr}{r:TA}{g k pt:Pos}{kt k2 Pa}(hc:X.calm=true)(t:X.N.Nodup)(G:X.N[i]?=some x)(J:X.N[j]?=some y)(l:i≠j)(u:X.env.scope.names.lookup x=some .local)(z:X.env.scope.names.lookup y=some .local)(L:PA X [a,b] r)(O:swappedStores [.Tuple [.Name x g,.Name y k] kt pt] (.Tuple [a,b] k2 Pa) X.env=pure (some [x,y]))(hs:swapsWithSole [.Tuple [.Name x g,.Name y k] kt pt] (.Tuple [a,b] k2 Pa) pos.line X.env=pure false:=by rfl):PS X (.Assign [.Tuple [.Name x g,.Name y k] kt pt] (.Tuple [a,b] k2 Pa) pos) (Xl i j r):=by
 intro pins s B H D I h;rw[exec_Assign_arm];refine wpAny_bind (wpAny_standAt ?_);rw[hs];refine wpAny_bind (wpAny_pure ?_);rw[if_neg (by decide)];refine wpAny_bind (Tuple_ (cJ (L _ pins s B H _ I h) λus s1⟨vs,H1,I1,r1,m⟩=>?_));obtain⟨v,w,Q,m⟩:=m;subst Q;obtain⟨c,f,rfl,U,W⟩:∃c f,us=[c,f]/\RelV v c/\RelV w f:=by cases r1 with|cons p q=>cases q with|cons p' Y=>cases Y;exact⟨_,_,rfl,p,p'⟩
 refine wpAny_newObj_type ?_ (by show 2<=sizeLine;decide);have Z:Inv X pins B H1 {s1 with heap:=s1.heap.push {cls:=.type "tuple",data:=.seq [c,f].toArray}}:=I1.kept (t':=s1.toks) λb o e=>gG e;rw[O];refine wpAny_bind (wpAny_pure ?_);show wpAny (model X.prog X.w) X.A (do rule "assign.swapped-stores";let items<-unpackItems (.ref s1.heap.objs.size) 2 none;assignInOrder [λv=>bindName X.env y v,λv=>bindName X.env x v] items.reverse;pure Flow.next) _ _ _;refine wpAny_bind (wpAny_rule (wpAny_bind (unpackItems_tuple (items:=#[c,f]) (I.ok.hd hc) (IsTup.new s1.heap _) λh' n=>?_)));have I3:=Z.kept (h':=h') (t':=s1.toks) λb o e=>n b o (ne_of_lt (lt_size e)) e;show wpAny _ _ (assignInOrder [λv=>bindName X.env y v,λv=>bindName X.env x v] [f,c]>>=λ_=>pure Flow.next) _ _ _;refine wpAny_bind (assignInOrder_cons (wpAny_bindName (jW I3 t J (.inl z) W (λs2 I4=>?_) (.inr z))));refine assignInOrder_cons (wpAny_bindName (jW I4 t G (.inl u) U (λs3 C=>assignInOrder_nil (wpAny_pure ?_)) (.inr u)));rw[List.set_comm _ _ (Ne.symm l)]at C;exact⟨_,H1,C,m⟩
end
section
variable{X:Cx}{pos:Pos}
def Ln(c:TT)(k:TS):TS:=λD a H=>∃W:Nat->St->Hp->Prop,(∃m,W m a H)/\∀m a H,W m a H->c a H λb f=>if b=true then ∃N:St->Hp->Prop,(∀e g,N e g->∃j,j<m/\W j e g)/\k {D with nx:=N,ct:=N,bk:=D.nx} a f else D.nx a f
theorem tD{c:Expr}{body:List Stmt}{t:TT}{u:TS}(x:PassesOwn (model X.prog X.w) X.A X.env X.xe)(hc:PT X c t)(G:mL X body u):PS X (.While c body [] pos) (Ln t u):=by intro pins s J H D I h;obtain⟨W,⟨m0,L⟩,turn⟩:=h;refine wpAny_While (codeAny_whileLoop (λn O=>∃g y,Inv X pins g y O/\W n g y) ?_ m0 ⟨J,H,I,L⟩);rintro n s1⟨e,z,Q,U⟩;refine wpAny_passesOwn x (cJ (hc pins s1 e z _ Q (turn n e z U)) λb s2⟨B,I2,k⟩=>?_);cases b with
 |true=>obtain⟨N,C,k⟩:=k;rw[if_pos rfl];refine wpAny_passesOwn x (cJ (G pins s2 e B _ I2 k) λf s3 l=>?_);cases f with|next=>obtain⟨a,j,m,o⟩:=l;obtain⟨p,q,r⟩:=C a j o;exact⟨p,q,a,j,m,r⟩|cont=>obtain⟨a,j,m,o⟩:=l;obtain⟨p,q,r⟩:=C a j o;exact⟨p,q,a,j,m,r⟩|brk=>exact l|ret v=>exact l
 |false=>rw[if_neg Bool.false_ne_true];exact wpAny_execs_nil ⟨e,B,I2,k⟩
end
structure It where
 go:Nat->Hp->Prop
 Il:Nat->Hp->V->Hp->Prop
 stop:Nat->Hp->Prop
def mG(X:Cx)(pins:List (Addr×Obj))(H:Hp)(b:Addr):Prop:=H b=none/\b≠X.env.locals/\b∉X.fs/\(b∈X.ex\/X.s₀.heap.objs.size<=b)/\(∀x c,X.env.cells.lookup x=some c->c≠b)/\∀p∈X.pn++pins,p.1≠b
theorem Inv.Cv{g:St}{f:Hp}{b:Addr}(I:Inv X pins g H s)(a:s.heap.objs.size<=b)(j:f b=none):mG X pins f b:=by
 refine⟨j,Nat.ne_of_gt (lt_of_lt_of_le I.lt a),I.XM a,.inr (le_trans I.sz a),λx c e z=>?_,λp k z=>?_⟩;.obtain⟨v,q⟩:=I.cell x c e;exact absurd (lt_of_lt_of_le q.lt (by rw[z];exact a)) (lt_irrefl _)
 .exact absurd (lt_of_lt_of_le (lt_size (I.pin p k).1) (by rw[z];exact a)) (lt_irrefl _)
structure Turn(P:Program)(w:World)(K:PySem.W.Frag)(tg:Expr)(J:It)(fp:List Addr)(it:Addr)(tn:Nat->Heap->Prop):Prop where
 mem:it∈fp
 obj:∀i h,tn i h->∀b∈fp,∃o,h.get? b=some o/\∀v,o.data≠.cell v
 keep:∀i h h',tn i h->(∀b∈fp,∀o,h.get? b=some o->h'.get? b=some o)->tn i h'
 item:∀(X:Cx),X.prog=P->X.w=w->X.K=K->X.calm=true->∀(i:Nat)(pins:List (Addr×Obj))(s:Shared)(σ:St)(H:Hp)(E:Value->Shared->Prop),Inv X pins σ H s->(∀b∈fp,mG X pins H b)->tn i s.heap->J.go i H->wpAny (model P w) X.A (pyNext (.ref it)) (λr s1=>∃u,r=some u/\wpAny (model P w) X.A (letOwnedTupleGo tg (.ref it) u) (λ_ s2=>∃x H',Inv X pins σ H' s2/\RelV x u/\J.Il i H x H'/\tn (i+1) s2.heap/\∀b∈fp,H' b=none) E s1) E s
 done:∀(X:Cx),X.prog=P->X.w=w->X.K=K->X.calm=true->∀(i:Nat)(pins:List (Addr×Obj))(s:Shared)(σ:St)(H:Hp)(E:Value->Shared->Prop),Inv X pins σ H s->(∀b∈fp,mG X pins H b)->tn i s.heap->J.stop i H->wpAny (model P w) X.A (pyNext (.ref it)) (λr s1=>r=none/\Inv X pins σ H s1) E s
 self:∀(A:Around)(i:Nat)(s:Shared)(Q:Value->Shared->Prop)(E:Value->Shared->Prop),tn i s.heap->Q (.ref it) s->wpAny (model P w) A (pyIter (.ref it)) Q E s
abbrev TI:=St->Hp->(It->Hp->Prop)->Prop
def PIE(X:Cx)(pins:List (Addr×Obj))(g:St)(tg:Expr)(R:It->Hp->Prop)(a:Value)(s2:Shared):Prop:=∃(it:Addr)(e:List Addr)(f:Nat->Heap->Prop)(J:It)(c:Hp),a=.ref it/\Inv X pins g c s2/\Turn X.prog X.w X.K tg J e it f/\f 0 s2.heap/\(∀b∈e,mG X pins c b)/\R J c
def PI(X:Cx)(tg iter:Expr)(b:TI):Prop:=∀(pins:List (Addr × Obj))(s:Shared)(a:St)(H:Hp)(R:It->Hp->Prop),Inv X pins a H s->b a H R->wpAny (model X.prog X.w) X.A (eval iter X.env) (λv s1=>wpAny (model X.prog X.w) X.A (pyIter v) (PIE X pins a tg R) X.xe s1) X.xe s
theorem CK{A:Around}{E:Value->Shared->Prop}{it:Addr}{u:Value}{o:Obj}{n:String}{vs:Array Value}{Q:Unit->Shared->Prop}(ho:s.heap.get? it=some o)(hc:o.cls=.type n)(hd:o.data=.fields vs)(b:["enumerate","zip","dict_itemiterator","dict_reverseitemiterator","odict_iterator","itertools.zip_longest","itertools.pairwise"].contains n=false)(a:Q () s):wpAny M A (letOwnedTupleGo tg (.ref it) u) Q E s:=by unfold letOwnedTupleGo;cases tg<;>first|exact wpAny_pure a|(cases u<;>first|exact wpAny_pure a|(refine wpAny_bind (wpAny_load ho ?_);rw[hc,hd];show wpAny M A (if(["enumerate","zip","dict_itemiterator","dict_reverseitemiterator","odict_iterator","itertools.zip_longest","itertools.pairwise"].contains n&&vs[0]?==some (rawInt _))=true then _ else _) Q E s;rw[if_neg (by intro h;rw[b,Bool.false_and]at h;cases h)];exact wpAny_pure a))
noncomputable def MN(K:PySem.W.Frag)(a:Addr):It:=⟨λi H=>∃xs x,dJ K H a xs/\xs[i]?=some x,λi H x b=>b=H/\∀xs,dJ K H a xs->xs[i]?=some x,λi H=>∃xs,dJ K H a xs/\xs.length<=i⟩
noncomputable def Qd(K:PySem.W.Frag)(a:Addr):It:=⟨λi H=>∃xs x,gA K H a xs/\xs[i]?=some x,λi H x b=>b=H/\∀xs,gA K H a xs->xs[i]?=some x,λi H=>∃xs,gA K H a xs/\xs.length<=i⟩
noncomputable def RB(lo:Int)(n:Nat):It:=⟨λi _=>i<n,λi H x a=>a=H/\x=.int (lo+i),λi _=>n<=i⟩
theorem zm{P:Program}(a it:Addr):Turn P w K tg (MN K a) [it] it (λi h=>h.IsListIter it a i)where
 mem:=by simp
 obj:=λi h st b f=>by
  have e:b=it:=by simpa using f
  subst e;obtain⟨o,e,c,d⟩:=st;exact⟨o,e,λv z=>by rw[d]at z;cases z⟩
 keep:=λi h h' st k=>st.at λo e=>k it (by simp) o e;item:=by intro X m n q hc i pins s C H E I j st r;subst m n q;obtain⟨xs,x,l,t⟩:=r;obtain⟨y,B,p,hz⟩:=I.list l;obtain⟨u,G,J⟩:=B.get t;obtain⟨f0,f1,f2,f3,f4,f5⟩:=j it (by simp);refine wpAny_pyNext_list_item st p.isList (x:=u) (by simpa using G) λh' g sb=>?_;have L:Inv X pins C H {s with heap:=h'}:=I.turned (t':=s.toks) (λb o f e=>(sb.2 b f).trans e) f0 f1 f3 f4 f5;obtain⟨o,e,c,d⟩:=id g;exact⟨u,rfl,CK (s:={s with heap:=h'}) e c d (by decide) ⟨x,H,L,J,⟨rfl,λys N=>by rw[I.o5 N l];exact t⟩,g,λb f=>(j b f).1⟩⟩
 done:=by intro X m n q hc i pins s C H E I j st r;subst m n q;obtain⟨xs,l,t⟩:=r;obtain⟨y,B,p,hz⟩:=I.list l;obtain⟨f0,f1,f2,f3,f4,f5⟩:=j it (by simp);have Q:=B.length;exact wpAny_pyNext_list_end (I.ok.hd hc) st p.isList (by simp;omega) λh' O=>⟨rfl,I.turned (t':=s.toks) (λb o f e=>O b o f e) f0 f1 f3 f4 f5⟩
 self:=λ_ _ _ _ _ st h=>wpAny_pyIter_listiter st h
theorem vW{P:Program}(a it:Addr):Turn P w K tg (Qd K a) [it] it (λi h=>h.IsTupleIter it a i)where
 mem:=by simp
 obj:=λi h st b f=>by
  have e:b=it:=by simpa using f
  subst e;obtain⟨o,e,c,d⟩:=st;exact⟨o,e,λv z=>by rw[d]at z;cases z⟩
 keep:=λi h h' st k=>st.at λo e=>k it (by simp) o e;item:=by intro X n q r hc i pins s C H E I l st t;subst n q r;obtain⟨xs,x,m,y⟩:=t;obtain⟨g,B,p,hz⟩:=I.tuple m;obtain⟨u,G,J⟩:=B.get y;obtain⟨f0,f1,f2,f3,f4,f5⟩:=l it (by simp);refine wpAny_pyNext_tuple_item st (show s.heap.IsTuple a g.toArray from p) (x:=u) (by simpa using G) λh' j sb=>?_;have L:Inv X pins C H {s with heap:=h'}:=I.turned (t':=s.toks) (λb o f e=>(sb.2 b f).trans e) f0 f1 f3 f4 f5;obtain⟨o,e,c,d⟩:=id j;exact⟨u,rfl,CK (s:={s with heap:=h'}) e c d (by decide) ⟨x,H,L,J,⟨rfl,λys N=>by rw[I.lQ N m];exact y⟩,j,λb f=>(l b f).1⟩⟩
 done:=by intro X n q r hc i pins s C H E I l st t;subst n q r;obtain⟨xs,m,y⟩:=t;obtain⟨g,B,p,hz⟩:=I.tuple m;obtain⟨f0,f1,f2,f3,f4,f5⟩:=l it (by simp);have Q:=B.length;exact wpAny_pyNext_tuple_end (I.ok.hd hc) st (show s.heap.IsTuple a g.toArray from p) (by simp;omega) λh' O=>⟨rfl,I.turned (t':=s.toks) (λb o f e=>O b o f e) f0 f1 f3 f4 f5⟩
 self:=λ_ _ _ _ _ st h=>wpAny_pyIter_tupleiter st h
theorem vV{P:Program}(it:Addr)(lo:Int)(n:Nat):Turn P w K tg (RB lo n) [it] it (λi h=>IsRangeIter h it (lo+(i:Nat)*1) ((n:Int)-(i:Nat)) 1)where
 mem:=by simp
 obj:=λi h st b a=>by
  have e:b=it:=by simpa using a
  subst e;exact⟨_,st,λv z=>by have r:Data.fields _=Data.cell v:=z;cases r⟩
 keep:=λi h h' st k=>k it (by simp) _ st;item:=by intro X g j l hc i pins s p H E I f st m;subst g j l;obtain⟨f0,f1,f2,f3,f4,f5⟩:=f it (by simp);have W:=Walks.range (prog:=X.prog) (w:=X.w) (I.ok.hd hc) it lo 1 n;refine W.item i s _ _ m st λv h' q u c kk=>?_;obtain⟨t,rfl⟩:=u;have x:Inv X pins p H {s with heap:=h',toks:=q}:=I.turned (λb o a e=>kk b o (by simpa using a) e) f0 f1 f3 f4 f5;refine⟨_,rfl,CK (s:={s with heap:=h',toks:=q}) (n:="range_iterator") c rfl rfl (by decide) ⟨.int (lo+i),H,x,⟨t,?_⟩,⟨rfl,rfl⟩,c,λb a=>(f b a).1⟩⟩;rw[Int.mul_one]
 done:=by intro X g j l hc i pins s p H E I f st m;subst g j l;obtain⟨f0,f1,f2,f3,f4,f5⟩:=f it (by simp);exact wpAny_pyNext_range_end (I.ok.hd hc) st (by have:n<=i:=m;omega) λh' y=>⟨rfl,I.turned (t':=s.toks) (λb o a e=>y b o a e) f0 f1 f3 f4 f5⟩
 self:=λ_ _ _ _ _ st h=>wpAny_pyIter_rangeiter st h
section
variable{X:Cx}{tg:Expr}
theorem tU{c:St}{R:It->Hp->Prop}{E:Value->Shared->Prop}{lo a:Int}{t u v:Tok}{f:Nat}(I:Inv X pins c H s)(h1:-(2^62)<=lo)(j:lo<2^62)(k:-(2^62)<=a)(l:a<2^62)(q:R (RB lo (a-lo).toNat) H):wpAny (model X.prog X.w) X.A (pyIter (.ref s.heap.objs.size)) (PIE X pins c tg R) E {s with heap:=s.heap.push {cls:=.type "range",data:=.fields #[.int lo t,.int a u,.int 1 v]},toks:=f}:=by
 refine wpAny_pyIter_range (IsRange.new ..) (small_one h1 j k l) ?_;have g:Inv X pins c H {s with heap:=s.heap.push {cls:=.type "range",data:=.fields #[.int lo t,.int a u,.int 1 v]},toks:=f}:=I.kept λb o e=>gG e;refine⟨(s.heap.push {cls:=.type "range",data:=.fields #[.int lo t,.int a u,.int 1 v]}).objs.size,[(s.heap.push {cls:=.type "range",data:=.fields #[.int lo t,.int a u,.int 1 v]}).objs.size],_,_,H,rfl,g.kept (t':=f) λb o e=>gG e,vV _ lo (a-lo).toNat,?_,λb m=>?_,q⟩
 . have n:lo+((0:Nat):Int)*1=lo:=by simp
   have p:(((a-lo).toNat:Nat):Int)-((0:Nat):Int)=Builtin.Range.rangeSize lo a 1:=by rw[rangeSize_one];split<;>omega
   show IsRangeIter _ _ (lo+((0:Nat):Int)*1) ((((a-lo).toNat:Nat):Int)-((0:Nat):Int)) 1;rw[n,p];exact get?_push_size _ rfl
 . have e:b=(s.heap.push {cls:=.type "range",data:=.fields #[.int lo t,.int a u,.int 1 v]}).objs.size:=by simpa using m
   subst e;exact g.Cv (cD) (g.hok.fresh (cD))
def R4(a:TA):TI:=λb H R=>a b H λvs c=>∃j:Int,vs=[.int j]/\-(2^62)<=j/\j<2^62/\R (RB 0 j.toNat) c
def Tu(a:TA):TI:=λb H R=>a b H λvs c=>∃i j:Int,vs=[.int i,.int j]/\(-(2^62)<=i/\i<2^62/\-(2^62)<=j/\j<2^62)/\R (RB i (j-i).toNat) c
theorem zK{a:Expr}{c:TA}{p:Pos}(f:Gl X "range")(g:X.mg "range"=none)(k:PA X [a] c)(hs:starEach [a] X.env=[(false,eval a X.env)]:=by rfl):PI X tg (.Call (.Name "range" p) [a] [] pos) (R4 c):=by intro pins s l H R I h;refine Call_ (iM I f g boot_range (PyProof.Rows.callWith_type1 (cJ (k pos pins s l H _ I h) λus s1⟨vs,H1,I1,r1,b⟩=>?_) hs rfl));obtain⟨j,e,b,m,q⟩:=b;subst e;cases r1 with|cons r n=>cases n;obtain⟨t,rfl⟩:=r;exact call_range_1 (tU I1 (by omega) (by omega) b m (by simpa using q))
theorem zc{a b:Expr}{k:TA}{p:Pos}(l:Gl X "range")(m:X.mg "range"=none)(n:PA X [a,b] k)(hs:starEach [a,b] X.env=[(false,eval a X.env),(false,eval b X.env)]:=by rfl)(c:starEach [b] X.env=[(false,eval b X.env)]:=by rfl):PI X tg (.Call (.Name "range" p) [a,b] [] pos) (Tu k):=by intro pins s o H R I h;refine Call_ (iM I l m boot_range (PyProof.Rows.callWith_type1 (cJ (n pos pins s o H _ I h) λus s1⟨vs,H1,I1,r1,f⟩=>?_) (by rw[hs,c]) (by rw[c];rfl)));obtain⟨i,j,e,⟨f,u,v,x⟩,q⟩:=f;subst e;cases r1 with|cons r g=>cases g with|cons r' g=>cases g;obtain⟨t,rfl⟩:=r;obtain⟨t',rfl⟩:=r';exact call_range_2 (tU I1 f u v x q)
def Zt(j:TI)(g:TG)(k:TS):TS:=λD a H=>j a H λJ l=>∃W:Nat->Nat->St->Hp->Prop,(∃m,W 0 m a l)/\∀i m a H,W i m a H->(J.stop i H/\D.nx a H)\/(J.go i H/\∃N:St->Hp->Prop,(∀b c,N b c->∃f,f<m/\W (i+1) f b c)/\∀x c,J.Il i H x c->g x a c λe n=>k {D with nx:=N,ct:=N,bk:=D.nx} e n)
noncomputable def nR(a:List Addr)(h:Heap):List (Addr×Obj):=a.filterMap λb=>(h.get? b).map λo=>(b,o)
theorem gF{a:List Addr}{b:Addr}{o:Obj}(c:b∈a)(e:h.get? b=some o):(b,o)∈nR a h:=List.mem_filterMap.mpr ⟨b,c,by rw[e];rfl⟩
theorem zH{a:List Addr}{p:Addr×Obj}(c:p∈nR a h):p.1∈a/\h.get? p.1=some p.2:=by obtain⟨b,f,e⟩:=List.mem_filterMap.mp c;cases q:h.get? b with|none=>rw[q]at e;cases e|some o=>rw[q]at e;have g:(b,o)=p:=Option.some.inj e;subst g;exact⟨f,q⟩
theorem Inv.pinned{c:St}{a:List Addr}(I:Inv X pins c H s)(j:∀b∈a,mG X pins H b)(ho:∀b∈a,∃o,s.heap.get? b=some o/\∀v,o.data≠.cell v):Inv X (pins++nR a s.heap) c H s:=I.yG λp k=>(mem_append.mp k).elim (λz=>I.pin p (mem_append_right _ z)) λz=>by obtain⟨f,e⟩:=zH z;obtain⟨f0,f1,f2,_⟩:=j p.1 f;obtain⟨o,g,d⟩:=ho p.1 f;rw[e]at g;cases g;exact⟨e,f0,f1,f2,d⟩
theorem Inv.j8{b:List (Addr×Obj)}{a:St}(I:Inv X (pins++b) a H s):Inv X pins a H s:=I.yG λp c=>I.pin p (mem_append_right _ (mem_append_left _ c))
theorem Ma{iter:Expr}{body:List Stmt}{U:TI}{g:TG}{Y:TS}(z:PassesOwn (model X.prog X.w) X.A X.env X.xe)(hc:X.calm=true)(hi:PI X tg iter U)(hg:PG X tg g)(c:mL X body Y)(hs:∀x,foldedSetIterable iter X.env x=pure x:=by intro _;rfl):PS X (.For tg iter body [] pos) (Zt U g Y):=by
 intro pins s Z H D I h;refine wpAny_For (cJ (hi pins s Z H _ I h) λv s1 h1=>cJ h1 λae s2 h2=>?_) hs;obtain⟨it,B,tn,J,H2,e,I2,T,st2,f2,W,⟨m0,w0⟩,turn⟩:=h2;subst e--what stays true of the iterator's objects through the loop
 have j:∀{t:Hp},(∀b∈B,t b=none)->∀b∈B,mG X pins t b:=λhn b c=>⟨hn b c,(f2 b c).2⟩;refine codeAny_forLoop_any (λn s'=>∃i k t,Inv X pins k t s'/\tn i s'.heap/\(∀b∈B,t b=none)/\W i n k t) ?_ m0 ⟨0,Z,H2,I2,st2,λb c=>(f2 b c).1,w0⟩;rintro n s3⟨i,l,L,I3,st3,C,w3⟩;rcases turn i n l L w3 with⟨stop,qn⟩|⟨go,N,hN,step⟩;.refine wpAny_passesOwn z (cJ (T.done X rfl rfl rfl hc i pins s3 l L X.xe I3 (j C) st3 stop) λr s4⟨hr,I4⟩=>?_);subst hr;exact wpAny_execs_nil ⟨l,L,I4,qn⟩
 . refine wpAny_passesOwn z (cJ (T.item X rfl rfl rfl hc i pins s3 l L X.xe I3 (j C) st3 go) λr s4⟨u,hr,h4⟩=>?_);subst hr;refine wpAny_passesOwn z (cJ h4 λ_ s5⟨x,H5,I5,r5,y5,Im,fr5⟩=>?_);have O:=I5.pinned (j fr5) (T.obj _ _ Im);refine wpAny_passesOwn z (cJ (hg _ s5 l H5 x u _ O r5 (step x H5 y5)) λ_ s6⟨Q,H6,I6,q6⟩=>?_);refine wpAny_passesOwn z (cJ (c _ s6 Q H6 _ I6 q6) λf s7 y=>?_);have again:∀{a:St}{p:Hp},Inv X (pins++nR B s5.heap) a p s7->N a p->∃m,m<n/\∃i k t,Inv X pins k t s7/\tn i s7.heap/\(∀b∈B,t b=none)/\W i m k t:=λ{a p}q G=>by obtain⟨m',hm,w7⟩:=hN a p G;refine⟨m',hm,i+1,a,p,q.j8,T.keep _ _ _ Im λb c o e=>(q.pin (b,o) (mem_append_right _ (mem_append_right _ (gF c e)))).1,λb c=>?_,w7⟩;obtain⟨o,e,d⟩:=T.obj _ _ Im b c;exact(q.pin (b,o) (mem_append_right _ (mem_append_right _ (gF c e)))).2.1
   cases f with|next=>obtain⟨a,p,q,G⟩:=y;exact again q G|cont=>obtain⟨a,p,q,G⟩:=y;exact again q G|brk=>obtain⟨a,p,q,y⟩:=y;exact⟨a,p,q.j8,y⟩|ret v=>obtain⟨x7,a,p,q,r7,y⟩:=y;exact⟨x7,a,p,q.j8,r7,y⟩
end
abbrev R2:=V->V->Hp->VK->Prop
def dH(X:Cx)(f:Value->Value->Sem Value)(r:R2):Prop:=∀(pins:List (Addr × Obj))(s:Shared)(a:St)(H:Hp)(x y:V)(v u:Value)(Q:VK),Inv X pins a H s->RelV x v->RelV y u->r x y H Q->wpAny (model X.prog X.w) X.A (f v u) (EP X pins a Q) X.xe s
def ZD(X:Cx)(f:Value->Sem Value)(r:V->Hp->VK->Prop):Prop:=∀(pins:List (Addr × Obj))(s:Shared)(a:St)(H:Hp)(x:V)(v:Value)(Q:VK),Inv X pins a H s->RelV x v->r x H Q->wpAny (model X.prog X.w) X.A (f v) (EP X pins a Q) X.xe s
def fP(X:Cx)(f:Value)(r:List V->Hp->VK->Prop):Prop:=∀(pins:List (Addr × Obj))(s:Shared)(a:St)(H:Hp)(xs:List V)(us:List Value)(Q:VK),Inv X pins a H s->Vals xs us->r xs H Q->wpAny (model X.prog X.w) X.A (call f us) (EP X pins a Q) X.xe s
def Qx(r:R2)(b c:TE):TE:=λa H Q=>b a H λx e=>c a e λy f=>r x y f Q
def tUn(r:V->Hp->VK->Prop)(a:TE):TE:=λb H Q=>a b H λx c=>r x c Q
def rI(C:Int->Int->Prop)(g:Int->Int->V):R2:=λx y H Q=>∃i j,x=.int i/\y=.int j/\C i j/\Q (g i j) H
def Er(g:Int->Int->V):R2:=λx y H Q=>∃i j,x=.int i/\y=.int j/\Q (g i j) H
def rU(g:Int->V):V->Hp->VK->Prop:=λx H Q=>∃i,x=.int i/\Q (g i) H
section
variable{X:Cx}{a b c:Expr}{ta tb tc:TE}{pos:Pos}
theorem Km(m:PE X a ta)(n:PE X b tb){e:St}{R:V->V->Hp->Prop}(I:Inv X pins e H s)(h:ta e H λx l=>tb e l λy g=>R x y g){Q:Value->Shared->Prop}{f:Value->Value->Sem Value}(o:∀v u s2 x y g,Inv X pins e g s2->RelV x v->RelV y u->R x y g->wpAny (model X.prog X.w) X.A (f v u) Q X.xe s2):wpAny (model X.prog X.w) X.A (eval a X.env) (λv j=>wpAny (model X.prog X.w) X.A (eval b X.env) (λu k=>wpAny (model X.prog X.w) X.A (f v u) Q X.xe k) X.xe j) X.xe s:=by refine cJ (m pins s e H _ I h) λv s1⟨x,l,I1,r1,q1⟩=>?_;refine cJ (n pins s1 e l _ I1 q1) λu s2⟨y,g,I2,r2,q2⟩=>?_;exact o v u s2 x y g I2 r1 r2 q2
theorem UW{op:Operator}{r:R2}(ho:dH X (binaryOp op) r)(e:PE X a ta)(f:PE X b tb):PE X (.BinOp a op b pos) (Qx r ta tb):=by intro pins s g H Q I h;exact wpAny_BinOp (Km e f I h λv u s2 x y j k l m q=>ho pins s2 g j x y v u Q k l m q)
theorem Th{op:UnaryOp}{r:V->Hp->VK->Prop}(ho:ZD X (unaryOp op) r)(f:PE X a ta):PE X (.UnaryOp op a pos) (tUn r ta):=by intro pins s e H Q I h;exact UnaryOp_ (cJ (f pins s e H _ I h) λv s1⟨x,H1,I1,r1,q1⟩=>ho pins s1 e H1 x v Q I1 r1 q1)
theorem YS{f:Value->Value->Sem Value}{C:Int->Int->Prop}{g:Int->Int->Int}(rule:∀(i j:Int)(t u:Tok)(s:Shared)(Q:Value->Shared->Prop)(E:Value->Shared->Prop),C i j->Q (.int (g i j) s.toks) {s with toks:=s.toks+1}->wpAny (model X.prog X.w) X.A (f (.int i t) (.int j u)) Q E s):dH X f (rI C λi j=>.int (g i j)):=by intro pins s l H x y v u Q I e k h;obtain⟨i,j,rfl,rfl,hc,q⟩:=h;obtain⟨t,rfl⟩:=e;obtain⟨t',rfl⟩:=k;exact rule i j t t' s _ _ hc ⟨.int (g i j),H,I.tok _,⟨_,rfl⟩,q⟩
theorem R8{f:Value->Value->Sem Value}{g:Int->Int->Int}(rule:∀(i j:Int)(t u:Tok)(s:Shared)(Q:Value->Shared->Prop)(E:Value->Shared->Prop),Q (.int (g i j) s.toks) {s with toks:=s.toks+1}->wpAny (model X.prog X.w) X.A (f (.int i t) (.int j u)) Q E s):dH X f (Er λi j=>.int (g i j)):=by intro pins s l H x y v u Q I e k h;obtain⟨i,j,rfl,rfl,q⟩:=h;obtain⟨t,rfl⟩:=e;obtain⟨t',rfl⟩:=k;exact rule i j t t' s _ _ ⟨.int (g i j),H,I.tok _,⟨_,rfl⟩,q⟩
theorem Hj{f:Value->Value->Sem Value}{g:Int->Int->Bool}(rule:∀(i j:Int)(t u:Tok)(s:Shared)(Q:Value->Shared->Prop)(E:Value->Shared->Prop),Q (.bool (g i j)) s->wpAny (model X.prog X.w) X.A (f (.int i t) (.int j u)) Q E s):dH X f (Er λi j=>.bl (g i j)):=by intro pins s l H x y v u Q I e k h;obtain⟨i,j,rfl,rfl,q⟩:=h;obtain⟨t,rfl⟩:=e;obtain⟨t',rfl⟩:=k;exact rule i j t t' s _ _ ⟨.bl (g i j),H,I,rfl,q⟩
def Ye(i j:Int):Prop:=0<=j/\j<=1000000/\i.natAbs<2^64
def Lz(i j:Int):Prop:=(-(2^64)<i/\i<2^64)\/(-(2^64)<j/\j<2^64)
theorem Lz.ok{i j:Int}(h:Lz i j):IntMulOk i j:=by
 rcases h with⟨h1,e⟩|⟨h1,e⟩;.exact .of_left (intBits_le_64 h1 e)
 .exact .of_right (intBits_le_64 h1 e)
theorem Lf:dH X (binaryOp .Add) (Er λi j=>.int (i+j)):=R8 λ_ _ _ _ _ _ _ q=>add_int q
theorem Oz:dH X (binaryOp .Sub) (Er λi j=>.int (i-j)):=R8 λ_ _ _ _ _ _ _ q=>sub_int q
theorem Kl:dH X (binaryOp .Mult) (rI Lz λi j=>.int (i*j)):=YS λ_ _ _ _ _ _ _ hc q=>mul_int q hc.ok
theorem Lh:dH X (binaryOp .Mod) (rI (λ_ j=>0<j) λi j=>.int (i%j)):=YS λi j _ _ _ _ _ hc q=>by have h1:(0:Int)<j:=hc;exact mod_int' (by omega) (by rw[Int.fmod_eq_emod_of_nonneg i (by omega)];exact q)
theorem M7:dH X (binaryOp .Pow) (rI Ye λi j=>.int (i^j.toNat)):=YS λ_ _ _ _ _ _ _ hc q=>pow_int_small hc.1 hc.2.1 hc.2.2 q
theorem Qq{f:Value->Sem Value}{g:Int->Int}(rule:∀(i:Int)(t:Tok)(s:Shared)(Q:Value->Shared->Prop)(E:Value->Shared->Prop),Q (.int (g i) s.toks) {s with toks:=s.toks+1}->wpAny (model X.prog X.w) X.A (f (.int i t)) Q E s):ZD X f (rU λi=>.int (g i)):=by intro pins s j H x v Q I e h;obtain⟨i,rfl,q⟩:=h;obtain⟨t,rfl⟩:=e;exact rule i t s _ _ ⟨.int (g i),H,I.tok _,⟨_,rfl⟩,q⟩
theorem Nq:ZD X (unaryOp .USub) (rU λi=>.int (-i)):=Qq λ_ _ _ _ _ q=>neg_int q
end
section
variable{X:Cx}{a b c:Expr}{ta tb tc:TE}{pos:Pos}
theorem Cu{f:St}{Q:VK}{k g:Bool}(I:Inv X pins f H s)(q:Q (.bl k) H)(e:k=g):EP X pins f Q (.bool g) s:=by subst e;exact⟨.bl k,H,I,rfl,q⟩
theorem Tn:dH X (compareOp .Lt) (Er λi j=>.bl (decide (i<j))):=Hj λ_ _ _ _ _ _ _ q=>lt_int q
theorem Ug:dH X (compareOp .LtE) (Er λi j=>.bl (decide (i<=j))):=Hj λ_ _ _ _ _ _ _ q=>le_int q
theorem Tq:dH X (compareOp .Gt) (Er λi j=>.bl (decide (j<i))):=Hj λ_ _ _ _ _ _ _ q=>gt_int q
theorem Uq:dH X (compareOp .GtE) (Er λi j=>.bl (decide (j<=i))):=Hj λ_ _ _ _ _ _ _ q=>ge_int q
theorem Lg:dH X (compareOp .Is) (λx y H Q=>y=.non/\Q (.bl (decide (x=.non))) H):=by intro pins s g H x y v u Q I e f h;obtain⟨rfl,q⟩:=h;cases f;refine is_none_gen (Cu I q ?_);cases x<;>first|(cases e;rfl)|(obtain⟨t,rfl⟩:=e;rfl)
theorem Gv:dH X (compareOp .IsNot) (λx y H Q=>y=.non/\Q (.bl (!decide (x=.non))) H):=by intro pins s g H x y v u Q I e f h;obtain⟨rfl,q⟩:=h;cases f;refine isnot_none_gen (Cu I q ?_);cases x<;>first|(cases e;rfl)|(obtain⟨t,rfl⟩:=e;rfl)
theorem aB(b:Expr)(h:op≠.In:=by decide)(e:op≠.NotIn:=by decide):behindInMarks op b=false:=by
 have f:(op==CmpOp.In)=false:=by cases op<;>first|rfl|exact absurd rfl h
 have g:(op==CmpOp.NotIn)=false:=by cases op<;>first|rfl|exact absurd rfl e
 cases b<;>simp[behindInMarks,f,g]
theorem GD{r:R2}(ho:dH X (compareOp op) r)(e:PE X a ta)(f:PE X b tb)(g:behindInMarks op b=false):PE X (.Compare a [op] [b] pos) (Qx r ta tb):=by intro pins s j H Q I h;exact wpAny_Compare1 (Km e f I h λv u s2 x y k l m n q=>ho pins s2 j k x y v u Q l m n q) g
def Jf(t:TE):TT:=λe H Q=>t e H λx f=>∃k,x=.bl k/\Q k f
theorem Hv{r:R2}(ho:dH X (compareOp op) r)(g:PE X a ta)(j:PE X b tb)(l:behindInMarks op b=false):PT X (.Compare a [op] [b] pos) (Jf (Qx r ta tb)):=by intro pins s f H Q I h;refine wpAny_isTrue_Compare1 (cJ (g pins s f H _ I h) λv s1⟨x,H1,I1,r1,q1⟩=>cJ (j pins s1 f H1 _ I1 q1) λu s2⟨y,H2,I2,r2,q2⟩=>cJ (ho pins s2 f H2 x y v u _ I2 r1 r2 q2) λc s3⟨z,H3,I3,r3,k,e,q3⟩=>?_) l;subst e;cases r3;exact wpAny_truthy_bool ⟨H3,I3,q3⟩
def Ba(r r':R2)(ta tb tc:TE):TE:=λe H Q=>ta e H λx g=>tb e g λy j=>r x y j λz f=>∃k,z=.bl k/\(if k=true then tc e f λl m=>r' y l m Q else Q (.bl false) f)
theorem CW{f:CmpOp}{r r':R2}(ho:dH X (compareOp op) r)(j:dH X (compareOp f) r')(l:PE X a ta)(m:PE X b tb)(hc:PE X c tc)(n:lastMarks [op,f] [b,c]=false:=by with_unfolding_all rfl):PT X (.Compare a [op,f] [b,c] pos) (Jf (Ba r r' ta tb tc)):=by intro pins s g H Q I h;refine isTrue_chain (cJ (l pins s g H _ I h) λv s1⟨x,H1,I1,r1,q1⟩=>test_link (cJ (m pins s1 g H1 _ I1 q1) λu s2⟨y,H2,I2,r2,q2⟩=>cJ (ho pins s2 g H2 x y v u _ I2 r1 r2 q2) λd s3⟨z,H3,I3,r3,k,e,q3⟩=>?_)) n;subst e;cases r3;refine wpAny_truthy_bool ?_;cases k with|false=>obtain⟨B,o,p⟩:=q3;cases o;exact ite_ff ⟨H3,I3,p⟩|true=>refine ite_tt (test_last (cJ (hc pins s3 g H3 _ I3 q3) λq s4⟨t,H4,I4,r4,q4⟩=>cJ (j pins s4 g H4 y t u q _ I4 r2 r4 q4) λd' s5⟨C,H5,I5,r5,k2,e2,q5⟩=>?_));subst e2;cases r5;exact wpAny_truthy_bool ⟨H5,I5,q5⟩
theorem sG:(sizeLine:Nat)<2^63:=by rw[sizeLine_eq];decide
theorem wy:dH X (binaryOp .Add) (λx y H Q=>∃i j,x=.str i/\y=.str j/\i.length+j.length<=sizeLine/\Q (.str (i++j)) H):=by intro pins s g H x y v u Q I e f h;obtain⟨i,j,rfl,rfl,hz,q⟩:=h;obtain⟨t,rfl⟩:=e;obtain⟨t',rfl⟩:=f;exact add_str (λt' k=>⟨.str (i++j),H,I.tok _,⟨_,rfl⟩,q⟩) hz
theorem vals1{x:V}(r:Vals [x] us):∃u,us=[u]/\RelV x u:=by cases r with|cons r1 e=>cases e;exact⟨_,rfl,r1⟩
theorem vals2{x y:V}(r:Vals [x,y] us):∃u e,us=[u,e]/\RelV x u/\RelV y e:=by cases r with|cons r1 f=>cases f with|cons g j=>cases j;exact⟨_,_,rfl,r1,g⟩
theorem zg(hc:X.calm=true):fP X (.builtin "max") (λxs H Q=>∃i j,xs=[.int i,.int j]/\Q (.int (if j>i then j else i)) H):=by
 intro pins s f H xs us Q I r h;obtain⟨i,j,rfl,q⟩:=h;obtain⟨u,g,rfl,⟨t,rfl⟩,⟨t',rfl⟩⟩:=vals2 r;refine max_two_ints (I.ok.hd hc) λh' l k=>⟨_,H,I.kept k,?_,q⟩;by_cases e:j>i;.rw[if_pos e,if_pos e];exact⟨_,rfl⟩
 .rw[if_neg e,if_neg e];exact⟨_,rfl⟩
theorem zj(hc:X.calm=true):fP X (.builtin "min") (λxs H Q=>∃i j,xs=[.int i,.int j]/\Q (.int (if j<i then j else i)) H):=by
 intro pins s f H xs us Q I r h;obtain⟨i,j,rfl,q⟩:=h;obtain⟨u,g,rfl,⟨t,rfl⟩,⟨t',rfl⟩⟩:=vals2 r;refine min_two_ints (I.ok.hd hc) λh' l k=>⟨_,H,I.kept k,?_,q⟩;by_cases e:j<i;.rw[if_pos e,if_pos e];exact⟨_,rfl⟩
 .rw[if_neg e,if_neg e];exact⟨_,rfl⟩
end
structure eX(k:Nat)(A:Around):Prop where
 hd:A.handled=none
 dp:A.depth+3*k+5<recursionLimit
 un:A.units+16*k+200<cLine
theorem eX.deeper{k:Nat}{A:Around}(r:eX (k+1) A)(env:Env):eX k (A.deeper env):=⟨r.hd,by have:=r.dp;show A.depth+1+3*k+5<_;omega,by have:=r.un;show A.units+3+16*k+200<_;omega⟩
theorem eX.depth{k:Nat}{A:Around}(r:eX k A):A.depth<recursionLimit:=by have:=r.dp;omega
def Yx:TA:=λ_ H Q=>Q [] H
def Uu(b:TE)(c:TA):TA:=λa H Q=>b a H λx e=>c a e λxs f=>Q (x::xs) f
section
variable{X:Cx}{e:Expr}{es:List Expr}{te:TE}{t:TA}{pos:Pos}
theorem fG:PA X [] Yx:=λ_ _ _ _ H Q I h=>Calls.spliced_nil ⟨[],H,I,.nil,h⟩
theorem cH(b:PE X e te)(hr:PA X es t)(hs:starEach (e::es) X.env=(false,eval e X.env)::starEach es X.env:=by rfl):PA X (e::es) (Uu te t):=by intro pos pins s a H Q I h;rw[hs];show wpAny _ _ (spliced ((false,eval e X.env)::backTo pos (starEach es X.env))) _ _ s;refine Calls.spliced_cons (cJ (b pins s a H _ I h) λu s1⟨x,H1,I1,r1,q1⟩=>?_);exact cJ (hr pos pins s1 a H1 _ I1 q1) λus s2⟨xs,H2,I2,r2,q2⟩=>⟨x::xs,H2,I2,.cons r1 r2,q2⟩
def Zx(t:TA):TE:=λb H Q=>t b H λxs a=>xs.length<=sizeLine/\∀p,a p=none->Q (.ref p) (upd a p (.tup xs))
def YZ(t:TA):TE:=λb H Q=>t b H λxs a=>xs.length<=sizeLine/\∀p,a p=none->Q (.ref p) (upd a p (.lst xs))
theorem Ox{x1}(h:PA X es t):PE X (.Tuple es x1 pos) (Zx t):=by intro pins s a H Q I c;refine wpAny_Tuple_spliced (cJ (h pos pins s a H _ I c) λus s1⟨xs,H1,I1,r,z,q⟩=>⟨by rw[<-r.length];exact z,?_⟩);have f:H1 s1.heap.objs.size=none:=I1.hok.fresh (cD);refine⟨.ref s1.heap.objs.size,upd H1 s1.heap.objs.size (.tup xs),I1.laid (t':=s1.toks) (λb u e=>gG e) (cD) ?_,rfl,q _ f⟩;exact⟨z,us,r,⟨_,get?_push_size _ rfl,rfl,_,rfl⟩⟩
theorem Kc(h:PA X es t):PE X (.List es pos) (YZ t):=by intro pins s a H Q I c;refine wpAny_List_spliced (cJ (h pos pins s a H _ I c) λus s1⟨xs,H1,I1,r,z,q⟩=>⟨by rw[<-r.length];exact z,?_⟩);have f:H1 s1.heap.objs.size=none:=I1.hok.fresh (cD);refine⟨.ref s1.heap.objs.size,upd H1 s1.heap.objs.size (.lst xs),I1.laid (t':=s1.toks) (λb u e=>gG e) (cD) ?_,rfl,q _ f⟩;exact⟨z,us,0,r,get?_push_size _ rfl⟩
end
abbrev Sp:=List V->Hp->VK->XK->Prop
abbrev yo:=List Env->Hp->Shared->XK->Value->Shared->Prop
structure HF(P:Program)(w:World)(K:PySem.W.Frag)(mg:Str->Option Value)(base:Heap)(A:Around)(outer:List Env)(s:Shared)(H:Hp):Prop where
 frames:A.frames=some outer
 mod:Mod K mg base
 bs:∀b o,base.get? b=some o->s.heap.get? b=some o/\H b=none
 DW:base.objs.size<=s.heap.objs.size
 kZ:s.heap.FunFrames base outer
 Ik:∀b∈frs outer,H b=none
 hok:jG P w H s.heap
 bare:AllBare s.gens
def CE(outer:List Env)(P:Program)(w:World)(H:Hp)(s:Shared)(Q:VK)(u:Value)(a:Shared):Prop:=∃v b,a.os=s.os/\AllBare a.gens/\Un (frs outer) [] H b s.heap a.heap/\jG P w b a.heap/\RelV v u/\Q v b
def CR(CX:yo)(outer:List Env)(P:Program)(w:World)(H:Hp)(s:Shared)(Q:VK)(E:XK)(r:Result)(a:Shared):Prop:=match r with|.ok (.ret u)=>CE outer P w H s Q u a|.ok _=>False|.error e=>CX outer H s E e a
structure gP(P:Program)(w:World)(K:PySem.W.Frag)(mg:Str->Option Value)(base:Heap)(CX:yo)(k:Nat)(f:Addr)(fd:FuncData)(ps:List Str)(sp:Sp):Prop where
 len:∀vs H Q E,sp vs H Q E->vs.length=ps.length
 run:∀(A:Around)(outer:List Env)(s:Shared)(H:Hp)(args:Args)(us:List Value)(vs:List V)(Q:VK)(E:XK),eX k A->HF P w K mg base A outer s H->BindsTo s fd args (ps.zip us)->Vals vs us->sp vs H Q E->codeAny (model P w) A (.call (.ref f) args) (CR CX outer P w H s Q E) s
section
variable{X:Cx}{pins:List (Addr×Obj)}{σ:St}{H:Hp}{s s':Shared}
theorem Inv.env0(I:Inv X pins σ H s):HF X.prog X.w X.K X.mg X.base X.A X.stack s H:=⟨I.ok.frames,I.ok.mod,I.bs,le_trans I.ok.DW I.sz,I.stack,I.mY,I.hok,I.bare⟩
theorem Inv.after{Q:VK}{u:Value}(I:Inv X pins σ H s)(h:CE X.stack X.prog X.w H s Q u s'):EP X pins σ Q u s':=by obtain⟨v,c,os,bare,un,hok,r,q⟩:=h;obtain⟨hh,g,d,t,a⟩:=s';obtain rfl:a=s.os:=os;exact⟨v,c,I.call (h':=hh) (g':=g) (d':=d) (t':=t) (ch:=[]) un hok bare (λb z=>absurd z (by simp)),r,q⟩
end
def Sy(sp:Sp)(a:List V)(E:XK)(t:TA):TE:=λb H Q=>t b H λvs c=>sp (vs++a) c Q E
def Binds(K:PySem.W.Frag)(fd:FuncData)(ps:List Str)(ds:List Value):Prop:=∀(s:Shared)(us:List Value),K.In s.heap->(us++ds).length=ps.length->BindsTo s fd ⟨us,[]⟩ (ps.zip (us++ds))
theorem Binds.all{fd:FuncData}{ps:List Str}(h:∀us:List Value,us.length=ps.length->bindArgs fd ⟨us,[]⟩=pure (ps.zip us)):Binds K fd ps []:=λs us _ a=>by rw[append_nil]at a ⊢;exact .of_eq (h us a)
def Passes(CX:yo)(X:Cx)(E:XK):Prop:=∀(pins:List (Addr×Obj))(b:St)(H:Hp)(s:Shared)(e:Value)(a:Shared),Inv X pins b H s->CX X.stack H s E e a->X.xe e a
section
variable{X:Cx}{CX:yo}{k:Nat}{f C:Addr}{fd:FuncData}{ps:List Str}{sp:Sp}{vB:List V}{ds:List Value}{E:XK}{x m:Str}{p pos apos:Pos}{e o:Expr}{es:List Expr}{ta:TE}{t:TA}
theorem Mr{b:St}{Q:VK}{vs:List V}(F:gP X.prog X.w X.K X.mg X.base CX k f fd ps sp)(hr:eX k X.A)(g:Binds X.K fd ps ds)(hd:Vals vB ds)(j:Passes CX X E)(I:Inv X pins b H s)(r:Vals vs us)(h:sp (vs++vB) H Q E):wpAny (model X.prog X.w) X.A (call (.ref f) us) (EP X pins b Q) X.xe s:=by
 have c:Vals (vs++vB) (us++ds):=r.append hd;have l:(us++ds).length=ps.length:=by rw[<-c.length];exact F.len _ _ _ _ h
 refine wpAny_call (codeAny_mono (F.run X.A X.stack s H ⟨us,[]⟩ (us++ds) (vs++vB) Q E hr I.env0 (g s us I.JV l) c h) λr n a=>?_);cases r with|error e=>exact j pins b H s e n I a|ok q=>cases q with|ret u=>exact I.after a|next=>exact False.elim a|brk=>exact False.elim a|cont=>exact False.elim a
theorem Gh(F:gP X.prog X.w X.K X.mg X.base CX k f fd ps sp)(hr:eX k X.A)(b:Gl X x)(c:X.mg x=some (.ref f))(g:keepIn X.K (.ref f)=true)(j:Binds X.K fd ps ds)(hd:Vals vB ds)(l:Passes CX X E)(n:PA X (e::es) t)(a:(x==("__debug__":Str))=false:=by decide)(he:starEach (e::es) X.env=(false,eval e X.env)::starEach es X.env:=by rfl)(hpl:(backTo pos (starEach es X.env)).any (·.1)=false:=by rfl):PE X (.Call (.Name x p) (e::es) [] pos) (Sy sp vB E t):=by intro pins s u H Q I h;refine wpAny_Call_Name_kw (kh I b c ?_ a);refine callWith_K (h₀:=X.base) I.ok.mod.WR g (cJ (n pos pins s u H _ I h) λus s1⟨vs,H1,I1,r,q⟩=>⟨I1.JV,?_⟩) he hpl;exact Mr F hr j hd l I1 r q
end
structure aN(N P:List Str)(sc:Scope):Prop where
 kind:sc.kind=.function
 co:sc.isCoroutine=false
 gen:sc.isGenerator=false
 nd:N.Nodup
 pre:N.take P.length=P
 par:∀x∈P,sc.names.lookup x=some .local\/sc.names.lookup x=some .cell
 Pb:∀y∈sc.names,y.2≠.free
theorem qm{kindOf:Str->Option NameKind}{x:Str}:∀{binds:List (Str×Value)}{m:Str->Option Value},(∀v,(x,v)∉binds)->bindL kindOf binds m x=m x
 |[],_,_=>rfl|(n,v)::r,m,h=>by
   unfold bindL;rw[qm λw a=>h w (mem_cons_of_mem _ a)];split
   . have:x≠n:=by rintro rfl;exact h v mem_cons_self
     simp[this]
   .rfl
theorem qd{kindOf:Str->Option NameKind}{x:Str}:∀{binds:List (Str×Value)}{m:Str->Option Value},(∀v,(x,v)∉binds)->bindC kindOf binds m x=m x
 |[],_,_=>rfl|(n,v)::r,m,h=>by
   unfold bindC;rw[qd λw a=>h w (mem_cons_of_mem _ a)];split;.rfl
   . have:x≠n:=by rintro rfl;exact h v mem_cons_self
     simp[this]
theorem pK{kindOf:Str->Option NameKind}{x:Str}{v:Value}:∀{P:List Str}{vs:List Value}{i:Nat}{m:Str->Option Value},P.Nodup->P[i]?=some x->vs[i]?=some v->kindOf x=some .local->bindL kindOf (P.zip vs) m x=some v|[],_,_,_,_,h,_,_=>by simp at h|_::_,[],_,_,_,_,h,_=>by simp at h|p::P,w::vs,0,m,nd,h1,a,b=>by simp at h1 a;subst h1;subst a;show bindL kindOf ((p,w)::P.zip vs) m p=_;unfold bindL;rw[qm λv c=>(nodup_cons.mp nd).1 (of_mem_zip c).1,if_pos b];simp|p::P,w::vs,i+1,m,nd,h1,a,b=>by show bindL kindOf ((p,w)::P.zip vs) m x=_;unfold bindL;exact pK (i:=i) (nodup_cons.mp nd).2 (by simpa using h1) (by simpa using a) b
theorem ql{kindOf:Str->Option NameKind}{x:Str}{v:Value}:∀{P:List Str}{vs:List Value}{i:Nat}{m:Str->Option Value},P.Nodup->P[i]?=some x->vs[i]?=some v->kindOf x≠some .local->bindC kindOf (P.zip vs) m x=some v|[],_,_,_,_,h,_,_=>by simp at h|_::_,[],_,_,_,_,h,_=>by simp at h|p::P,w::vs,0,m,nd,h1,a,b=>by simp at h1 a;subst h1;subst a;show bindC kindOf ((p,w)::P.zip vs) m p=_;unfold bindC;rw[qd λv c=>(nodup_cons.mp nd).1 (of_mem_zip c).1,if_neg b];simp|p::P,w::vs,i+1,m,nd,h1,a,b=>by show bindC kindOf ((p,w)::P.zip vs) m x=_;unfold bindC;exact ql (i:=i) (nodup_cons.mp nd).2 (by simpa using h1) (by simpa using a) b
noncomputable def start(N:List Str)(vs:List V):St:=vs.map some++replicate (N.length-vs.length) none
noncomputable def lL(CX:yo)(P:Program)(w:World)(K:PySem.W.Frag)(mg:Str->Option Value)(base:Heap)(N:List Str)(qual:Str)(scope:Scope)(f:Addr)(b:Value)(A:Around)(outer:List Env)(s:Shared)(H:Hp)(E:XK):Cx where prog:=P;w:=w;K:=K;mg:=mg;base:=base;A:=A.deeper (envOfC qual scope s.heap.objs.size f b);N:=N;s₀:=s;H₀:=H;env:=envOfC qual scope s.heap.objs.size f b;outer:=outer;stack:=envOfC qual scope s.heap.objs.size f b::outer;ex:=[];calm:=true;fn:=λ_=>true;pn:=[];xe:=λe c=>wpAny (model P w) (A.deeper (envOfC qual scope s.heap.objs.size f b)) (leaving (envOfC qual scope s.heap.objs.size f b) e) (λ_ a=>CX outer H s E e a) (λg a=>CX outer H s E g a) c
theorem uE{a:Scope}{n:Nat}{x:Str}(h:a.names.lookup x=some .cell):∃c,(cellsFrom n a.names []).lookup x=some c:=by have q:=PySem.W.cellsFrom_some a.names n [] (.inl h);exact Option.isSome_iff_exists.mp q
theorem zE{CX:yo}{P:Program}{mg:Str->Option Value}{base:Heap}{N ps:List Str}{qual:Str}{scope:Scope}{f:Addr}{o:Value}{A:Around}{outer:List Env}{s1:Shared}{E:XK}{vs:List V}(S:aN N ps scope)(hd:A.handled=none)(j:HF P w K mg base A outer s H)(L:vs.length=ps.length)(r:Vals vs us)(x:InCallC s s.heap.objs.size (bindL (envOfC qual scope s.heap.objs.size f o).kindOf (ps.zip us) λ_=>none) (cellsFrom (s.heap.objs.size+1) scope.names []) (bindC (envOfC qual scope s.heap.objs.size f o).kindOf (ps.zip us) λ_=>none) s1):Inv (lL CX P w K mg base N qual scope f o A outer s H E) [] (start N vs) H s1:=by
 have hpl:ps.length<=N.length:=by have:=congrArg List.length S.pre;rw[length_take]at this;omega
 obtain⟨h1,O,rfl,C⟩:=x.done;have B:∀b:Addr,b∉(lL CX P w K mg base N qual scope f o A outer s H E).ex:=λb z=>absurd (show b∈([]:List Addr)from z) (by simp);refine⟨⟨j.mod,S.kind,rfl,rfl,cD,λy z c h1 g=>?_,λy hy=>?_,λy c _ h=>?_,λ_=>hd,Around.frames_deeper j.frames,.inr ⟨rfl,rfl⟩,λb z=>absurd z (B b),j.bs,j.DW,λb _ _=>B b,λb z=>absurd z (B b),j.kZ,j.Ik⟩,rfl,j.bare,Un.kept C,⟨_,x.toInCall.ns,λi y v h1 g Q=>?_⟩,λy c h=>⟨_,x.cell y c h⟩,j.hok.fresh (cD),λy c h=>?_,λp l=>absurd (show p∈([]:List (Addr×Obj))from l) (by simp),j.hok.kept C,?_⟩;.exact name_of_addr x.apart (PySem.mem_of_lookup h1) (PySem.mem_of_lookup g)
 . have hy:scope.names.lookup y=some .cell\/scope.names.lookup y=some .free:=hy;rcases hy with hy|hy;.exact uE hy
   .exact absurd rfl (S.Pb _ (PySem.mem_of_lookup hy))
 .exact le_of_lt (x.above y c (PySem.mem_of_lookup h))
 . have t:i<vs.length:=by
    unfold start at g;by_cases t:i<vs.length;.exact t
    .rw[getElem?_append_right (by simpa using t)]at g;rw[getElem?_replicate]at g;split at g<;>cases g
   have I:vs[i]?=some v:=by unfold start at g;rw[getElem?_append_left (by simpa using t),getElem?_map]at g;cases e:vs[i]?with|none=>rw[e]at g;cases g|some a=>rw[e]at g;cases g;rfl
   obtain⟨u,G,J⟩:=r.get I;have l:ps[i]?=some y:=by rw[<-S.pre,List.getElem?_take_of_lt (by omega)];exact h1
   have m:ps.Nodup:=by rw[<-S.pre];exact S.nd.sublist (List.take_sublist _ _)
   refine⟨u,J,?_⟩;rcases S.par y (mem_of_getElem? l)with k|k;.exact .inl ⟨k,pK m l G k⟩
   .obtain⟨c,e⟩:=uE (n:=s.heap.objs.size+1) k;refine .inr ⟨.inl k,c,e,?_⟩;have q:=x.cell y c e;rw[ql m l G (by show scope.names.lookup y≠_;rw[k];decide)]at q;exact q
 .exact j.hok.fresh (le_of_lt (x.above y c (PySem.mem_of_lookup h)))
 .unfold start;show _=N.length;rw[length_append,length_map,length_replicate];omega
theorem JP{CX:yo}{P:Program}{w:World}{K:PySem.W.Frag}{mg:Str->Option Value}{base:Heap}{k:Nat}{f:Addr}{name qual:Str}{a:Arguments}{body:List Stmt}{scope:Scope}{O kV m pm cdv ct Z:Value}{U od:Option Addr}{B:Array (Option Value)}{N ps:List Str}{sp:Sp}(lk:K.lookup f=some ⟨Z,od,.func (PySem.W.fnOf name qual a body scope O kV m pm U cdv ct),B⟩)(C:PySem.W.codeIn K cdv qual=true)(S:aN N ps scope)(len:∀vs H Q E,sp vs H Q E->vs.length=ps.length)(j:∀(A:Around)(outer:List Env)(s:Shared)(H:Hp)(vs:List V)(Q:VK)(E:XK),eX k (A.deeper (envOfC qual scope s.heap.objs.size f cdv))->sp vs H Q E->∃t,mL (lL CX P w K mg base N qual scope f cdv A outer s H E) body t/\t {nx:=λ_ g=>Q .non g,rt:=Q} (start N vs) H):gP P w K mg base CX (k+1) f (PySem.W.fnOf name qual a body scope O kV m pm U cdv ct) ps sp:=by
 refine⟨len,λA outer s H args us vs Q E hr p hb r z=>?_⟩;have hl:=len _ _ _ _ z;have Y:K.In s.heap:=p.mod.WR.keeps λb o e=>(p.bs b o e).1;have lim:s.heap.NoLimit:=p.mod.nolimit.keeps λb o e=>(p.bs b o e).1;have l:∀y∈ps.zip us,scope.names.lookup y.1=some .local\/(scope.names.lookup y.1=some .cell/\((cellsFrom (s.heap.objs.size+1) scope.names []).lookup y.1).isSome=true):=λ⟨n,v⟩hy=>by
  rcases S.par n (of_mem_zip hy).1 with q|q;.exact .inl q
  .exact .inr ⟨q,PySem.W.cellsFrom_some _ _ _ (.inl q)⟩
 refine codeAny_call_function hr.depth (Y _ _ lk) rfl S.co S.gen rfl (PySem.W.codeRec_of Y C) (hb _ _ _ _ ?_);refine wpAny_newFunctionEnv_cells S.kind l λenv he s1 x=>?_;subst he;refine⟨lim.keeps x.toInCall.keep,codeAny_func ?_⟩;obtain⟨t,ht,hq⟩:=j A outer s H vs Q E (hr.deeper _) z;have I:Inv (lL CX P w K mg base N qual scope f cdv A outer s H E) [] (start N vs) H s1:=zE S hr.hd p hl r x;refine wpAny_mono (ht [] s1 (start N vs) H _ I hq) (λfl G hs=>?_) λe G hs=>hs;have fin:∀{c:St}{g:Hp}{v:V}{u:Value},Inv (lL CX P w K mg base N qual scope f cdv A outer s H E) [] c g G->RelV v u->Q v g->CE outer P w H s Q u G:=λ{c g v u}J L q=>⟨v,g,J.os,J.bare,J.base,J.hok,L,q⟩;cases fl with|ret u=>obtain⟨v,c,g,J,L,q⟩:=hs;exact fin J L q|next=>obtain⟨c,g,J,q⟩:=hs;exact fin (v:=V.non) (u:=Value.none) J rfl q|brk=>obtain⟨_,_,_,q⟩:=hs;exact False.elim q|cont=>obtain⟨_,_,_,q⟩:=hs;exact False.elim q
section
variable{X:Cx}{x:Str}{p pos:Pos}{e:Expr}{es:List Expr}{t:TA}{id T:String}{r:List V->Hp->VK->Prop}
def Uc(r:List V->Hp->VK->Prop)(t:TA):TE:=λa H Q=>t a H λvs b=>r vs b Q
theorem fW(hc:fP X (.builtin id) r)(c:Gl X x)(f:X.mg x=none)(g:bootBuiltins x=some (.builtin id))(j:PA X (e::es) t)(k:x≠"__name__":=by decide)(a:(x==("__debug__":Str))=false:=by decide)(he:starEach (e::es) X.env=(false,eval e X.env)::starEach es X.env:=by rfl)(hpl:(backTo pos (starEach es X.env)).any (·.1)=false:=by rfl):PE X (.Call (.Name x p) (e::es) [] pos) (Uc r t):=by intro pins s b H Q I h;refine wpAny_Call_Name_kw (iM I c f g ?_ k a);exact PyProof.Rows.callWith_builtin1 (cJ (j pos pins s b H _ I h) λus s1⟨vs,H1,I1,r1,q1⟩=>hc pins s1 b H1 vs us Q I1 r1 q1) he hpl
theorem Ag(hc:fP X (.type T) r)(c:Gl X x)(f:X.mg x=none)(g:bootBuiltins x=some (.type T))(j:PA X (e::es) t)(k:x≠"__name__":=by decide)(a:(x==("__debug__":Str))=false:=by decide)(he:starEach (e::es) X.env=(false,eval e X.env)::starEach es X.env:=by rfl)(hpl:(backTo pos (starEach es X.env)).any (·.1)=false:=by rfl):PE X (.Call (.Name x p) (e::es) [] pos) (Uc r t):=by intro pins s b H Q I h;refine wpAny_Call_Name_kw (iM I c f g ?_ k a);exact PyProof.Rows.callWith_type1 (cJ (j pos pins s b H _ I h) λus s1⟨vs,H1,I1,r1,q1⟩=>hc pins s1 b H1 vs us Q I1 r1 q1) he hpl
end
end L2
namespace HT
open PySem PyProof.Rows
section
variable{prog:Program}{w:World}{A:Around}{E:Value->Shared->Prop}{s:Shared}
theorem Gu{t b:Addr}{vs ws:List Value}{Q:Value->Shared->Prop}(p:IsTup s.heap t vs.toArray)(q:IsTup s.heap b ws.toArray)(k:vs≠[])(h1:ws=[]->Q (.ref t) s)(r:ws≠[]->Q (.ref s.heap.objs.size) {s with heap:=s.heap.push {cls:=.type "tuple",data:=.seq (vs++ws).toArray}})(j:vs.length+ws.length<=sizeLine):wpAny (model prog w) A (binaryOp .Add (.ref t) (.ref b)) Q E s:=by
 obtain⟨⟨cls,dd,data,l⟩,ho,hc,n,hd⟩:=id p;obtain⟨⟨m,c,data2,f⟩,a,g,o,h⟩:=id q;simp only at hc hd g h;subst hc hd g h;have e:vs.toArray++ws.toArray=(vs++ws).toArray:=by simp
 by_cases i:ws=[];.exact concat_meets ⟨_,ho,rfl⟩ ⟨_,a,rfl⟩ noFill_tuple_add seq_tuple_add slot_tuple_add entry_tuple_add (args_tuple_add_2 _ _) (tuple_addW1 t b vs.toArray ws.toArray n o dd c l f (by simpa using k) (by simp[i])) ⟨ho,a,h1 i⟩
 .refine concat_meets ⟨_,ho,rfl⟩ ⟨_,a,rfl⟩ noFill_tuple_add seq_tuple_add slot_tuple_add entry_tuple_add (args_tuple_add_2 _ _) (tuple_addW2 t b vs.toArray ws.toArray n o dd c l f (by simpa using k) (by simpa using i) (by rw[size_toArray,size_toArray];exact j)) ⟨ho,a,?_⟩;rw[e];exact r i
noncomputable def cF(n d:Nat):Option Int->Nat|none=>d|some v=>if v<0 then(v+(n:Int)).toNat else min v.toNat n
theorem Kf(n d:Nat)(hd:d<=n)(o:Option Int):cF n d o<=n:=by cases o with|none=>exact hd|some v=>
   show(if v<0 then(v+(n:Int)).toNat else min v.toNat n)<=n;by_cases a:v<0;.rw[if_pos a];omega
   .rw[if_neg a];exact Nat.min_le_right _ _
theorem yJ(v:Int)(n d:Nat):(if v<0 then max (v+(n:Int)) 0 else min v (n:Int))=((cF n d (some v):Nat):Int):=by
 show(if v<0 then max (v+(n:Int)) 0 else min v (n:Int))=(((if v<0 then(v+(n:Int)).toNat else min v.toNat n):Nat):Int);by_cases a:v<0;.simp only[if_pos a];omega
 .simp only[if_neg a];omega
theorem xg(lo a:Option Int)(n:Nat):sliceAdjust lo a 1 (n:Int)=(((cF n 0 lo:Nat):Int),((cF n n a:Nat):Int)):=by
 have h1:¬((1:Int)<0):=by omega
 unfold sliceAdjust;simp only[h1,if_false];refine Prod.ext ?_ ?_;.cases lo with|none=>rfl|some v=>exact yJ v n 0
 .cases a with|none=>rfl|some v=>exact yJ v n n
theorem wU(i j:Nat):slicePlaces (i:Int) (j:Int) 1=j-i:=by
 unfold slicePlaces;have h1:(1:Int)>0:=by omega
 simp only[h1,if_true,Int.ediv_one];split<;>omega
theorem oF{v:Value}{o:Option Int}{Q:Option Int->Shared->Prop}(p:IsPart v o)(h:Q o s):wpAny (model prog w) A (Builtin.Slice.slicePartIndex v) Q E s:=by cases p with|none=>exact slicePart_none h|int i t=>exact slicePart_int h
theorem fZ{g:Addr}{e f:Value}{lo a:Option Int}{n:Nat}{Q:Int×Int×Nat->Shared->Prop}(hs:s.heap.IsSliceOf g e f .none)(i:IsPart e lo)(j:IsPart f a)(h:Q (((cF n 0 lo:Nat):Int),1,cF n n a-cF n 0 lo) s):wpAny (model prog w) A (sliceApplied (.ref g) (pure (n:Int))) Q E s:=by obtain⟨os,b,k,c⟩:=id hs;unfold sliceApplied Builtin.Slice.sliceFields;refine wpAny_bind (wpAny_bind (wpAny_field b c (x:=e) rfl (wpAny_bind (wpAny_field b c (x:=f) rfl (wpAny_bind (wpAny_field b c (x:=.none) rfl (wpAny_pure ?_)))))));refine wpAny_bind (slicePart_none ?_);show wpAny _ _ (if((1:Int)==0)=true then _ else _) _ _ s;rw[if_neg (by decide)];refine wpAny_bind (oF i (wpAny_bind (oF j (wpAny_bind (wpAny_pure ?_)))));show wpAny _ _ (match sliceAdjust lo a 1 (n:Int)with|(lo,a)=>pure (lo,(1:Int),slicePlaces lo a 1)) _ _ s;rw[xg lo a n];show wpAny _ _ (pure (((cF n 0 lo:Nat):Int),(1:Int),slicePlaces ((cF n 0 lo:Nat):Int) ((cF n n a:Nat):Int) 1)) _ _ s;rw[wU];exact wpAny_pure h
theorem Bu(xs:Array Value)(i k:Nat):((List.range k).filterMap λ(m:Nat)=>xs[((i:Int)+(m:Int)*1).toNat]?).toArray=((xs.toList.drop i).take k).toArray:=by
 have e:(λ(m:Nat)=>xs[((i:Int)+(m:Int)*1).toNat]?)=λm=>xs[i+m]?:=by
  funext m;have:((i:Int)+(m:Int)*1).toNat=i+m:=by omega
  rw[this]
 rw[e];have:=pick_run xs i k;rw[List.filterMap_map]at this;have a:((λx=>xs[x]?)∘ λx=>i+x)=λm=>xs[i+m]?:=rfl;rw[a]at this;rw[this]
theorem kJ{t e:Addr}{items:Array Value}{k l:Value}{lo a:Option Int}{Q:Value->Shared->Prop}(b:IsTup s.heap t items)(hs:s.heap.IsSliceOf e k l .none)(n:IsPart k lo)(o:IsPart l a)(p:¬(cF items.size 0 lo=0/\cF items.size items.size a=items.size))(h:Q (.ref s.heap.objs.size) {s with heap:=s.heap.push {cls:=.type "tuple",data:=.seq ((items.toList.drop (cF items.size 0 lo)).take (cF items.size items.size a-cF items.size 0 lo)).toArray}})(r:items.size<=sizeLine):wpAny (model prog w) A (getItem (.ref t) (.ref e)) Q E s:=by
 have c:sizeOk (.seq ((items.toList.drop (cF items.size 0 lo)).take (cF items.size items.size a-cF items.size 0 lo)).toArray):=by show((items.toList.drop (cF items.size 0 lo)).take (cF items.size items.size a-cF items.size 0 lo)).toArray.size<=sizeLine;rw[size_toArray,length_take,length_drop,length_toList];omega
 have v:cF items.size items.size a<=items.size:=Kf _ _ (cD) a;obtain⟨os,f,g,u⟩:=id hs;have i:s.TypeIs (.ref e) "slice":=⟨os,f,g⟩;unfold getItem;try with_reducible refine wpAny_holding ?_
 first|refine wpAny_bind (wpAny_pure ?_)|skip
 refine wpAny_bind (wpAny_sequenceKey b.typeIs (by decide) ?_);refine wpAny_bind (wpAny_callSpecial?_slot (name:=Str.ofString "__getitem__") b.typeIs PyProof.Rows.slot_tuple_getitem (wpAny_call_entry PyProof.Rows.slot_tuple_getitem b.typeIs entry_tuple_getitem ?_ (args_tuple_getitem _ _)));show wpAny _ _ (tupleItemsOf (.ref t)>>=_) _ _ s;refine wpAny_bind (tupleItemsOf_ b ?_);refine wpAny_bind (wpAny_typeOf i ?_);rw[if_pos (by decide)];refine wpAny_bind (fZ hs n o ?_);have j:¬((((cF items.size 0 lo:Nat):Int)==0&&(1:Int)==1&&(cF items.size items.size a-cF items.size 0 lo)==items.size)=true):=by intro q;rw[and_eq_true,and_eq_true]at q;have x:((cF items.size 0 lo:Nat):Int)=0:=eq_of_beq q.1.1;have y:cF items.size items.size a-cF items.size 0 lo=items.size:=eq_of_beq q.2;exact p ⟨by omega,by omega⟩
 show wpAny _ _ (if(((cF items.size 0 lo:Nat):Int)==0&&(1:Int)==1&&(cF items.size items.size a-cF items.size 0 lo)==items.size)=true then _ else _) _ _ s;rw[if_neg j,Bu];first|exact wpAny_bind (m:=tupleExact _) (wpAny_newObj_type (wpAny_pure ⟨_,rfl,wpAny_pure h⟩) c)|exact wpAny_bind (m:=tupleExact _) (wpAny_newObj_type (wpAny_bind (wpAny_pure (wpAny_pure ⟨_,rfl,wpAny_pure h⟩))) c)|exact wpAny_bind (wpAny_bind (m:=tupleExact _) (wpAny_newObj_type (wpAny_pure (wpAny_pure ⟨_,rfl,wpAny_pure h⟩)) c))|exact wpAny_bind (wpAny_bind (m:=tupleExact _) (wpAny_newObj_type (wpAny_pure ⟨_,rfl,wpAny_pure h⟩) c))
end
end HT
namespace L2
open PySem PySem.Spec PyProof.Rows
variable{n:Nat}{s:Shared}{x:V}
abbrev TO:=St->Hp->(Option Int->Hp->Prop)->Prop
def PO(X:Cx)(e:Option Expr)(t:TO):Prop:=∀(a:List (Addr × Obj))(s:Shared)(b:St)(H:Hp)(Q:Option Int->Hp->Prop),Inv X a b H s->t b H Q->wpAny (model X.prog X.w) X.A (evalPart e X.env) (λu f=>∃o c,Inv X a b c f/\IsPart u o/\Q o c) X.xe s
def Fy:TO:=λ_ H Q=>Q none H
def R9(t:TE):TO:=λa H Q=>t a H λx b=>∃i,x=.int i/\Q (some i) b
section
variable{X:Cx}{e:Expr}{te:TE}{lo hi:Option Expr}{tl th:TO}{pos p2:Pos}
theorem Fe:PO X none Fy:=by intro a s b H Q I h;rw[evalPart_none];exact wpAny_pure ⟨none,H,I,.none,h⟩
theorem Gw(h:PE X e te):PO X (some e) (R9 te):=by intro a s b H Q I c;rw[evalPart_some];refine cJ (h a s b H _ I c) λu s1⟨x,H1,I1,r1,q1⟩=>?_;obtain⟨i,rfl,q⟩:=q1;obtain⟨t,rfl⟩:=r1;exact⟨some i,H1,I1,.int i t,q⟩
def Wx(X:Cx)(r:V->Option Int->Option Int->Hp->VK->Prop):Prop:=∀(a:List (Addr × Obj))(s:Shared)(b:St)(H:Hp)(x:V)(v c f:Value)(lo hi:Option Int)(g:Addr)(Q:VK),Inv X a b H s->RelV x v->s.heap.IsSliceOf g c f .none->IsPart c lo->IsPart f hi->r x lo hi H Q->∃T id,typeLookup (.type T) "__getitem__"=pure (some (.builtin id))/\s.TypeIs v T/\wpAny (model X.prog X.w) X.A (getItem v (.ref g)) (EP X a b Q) X.xe s
def tSl(r:V->Option Int->Option Int->Hp->VK->Prop)(te:TE)(tl th:TO):TE:=λa H Q=>te a H λx b=>tl a b λl c=>th a c λu f=>r x l u f Q
theorem vz{r:V->Option Int->Option Int->Hp->VK->Prop}(hr:Wx X r)(he:PE X e te)(i:PO X lo tl)(j:PO X hi th):PE X (.Subscript e (.Slice lo hi none p2) pos) (tSl r te tl th):=by intro a s c H Q I h;refine Subscript_ (cJ (he a s c H _ I h) λv s1⟨x,H1,I1,r1,q1⟩=>?_);refine wpAny_Slice (cJ (i a s1 c H1 _ I1 q1) λf s2⟨l,H2,I2,pl,q2⟩=>cJ (j a s2 c H2 _ I2 q2) λg s3⟨u,H3,I3,pu,q3⟩=>?_);rw[evalPart_none];refine wpAny_pure ?_;have k:Inv X a c H3 {s3 with heap:=s3.heap.push {cls:=.type "slice",data:=.fields #[f,g,.none]}}:=I3.kept (t':=s3.toks) λb t q=>gG q;obtain⟨T,id,m,o,p⟩:=hr a {s3 with heap:=s3.heap.push {cls:=.type "slice",data:=.fields #[f,g,.none]}} c H3 x v f g l u s3.heap.objs.size Q k r1 (Heap.IsSliceOf.new ..) pl pu q3;show wpAny (model X.prog X.w) X.A (subscriptTail e (.Slice lo hi none p2) v (.ref s3.heap.objs.size)) (EP X a c Q) X.xe {s3 with heap:=s3.heap.push {cls:=.type "slice",data:=.fields #[f,g,.none]}};exact tail_any (ops:=[.ref s3.heap.objs.size,v]) o m p (by with_unfolding_all rfl)
noncomputable def uF(xs:List V)(lo hi:Option Int):List V:=(xs.drop (HT.cF xs.length 0 lo)).take (HT.cF xs.length xs.length hi-HT.cF xs.length 0 lo)
theorem mj(xs:List V)(lo hi:Option Int):(uF xs lo hi).length<=xs.length:=by unfold uF;rw[length_take,length_drop];omega
def Zw(K:PySem.W.Frag):V->Option Int->Option Int->Hp->VK->Prop:=λx lo hi H Q=>∃a xs,x=.ref a/\gA K H a xs/\¬(HT.cF xs.length 0 lo=0/\HT.cF xs.length xs.length hi=xs.length)/\∀p,H p=none->Q (.ref p) (upd H p (.tup (uF xs lo hi)))
theorem Ny:Wx X (Zw X.K):=by
 intro g s t H x v u w lo hi y Q I j hs k l h;obtain⟨a,xs,rfl,m,p,q⟩:=h;cases j;obtain⟨f,r,i,hz⟩:=I.tuple m;have c:f.toArray.size=xs.length:=by rw[size_toArray];exact r.length.symm
 refine⟨"tuple",_,PyProof.Rows.slot_tuple_getitem.lookup,i.typeIs,?_⟩;refine HT.kJ i hs k l (by rw[c];exact p) ?_ (by rw[c];exact hz);rw[c];refine⟨.ref s.heap.objs.size,_,I.laid (t':=s.toks) (o:=.tup (uF xs lo hi)) (λb z q=>gG q) (cD) ?_,rfl,q _ (I.hok.fresh (cD))⟩;exact⟨le_trans (mj xs lo hi) hz,_,(r.drop (HT.cF xs.length 0 lo)).take (HT.cF xs.length xs.length hi-HT.cF xs.length 0 lo),IsTup.new _ _⟩
def U0(K:PySem.W.Frag):R2:=λx y H Q=>∃a b xs ys,x=.ref a/\y=.ref b/\gA K H a xs/\gA K H b ys/\xs≠[]/\xs.length+ys.length<=sizeLine/\(ys=[]->Q (.ref a) H)/\(ys≠[]->∀p,H p=none->Q (.ref p) (upd H p (.tup (xs++ys))))
theorem Vals.mR{xs:List V}{a:List Value}(r:Vals xs a):a=[]↔xs=[]:=by cases r with|nil=>simp|cons _ _=>simp
theorem Hl:dH X (binaryOp .Add) (U0 X.K):=by intro f s C H x y v u Q I i j h;obtain⟨a,b,xs,ys,rfl,rfl,k,l,m,hz,p,r⟩:=h;cases i;cases j;obtain⟨t,r1,B,_⟩:=I.tuple k;obtain⟨g,c,p2,_⟩:=I.tuple l;refine HT.Gu B p2 (λz=>m (r1.mR.mp z)) (λz=>⟨.ref a,H,I,rfl,p (c.mR.mp z)⟩) (λz=>?_) (by rw[<-r1.length,<-c.length];exact hz);refine⟨.ref s.heap.objs.size,_,I.laid (t':=s.toks) (o:=.tup (xs++ys)) (λb G q=>gG q) (cD) ?_,rfl,r (λw=>z (c.mR.mpr w)) _ (I.hok.fresh (cD))⟩;exact⟨by rw[length_append];exact hz,_,r1.append c,IsTup.new _ _⟩
end
noncomputable def jr(n:Nat)(i:Int):Option Nat:=if 0<=i then(if i<n then some i.toNat else none)else if-(n:Int)<=i then some (i+n).toNat else none
noncomputable def Ra{a:Type}(xs:List a)(i:Int):Option a:=(jr xs.length i).bind λj=>xs[j]?
theorem xV{i:Int}{j:Nat}(h:jr n i=some j):seqIndex? i n=some j/\j<n/\-(n:Int)<=i/\i<n:=by
 unfold jr at h;by_cases h0:0<=i
 . rw[if_pos h0]at h;by_cases h1:i<n;.rw[if_pos h1]at h;have e:i.toNat=j:=Option.some.inj h;exact⟨by rw[seqIndex_of h0 h1,e],by omega,by omega,h1⟩
   .rw[if_neg h1]at h;cases h
 . rw[if_neg h0]at h;by_cases h1:-(n:Int)<=i;.rw[if_pos h1]at h;have e:(i+n).toNat=j:=Option.some.inj h;exact⟨by rw[seqIndex_neg (by omega) h1,e],by omega,h1,by omega⟩
   .rw[if_neg h1]at h;cases h
theorem yh{a:Type}{xs:List a}{i:Int}{v:a}(h:Ra xs i=some v):∃j,seqIndex? i xs.length=some j/\xs[j]?=some v/\j<xs.length/\-(xs.length:Int)<=i/\i<xs.length:=by unfold Ra at h;cases e:jr xs.length i with|none=>rw[e]at h;cases h|some j=>rw[e]at h;obtain⟨h1,b,c,f⟩:=xV e;exact⟨j,h1,h,b,c,f⟩
def xT(b:Expr):Prop:=∀o i,subscripted b false o i=operate [o,i] (getItem o i)
def V3(X:Cx)(r:R2):Prop:=∀(b slice:Expr)(a:List (Addr × Obj))(s:Shared)(c:St)(H:Hp)(x y:V)(v u:Value)(Q:VK),Inv X a c H s->RelV x v->RelV y u->r x y H Q->subscripted slice false v u=operate [v,u] (getItem v u)->wpAny (model X.prog X.w) X.A (subscriptTail b slice v u) (EP X a c Q) X.xe s
def MtR(X:Cx)(id:String)(r:V->List V->Hp->VK->Prop):Prop:=∀(a:List (Addr × Obj))(s:Shared)(b:St)(H:Hp)(x:V)(xs:List V)(v:Value)(c:List Value)(Q:VK),Inv X a b H s->RelV x v->Vals xs c->r x xs H Q->wpAny (model X.prog X.w) X.A (call (.builtin id) (v::c)) (EP X a b Q) X.xe s
section
variable{X:Cx}{a b:Expr}{ta tb:TE}{pos:Pos}
theorem SJ{r:R2}(hr:V3 X r)(e:PE X a ta)(f:PE X b tb)(hs:xT b):PE X (.Subscript a b pos) (Qx r ta tb):=by intro c s g H Q I h;exact Subscript_ (Km e f I h λv u s2 x y i j k l q=>hr a b c s2 g i x y v u Q j k l q (hs _ _))
def Xw(K:PySem.W.Frag):R2:=λx y H Q=>∃p xs i v,x=.ref p/\y=.int i/\dJ K H p xs/\Ra xs i=some v/\Q v H
def ZP(K:PySem.W.Frag):R2:=λx y H Q=>∃p xs i v,x=.ref p/\y=.int i/\gA K H p xs/\Ra xs i=some v/\Q v H
theorem HW:V3 X (Xw X.K):=by
 intro e slice c s l H x y v u Q I o B h hs;obtain⟨p,xs,i,z,rfl,rfl,C,he,q⟩:=h;cases o;obtain⟨t,rfl⟩:=B;obtain⟨f,r,g,hz⟩:=I.list C;obtain⟨j,h1,G,U,J,L⟩:=yh he;obtain⟨w,m,M⟩:=r.get G;have N:=r.length;have W:=sG;have fin:EP X c l Q w s:=⟨z,H,I,M,q⟩;by_cases h0:0<=i
 . have k:i.toNat=j:=by rw[seqIndex_of h0 L]at h1;exact Option.some.inj h1
   exact item_listR g.isList h0 (by omega) (by rw[k];simpa using m) fin hs
 . have k:(i+(f.toArray.size:Int)).toNat=j:=by rw[seqIndex_neg (by omega) J]at h1;rw[size_toArray,<-N];exact Option.some.inj h1
   exact subscriptTail_builtinR (x:=w) g.isList.typeIs slot_list_getitem.lookup (wpAny_getItem_list_neg (Q:=λr O=>r=w/\EP X c l Q r O) g.isList (by omega) (by rw[size_toArray]<;>omega) (by omega) (by rw[k];simpa using m) ⟨rfl,fin⟩) hs
theorem Nm:V3 X (ZP X.K):=by intro e slice c s f H x y v u Q I k l h hs;obtain⟨p,xs,i,z,rfl,rfl,m,he,q⟩:=h;cases k;obtain⟨t,rfl⟩:=l;obtain⟨o,r,g,hz⟩:=I.tuple m;obtain⟨j,h1,B,M,N,O⟩:=yh he;obtain⟨w,C,G⟩:=r.get B;have J:=r.length;have U:=sG;have fin:EP X c f Q w s:=⟨z,H,I,G,q⟩;exact subscriptTail_builtinR (x:=w) g.typeIs slot_tuple_getitem.lookup (getItem_tuple (j:=j) (Q:=λr L=>r=w/\EP X c f Q r L) g (by omega) (by omega) (by rw[size_toArray,<-J];exact h1) (by simpa using C) ⟨rfl,fin⟩) hs
theorem wI(c:List Value)(n j:Nat)(u:Value):Obj.mapSeq (·.setIfInBounds j u) {cls:=.type "list",data:=.seq c.toArray n}={cls:=.type "list",data:=.seq (c.set j u).toArray n}:=by simp[Obj.mapSeq]
theorem Inv.lst{f:List (Addr×Obj)}{g:St}{H:Hp}{s:Shared}{p:Addr}{xs:List V}(I:Inv X f g H s)(h:H p=some (.lst xs)):∃(c:List Value)(n:Nat),Vals xs c/\s.heap.get? p=some {cls:=.type "list",data:=.seq c.toArray n}/\xs.length<=sizeLine:=by obtain⟨z,c,n,r,e⟩:=I.hok p _ h;exact⟨c,n,r,e,z⟩
theorem Inv.Ou{c:List (Addr×Obj)}{j:St}{H:Hp}{s:Shared}{p:Addr}{xs ys:List V}{g its':List Value}{n i:Nat}{f:Obj->Obj}(I:Inv X c j H s)(h:H p=some (.lst xs))(ho:s.heap.get? p=some {cls:=.type "list",data:=.seq g.toArray n})(k:f {cls:=.type "list",data:=.seq g.toArray n}={cls:=.type "list",data:=.seq its'.toArray i})(r:Vals ys its')(hz:ys.length<=sizeLine)(t:Nat):Inv X c j (upd H p (.lst ys)) {s with heap:=s.heap.update p f,toks:=t}:=by
 have e:(s.heap.update p f).get? p=some {cls:=.type "list",data:=.seq its'.toArray i}:=by rw[get?_update_self f ho (by rw[k]<;>rfl),k]
 refine I.write (x:=p) (e:=p) (by rw[h];trivial) (.inl rfl) (λb u l q=>(get?_update_other _ _ (Ne.symm l)).trans q) ⟨_,e⟩ ?_;exact⟨hz,its',i,r,e⟩
def Ua:V->V->V->Hp->(Hp->Prop)->Prop:=λo i v H Q=>∃p xs k j,o=.ref p/\i=.int k/\H p=some (.lst xs)/\jr xs.length k=some j/\Q (upd H p (.lst (xs.set j v)))
theorem set_list:R1 X Ua:=by
 intro c s z H o i v L M u Q I B C G h;obtain⟨p,xs,k,j,rfl,rfl,l,J,q⟩:=h;cases B;obtain⟨t,rfl⟩:=C;obtain⟨e,n,r,ho,hz⟩:=I.lst l;obtain⟨h1,N,m,w⟩:=xV J;have f:=r.length;have O:=sG;have y:Inv X c z (upd H p (.lst (xs.set j v))) {s with heap:=s.heap.update p (Obj.mapSeq (·.setIfInBounds j u))}:=I.Ou l ho (wI e n j u) (r.set G j) (by rw[length_set];exact hz) s.toks;by_cases h0:0<=k
 . have g:k.toNat=j:=by rw[seqIndex_of h0 w]at h1;exact Option.some.inj h1
   exact PySem.W.ki_setAt ho h0 (by omega) (by rw[size_toArray,<-f];exact w) (by rw[g];exact⟨_,y,q⟩)
 . have g:(k+(e.toArray.size:Int)).toNat=j:=by rw[seqIndex_neg (by omega) m]at h1;rw[size_toArray,<-f];exact Option.some.inj h1
   exact PySem.W.ki_setBack ho (by omega) (by rw[size_toArray,<-f];exact m) (by omega) (by rw[g];exact⟨_,y,q⟩)
theorem qZ(lo c:Option Int)(n:Nat):(sliceBounds lo c none n).1=((HT.cF n 0 lo:Nat):Int)/\(sliceBounds lo c none n).2.1=((HT.cF n n c:Nat):Int)/\(sliceBounds lo c none n).2.2=1:=by
 refine⟨?_,?_,rfl⟩;.cases lo with|none=>simp[sliceBounds,HT.cF]|some i=>
     simp only[sliceBounds,HT.cF,getD_none,show(1:Int)>0 by decide,if_true];by_cases h:i<0;.simp only[h,if_true]<;>omega
     .simp only[h,if_false]<;>omega
 .cases c with|none=>simp[sliceBounds,HT.cF]|some i=>
     simp only[sliceBounds,HT.cF,getD_none,show(1:Int)>0 by decide,if_true];by_cases h:i<0;.simp only[h,if_true]<;>omega
     .simp only[h,if_false]<;>omega
theorem pC(c:List Value)(lo e:Option Int):slicePick c.toArray lo e none=((c.drop (HT.cF c.length 0 lo)).take (HT.cF c.length c.length e-HT.cF c.length 0 lo)).toArray:=by obtain⟨h1,f,g⟩:=qZ lo e c.toArray.size;unfold slicePick;rw[h1,f,g];simp only[sliceRange_one,pick_run,size_toArray]<;>rfl
def ZV(K:PySem.W.Frag):V->Option Int->Option Int->Hp->VK->Prop:=λx lo c H Q=>∃a xs,x=.ref a/\dJ K H a xs/\∀p,H p=none->Q (.ref p) (upd H p (.lst (uF xs lo c)))
theorem Fq:Wx X (ZV X.K):=by intro f s p H x v t u lo e w Q I i hs j k h;obtain⟨a,xs,rfl,l,q⟩:=h;cases i;obtain⟨m,r,g,hz⟩:=I.list l;have c:=r.length;refine⟨"list",_,slot_list_getitem.lookup,g.isList.typeIs,?_⟩;refine wpAny_getItem_list_slice g.isList hs j k .none (by simp) ?_ (by rw[size_toArray]<;>omega);rw[pC,<-c];refine⟨.ref s.heap.objs.size,_,I.laid (t':=s.toks) (o:=.lst (uF xs lo e)) (λb y q=>gG q) (cD) ?_,rfl,q _ (I.hok.fresh (cD))⟩;exact⟨le_trans (mj xs lo e) hz,_,0,(r.drop (HT.cF xs.length 0 lo)).take (HT.cF xs.length xs.length e-HT.cF xs.length 0 lo),get?_push_size _ rfl⟩
noncomputable def jq:V->Bool|.non=>true|.bl _=>true|.int _=>true|.str _=>true|_=>false
noncomputable def HQ:V->V->Bool|.non,.non=>true|.bl a,.bl b=>a==b|.bl a,.int b=>(if a then 1 else 0)==b|.int a,.bl b=>a==(if b then 1 else 0)|.int a,.int b=>a==b|.str a,.str b=>a==b|_,_=>false
theorem M6{A:Around}{y:V}{u v:Value}(e:RelV y u)(c:RelV x v)(g:jq y=true)(f:jq x=true):SeqAt.EqAt A s u v (HQ y x):=by cases y with
 |non=>cases e;cases x with|non=>cases c;exact SeqAt.EqAt.same _|bl b=>cases c;exact none_bool b|int b=>obtain⟨t,rfl⟩:=c;exact none_int b t|str b=>obtain⟨t,rfl⟩:=c;exact none_str b t|_=>exact absurd (show false=true from f) Bool.false_ne_true
 |bl a=>cases e;cases x with|non=>cases c;exact bool_none a|bl b=>cases c;exact bool_bool a b|int b=>obtain⟨t,rfl⟩:=c;exact bool_int a b t|str b=>obtain⟨t,rfl⟩:=c;exact bool_str a b t|_=>exact absurd (show false=true from f) Bool.false_ne_true
 |int a=>obtain⟨t',rfl⟩:=e;cases x with|non=>cases c;exact int_none a t'|bl b=>cases c;exact int_bool a t' b|int b=>obtain⟨t,rfl⟩:=c;exact int_int a t' b t|str b=>obtain⟨t,rfl⟩:=c;exact int_str a t' b t|_=>exact absurd (show false=true from f) Bool.false_ne_true
 |str a=>obtain⟨t',rfl⟩:=e;cases x with|non=>cases c;exact str_none a t'|bl b=>cases c;exact str_bool a t' b|int b=>obtain⟨t,rfl⟩:=c;exact str_int a t' b t|str b=>obtain⟨t,rfl⟩:=c;exact str_str a t' b t|_=>exact absurd (show false=true from f) Bool.false_ne_true
 |_=>exact absurd (show false=true from g) Bool.false_ne_true
noncomputable def wX(x:V)(u:Value):Bool:=match u with|.none=>HQ .non x|.bool b=>HQ (.bl b) x|.int i _=>HQ (.int i) x|.str z _=>HQ (.str z) x|_=>false
theorem Dm{y:V}{u:Value}(r:RelV y u)(f:jq y=true):wX x u=HQ y x:=by cases y with|non=>cases r;rfl|bl b=>cases r;rfl|int i=>obtain⟨t,rfl⟩:=r;rfl|str z=>obtain⟨t,rfl⟩:=r;rfl|_=>exact absurd (show false=true from f) Bool.false_ne_true
theorem kY{x:V}:∀{xs:List V}{c:List Value},Vals xs c->xs.all jq=true->c.any (wX x)=xs.any λy=>HQ y x|_,_,.nil,_=>rfl|y::xs,u::c,.cons r t,f=>by rw[all_cons,and_eq_true]at f;rw[any_cons,any_cons,Dm r f.1,kY t f.2]
theorem iC{A:Around}{s:Shared}{x:V}{v:Value}(e:RelV x v)(g:jq x=true):∀{xs:List V}{c:List Value},Vals xs c->xs.all jq=true->∀u∈c,SeqAt.EqAt A s u v (wX x u)
 |_,_,.nil,_=>λu hu=>by cases hu|y::xs,u::c,.cons r t,f=>λh hu=>by
   rw[all_cons,and_eq_true]at f;rcases mem_cons.mp hu with rfl|hu;.rw[Dm r f.1];exact M6 r e f.1 g
   .exact iC e g t f.2 h hu
noncomputable def inV(x:V)(xs:List V):Bool:=xs.any λy=>HQ y x
def rIn(K:PySem.W.Frag)(neg:Bool):R2:=λx y H Q=>∃p xs,y=.ref p/\(dJ K H p xs\/gA K H p xs)/\jq x=true/\xs.all jq=true/\Q (.bl (if neg then !inV x xs else inV x xs)) H
theorem zp:dH X (compareOp .In) (rIn X.K false):=by
 intro g s l H x y v u Q I i k h;obtain⟨p,xs,rfl,hq,j,fs,q⟩:=h;cases k;rcases hq with hq|hq;.obtain⟨c,r,e,hz⟩:=I.list hq;refine SeqAt.in_listAt (wX x) e.isList (λw f=>iC i j r fs w (by simpa using f)) ⟨.bl _,H,I,rfl,?_⟩;rw[show c.toArray.any (wX x)=c.any (wX x)by simp,kY r fs];exact q
 .obtain⟨c,r,e,hz⟩:=I.tuple hq;refine SeqAt.in_tupleAt (wX x) e (λw f=>iC i j r fs w (by simpa using f)) ⟨.bl _,H,I,rfl,?_⟩;rw[show c.toArray.any (wX x)=c.any (wX x)by simp,kY r fs];exact q
theorem sI:dH X (compareOp .NotIn) (rIn X.K true):=by
 intro g s l H x y v u Q I i k h;obtain⟨p,xs,rfl,hq,j,fs,q⟩:=h;cases k;rcases hq with hq|hq;.obtain⟨c,r,e,hz⟩:=I.list hq;refine SeqAt.notIn_listAt (wX x) e.isList (λw f=>iC i j r fs w (by simpa using f)) ⟨.bl _,H,I,rfl,?_⟩;rw[show c.toArray.any (wX x)=c.any (wX x)by simp,kY r fs];exact q
 .obtain⟨c,r,e,hz⟩:=I.tuple hq;refine SeqAt.notIn_tupleAt (wX x) e (λw f=>iC i j r fs w (by simpa using f)) ⟨.bl _,H,I,rfl,?_⟩;rw[show c.toArray.any (wX x)=c.any (wX x)by simp,kY r fs];exact q
theorem sy:fP X (.builtin "len") (λxs H Q=>∃p ys,xs=[.ref p]/\(dJ X.K H p ys\/gA X.K H p ys)/\Q (.int ys.length) H):=by
 intro g s j H xs k Q I r h;obtain⟨p,ys,rfl,hq,q⟩:=h;obtain⟨u,rfl,i⟩:=vals1 r;cases i;have l:=sG;rcases hq with hq|hq;.obtain⟨e,r',f,hz⟩:=I.list hq;have c:=r'.length;exact Calls.call_len_list f.isList (by simp only[size_toArray]<;>omega) ⟨.int ys.length,H,I.tok _,⟨s.toks+1,by rw[size_toArray,c]⟩,q⟩
 .obtain⟨e,r',f,hz⟩:=I.tuple hq;have c:=r'.length;exact len_tuple f (by simp only[size_toArray]<;>omega) ⟨.int ys.length,H,I.tok _,⟨s.toks+1,by rw[size_toArray,c]⟩,q⟩
theorem jt:fP X (.type "tuple") (λxs H Q=>∃p ys,xs=[.ref p]/\((dJ X.K H p ys/\∀l,H l=none->Q (.ref l) (upd H l (.tup ys)))\/(gA X.K H p ys/\Q (.ref p) H))):=by
 intro c s j H xs y Q I r h;obtain⟨p,ys,rfl,h⟩:=h;obtain⟨u,rfl,t⟩:=vals1 r;cases t;rcases h with⟨g,q⟩|⟨g,q⟩;.obtain⟨f,r',i,hz⟩:=I.list g;have k:=r'.length;refine call_tuple_list i.isList (λh' kp=>?_) (by simp only[size_toArray]<;>omega);have m:Inv X c j H {s with heap:=h'}:=I.kept (t':=s.toks) kp;have v:Inv X c j (upd H h'.objs.size (.tup ys)) {s with heap:=h'.push {cls:=.type "tuple",data:=.seq f.toArray}}:=m.laid (t':=s.toks) (λb o e=>gG e) (cD) (show cI X.prog X.w _ _ _ (.tup ys)from⟨hz,f,r',IsTup.new _ _⟩);exact⟨.ref h'.objs.size,_,v,rfl,q _ (m.hok.fresh (cD))⟩
 .obtain⟨f,r',i,hz⟩:=I.tuple g;exact call_tuple_same i ⟨.ref p,H,I,rfl,q⟩
def Xm(K:PySem.W.Frag)(T:String)(x:V)(H:Hp):Prop:=match x with|.str _=>T="str"|.int _=>T="int"|.ref p=>(T="list"/\∃xs,dJ K H p xs)\/(T="tuple"/\∃o,K.lookup p=some o/\o.cls=.type "tuple"/\o.dict=none)\/(T="dict"/\((∃c,H p=some (.dK c))\/∃c,H p=some (.dT c)))\/(T="set"/\∃S n,H p=some (.set S n))|_=>False
theorem BV{g:List (Addr×Obj)}{m:St}{H:Hp}{T:String}{v:Value}(I:Inv X g m H s)(r:RelV x v)(ty:Xm X.K T x H):
 s.TypeIs v T/\∀a,v=.ref a->∃k,s.heap.get? a=some k/\k.dict=none:=by cases x with|str z=>obtain⟨t,rfl⟩:=r;cases(show T="str"from ty);exact⟨typeIs_str s z t,λ_ e=>nomatch e⟩|int i=>obtain⟨t,rfl⟩:=r;cases(show T="int"from ty);exact⟨typeIs_int s i t,λ_ e=>nomatch e⟩|ref p=>
   cases r;rcases ty with⟨rfl,xs,q⟩|⟨rfl,o,f,hc,hd⟩|⟨rfl,f⟩|⟨rfl,S,n,f⟩;.obtain⟨u,_,l,_⟩:=I.list q;refine⟨l.isList.typeIs,λa e=>?_⟩;cases e;obtain⟨o,n,e,c,hd,_⟩:=l;exact⟨o,e,hd⟩
   .refine⟨⟨o,I.JV p o f,hc⟩,λa e=>?_⟩;cases e;exact⟨o,I.JV _ o f,hd⟩
   . have z:∃o,s.heap.get? p=some o/\o.ExactDict:=by
      rcases f with⟨h,f⟩|⟨h,f⟩;.obtain⟨_,_,_,_,o,_,_,e,ex,_⟩:=I.hok p _ f;exact⟨o,e,ex⟩
      .obtain⟨_,_,_,_,o,_,_,e,ex,_⟩:=I.hok p _ f;exact⟨o,e,ex⟩
     obtain⟨o,e,ex⟩:=z;refine⟨⟨o,e,ex.1⟩,λa j=>?_⟩;cases j;exact⟨o,e,ex.2.1⟩
   .obtain⟨o,_,_,_,e,ex,_⟩:=I.hok p _ f;refine⟨⟨o,e,ex.1⟩,λa j=>?_⟩;cases j;exact⟨o,e,ex.2.1⟩|_=>exact False.elim ty
def aac(K:PySem.W.Frag)(T:String)(r:V->List V->Hp->VK->Prop)(e:TE):TE:=λf H Q=>e f H λx c=>Xm K T x c/\r x [] c Q
def tBM(K:PySem.W.Frag)(T:String)(r:V->List V->Hp->VK->Prop)(f:TE)(t:TA):TE:=λc H Q=>f c H λx e=>Xm K T x e/\t c e λxs g=>r x xs g Q
variable{o e:Expr}{es:List Expr}{to:TE}{t:TA}{name:Str}{apos cpos:Pos}{T id:String}{r:V->List V->Hp->VK->Prop}
theorem M4(k:PlainAttrs T)(slot:Slot T name id)(i:typeOf (.builtin id)=pure (.type "method_descriptor"))(l:MtR X id r)(ho:PE X o to)(f:attributeBase o name X.env (eval o X.env)=eval o X.env:=by rfl)(g:(apos.endLine==cpos.line)=true:=by rfl):PE X (.Call (.Attribute o name apos) [] [] cpos) (aac X.K T r to):=by intro c s j H Q I h;refine wpAny_Call_method0_late f g (cJ (ho c s j H _ I h) λv s1⟨x,H1,I1,r1,ty,q1⟩=>?_);obtain⟨h1,m⟩:=BV I1 r1 ty;exact⟨T,id,k,slot,i,h1,m,Calls.callWith_builtin rfl (PySem.evalArgs_none (l c s1 j H1 x [] v [] Q I1 r1 .nil q1))⟩
theorem Jj(p:PlainAttrs T)(slot:Slot T name id)(k:typeOf (.builtin id)=pure (.type "method_descriptor"))(q:MtR X id r)(ho:PE X o to)(u:PA X (e::es) t)(g:attributeBase o name X.env (eval o X.env)=eval o X.env:=by rfl)(j:((backTo cpos (starEach (e::es) X.env)).all (λx=>!x.1)&&(backToKw cpos (keywordEach [] X.env)).all (λx=>x.1.isSome)&&decide ((e::es).length+([]:List Keyword).length+(if([]:List Keyword).isEmpty then 0 else 1)<30))=true:=by rfl)(i:(apos.endLine==cpos.line)=true:=by rfl)(hs:starEach (e::es) X.env=(false,eval e X.env)::starEach es X.env:=by rfl)(f:(backTo cpos (starEach es X.env)).any (·.1)=false:=by rfl):PE X (.Call (.Attribute o name apos) (e::es) [] cpos) (tBM X.K T r to t):=by intro c s l H Q I h;refine wpAny_Call_method_late g j i rfl (cJ (ho c s l H _ I h) λv s1⟨x,H1,I1,r1,ty,q1⟩=>?_);obtain⟨h1,w⟩:=BV I1 r1 ty;refine⟨T,id,p,slot,k,h1,w,?_⟩;have m:=u cpos c s1 l H1 _ I1 q1;rw[hs]at m ⊢;refine Calls.callWith_builtin (by show(false||(backTo cpos (starEach es X.env)).any (·.1))=false;rw[f]<;>rfl) (Calls.evalArgs_plain ?_);exact cJ m λy s2⟨vs,H2,I2,r2,q2⟩=>q c s2 l H2 x vs v y Q I2 r1 r2 q2
end
def YB(X:Cx)(id:String)(r:V->List V->Hp->VK->Prop):Prop:=∀(a:List (Addr × Obj))(s:Shared)(b:St)(H:Hp)(x:V)(xs:List V)(v:Value)(c:List Value)(Q:VK),Inv X a b H s->RelV x v->Vals xs c->r x xs H Q->wpAny (model X.prog X.w) X.A (call (.builtin id) (v::c)) (EP X a b Q) X.xe s
theorem Vals.one:∀{x:V}{a:List Value},Vals [x] a->∃u,a=[u]/\RelV x u|x,a,h=>by cases h with|cons r t=>cases t;exact⟨_,rfl,r⟩
theorem Vals.zero:∀{a:List Value},Vals [] a->a=[]|_,.nil=>rfl
theorem Vals.dropLast{xs:List V}{a:List Value}(h:Vals xs a):Vals xs.dropLast a.dropLast:=by induction h with|nil=>exact .nil|cons r t b=>cases t with|nil=>exact .nil|cons q t'=>exact .cons r b
theorem Vals.rep{xs:List V}{a:List Value}(h:Vals xs a):∀k:Nat,Vals (replicate k xs).flatten (replicate k a).flatten|0=>.nil|k+1=>by rw[replicate_succ,replicate_succ,flatten_cons,flatten_cons];exact Vals.append h (Vals.rep h k)
theorem xq{c:Type}(l:List c):l.eraseIdx (l.length-1)=l.dropLast:=by induction l with|nil=>rfl|cons a r f=>cases r with|nil=>rfl|cons b r=>
     have e:(a::b::r).length-1=((b::r).length-1)+1:=by have h1:(a::b::r).length=r.length+2:=rfl;have g:(b::r).length=r.length+1:=rfl;omega
     rw[e,List.eraseIdx_cons_succ,f];all_goals rfl
theorem foldl_rep(a:List Value):∀(k:Nat)(b:List Value),foldl (λc f=>c++f) b.toArray (replicate k a.toArray)=(b++(replicate k a).flatten).toArray
 |0,b=>by simp|k+1,b=>by
   have e:b.toArray++a.toArray=(b++a).toArray:=by simp
   have g:(b++a)++(replicate k a).flatten=b++(replicate (k+1) a).flatten:=by rw[replicate_succ,flatten_cons,append_assoc]
   rw[<-g,<-foldl_rep a k (b++a),<-e,replicate_succ,List.foldl_cons]
section
variable{X:Cx}{pins:List (Addr×Obj)}{σ:St}{H:Hp}{s:Shared}{l b:Addr}{xs ys zs:List V}
theorem Inv.Ky{a its':List Value}{f:Array Value->Array Value}{t':Nat}(I:Inv X pins σ H s)(c:H l=some (.lst xs))(e:s.heap.get? l=some {cls:=.type "list",data:=.seq a.toArray n})(g:f a.toArray=its'.toArray)(h:Vals ys its')(hz:ys.length<=sizeLine):Inv X pins σ (upd H l (.lst ys)) {s with heap:=s.heap.update l (Obj.mapSeq f),toks:=t'}:=by have q:=PySem.IsL.update e f;rw[g]at q;refine I.write (x:=l) (e:=l) (by rw[c];exact trivial) (.inl rfl) (λk u i j=>(get?_update_other s.heap (Obj.mapSeq f) (Ne.symm i)).trans j) ⟨_,q⟩ ?_;exact⟨hz,its',_,h,q⟩
theorem Inv.Nj{a:List Value}{t':Nat}(I:Inv X pins σ H s)(c:Vals ys a)(hz:ys.length<=sizeLine):Inv X pins σ (upd H s.heap.objs.size (.lst ys)) {s with heap:=s.heap.push {cls:=.type "list",data:=.seq a.toArray},toks:=t'}:=I.laid (λ_ _ q=>gG q) (cD) ⟨hz,a,0,c,get?_push_size _ rfl⟩
theorem Inv.fresh(I:Inv X pins σ H s):H s.heap.objs.size=none:=I.hok.fresh (cD)
theorem Inv.Hr(I:Inv X pins σ H s)(c:H l=some (.lst xs)):xs.length<=sizeLine/\∃(a:List Value)(n:Nat),Vals xs a/\xs.length=a.length/\s.heap.get? l=some {cls:=.type "list",data:=.seq a.toArray n}:=by obtain⟨z,a,n,r,e⟩:=I.hok l _ c;exact⟨z,a,n,r,r.length,e⟩
theorem uU(h:n<=sizeLine):listTooLong n=false:=by unfold listTooLong;exact decide_eq_false (by omega)
end
section
variable{X:Cx}
def Gb:V->List V->Hp->VK->Prop:=λx vs H Q=>∃l xs y,x=.ref l/\vs=[y]/\H l=some (.lst xs)/\xs.length<sizeLine/\Q .non (upd H l (.lst (xs++[y])))
theorem qj:YB X "list.append" Gb:=by intro b s j H x vs v k Q I f g h;obtain⟨l,xs,y,rfl,rfl,c,hz,q⟩:=h;cases f;obtain⟨u,rfl,i⟩:=g.one;obtain⟨z,a,n,r,m,e⟩:=I.Hr c;refine call_meets F.slot_list_append ⟨_,e,rfl⟩ F.entry_list_append (F.args_list_append_2 _ _) (PySem.list_append l a.toArray n u (by rw[size_toArray];omega)) ⟨e,?_⟩;refine⟨.non,_,I.Ky (its':=a++[u]) c e (by simp) (r.append (.cons i .nil)) ?_,rfl,q⟩;rw[length_append,List.length_singleton];omega
def Hu:V->List V->Hp->VK->Prop:=λx vs H Q=>∃l b xs a,x=.ref l/\vs=[.ref b]/\H l=some (.lst xs)/\H b=some (.lst a)/\xs.length+a.length<=sizeLine/\Q .non (upd H l (.lst (xs++a)))
theorem zN:YB X "list.extend" Hu:=by
 intro g s C H x vs v G Q I j k h;obtain⟨l,b,xs,J,rfl,rfl,i,m,hz,q⟩:=h;cases j;obtain⟨u,rfl,o⟩:=k.one;cases o;obtain⟨z,c,n,r,L,e⟩:=I.Hr i;obtain⟨M,a,p,t,w,y⟩:=I.Hr m;have f:c.toArray.size+a.toArray.size<=sizeLine:=by rw[size_toArray,size_toArray];omega
 have B:¬(!c.toArray.isEmpty&&listTooLong (c.toArray.size+a.toArray.size))=true:=by rw[uU f,Bool.and_false];exact Bool.false_ne_true
 refine call_meets F.slot_list_extend ⟨_,e,rfl⟩ F.entry_list_extend (F.args_list_extend_2 _ _) (AutoSeq1.list_extend_list_list_0 l c.toArray n b a.toArray p B (by rw[size_toArray];omega) (by omega)) ⟨e,y,?_⟩;refine⟨.non,_,I.Ky (its':=c++a) i e (by simp) (r.append t) ?_,rfl,q⟩;rw[length_append];omega
def YC:V->List V->Hp->VK->Prop:=λx vs H Q=>∃l xs y,x=.ref l/\vs=[]/\H l=some (.lst xs)/\xs[xs.length-1]?=some y/\Q y (upd H l (.lst xs.dropLast))
theorem NB:YB X "list.pop" YC:=by
 intro f s t H x vs v w Q I i j h;obtain⟨l,xs,y,rfl,rfl,g,k,q⟩:=h;cases i;have b:=j.zero;subst b;obtain⟨z,a,n,r,m,e⟩:=I.Hr g;obtain⟨u,o,p⟩:=r.get k;have c:a.toArray[a.toArray.size-1]?=some u:=by show a.toArray[a.length-1]?=some u;rw[<-Array.getElem?_toList,<-m];exact o
 refine call_meets F.slot_list_pop ⟨_,e,rfl⟩ F.entry_list_pop (F.args_list_pop_1 _) (MeetsSeq.list_pop_last l a.toArray n u c (by rw[size_toArray];omega)) ⟨e,?_⟩;refine⟨y,_,I.Ky (its':=a.dropLast) g e ?_ r.dropLast ?_,p,q⟩;.show a.toArray.eraseIdxIfInBounds (a.toArray.size-1)=a.dropLast.toArray;rw[size_toArray,List.eraseIdxIfInBounds_toArray,xq]
 .rw[List.length_dropLast];omega
theorem len_rep{a:Type}(xs:List a)(k:Nat):(replicate k xs).flatten.length=k*xs.length:=by induction k with|zero=>simp|succ k b=>rw[replicate_succ,flatten_cons,length_append,b,Nat.succ_mul,Nat.add_comm]
end
end L2
namespace Att
open PySem PySem.W PySem.Calls PyProof.Rows
theorem mD{P:Params}{h:Heap}:∀(ns:List Int)(vs:List Value),WellAll P h vs (ns.map WData.int)->IntsAre vs ns:=by intro ns;induction ns with|nil=>intro vs w;rw[map_nil]at w;cases w;exact .nil|cons n ns c=>intro vs w;rw[map_cons]at w;cases w with|cons a b=>cases a;exact .cons _ _ (c _ b)
theorem yX{l:OpenLaw}{n:Nat}(k:l.most=some n){P:Params}{h:Heap}{args:List WData}{b:List Value}(c:l.row.toRowW.claim.pre args=true)(i:WellAll P h b args):∃a vs ns,b=[Value.ref a]/\args=[WData.list (ns.map WData.int)]/\h.get? a=some {cls:=.type "list",data:=.seq vs.toArray}/\IntsAre vs ns/\ns.length<=n:=by
 have j:WShape.hasAll [] args [.list .int]=true:=(pre_splitW c).1;have hc:l.pre.holds [] {args:=args}=true:=(pre_splitW c).2;obtain⟨d,r,rfl,h1,m⟩:=hasAllW_cons j;obtain rfl:=hasAllW_nil m;obtain⟨xs,rfl,o⟩:=hasW_list h1;obtain⟨ns,rfl⟩:=items_int o;have e:ns.length<=n:=by
  unfold OpenLaw.pre at hc;have f:(WTm.not (.lt (.lit (.int (n:Int))) (.len (.arg 0)))).holds [] {args:=[.list (ns.map .int)]}=true:=by have f:=(holds_andW hc).1;rw[k]at f;exact f
  have g:=condW_of f (w_not (w_lt w_lit (w_len_list (w_arg rfl))));rw[length_map]at g;refine Nat.le_of_not_lt λq=>?_;have p:(n:Int)<((ns.length:Nat):Int):=by omega
  first|(rw[decide_eq_true p]at g;exact absurd g (by decide))|(simp at g;omega)
 cases i with|cons s t=>cases t;cases s with|list ho hall=>exact⟨_,_,ns,rfl,rfl,ho,mD ns _ hall,e⟩
theorem Ak(l:OpenLaw)(args:List WData):l.row.toRowW.claim.post args (.bool true) args=true:=postW_of (r:=l.row.toRowW) (X:=(true==true)) (show WShape.has [] (.bool true) .bool=true by first|rfl|decide|simp[WShape.has,WShape.arms,WShape.armsAll]) (show(WTm.eq .res (.lit (.bool true))).value [] {args:=args,res:=some (.bool true),after:=args}=some (.bool (true==true))from w_eq_bool (w_res rfl) w_lit) rfl
theorem tM{l:OpenLaw}{n:Nat}{q:Program}{c:List Str}{y:(Str->Option Value)->Heap->Prop}{z:World->Heap->Prop}{d:DefRec}(I:l.most=some n)(s:d.params.defaults=[])(call:∀(w:World)(s₀ b:Shared)(mg t:Str->Option Value)(h:Addr)(o:Obj)(pm m e:Value)(a:Addr)(vs:List Value)(ns:List Int),Ground q c [] y w s₀ mg t b.heap->z w b.heap->b.heap.get? h=some o->o.data=.func (docDef d.name d.params d.body d.scope pm m e)->b.heap.CodeRec m d.name->mg d.name=some (.ref h)->b.heap.get? a=some {cls:=.type "list",data:=.seq vs.toArray}->IntsAre vs ns->ns.length<=n->b.gens=#[]->codeAny (model l.prog w) callerA (.call (.ref h) ⟨[.ref a],[]⟩) (λr p=>r=.ok (.ret (.bool true))/\OldK b.heap p.heap/\p.os=b.os/\AllBare p.gens) b):WalkO q c y z l.row.toRowW d [] (λf vs=>PySem.call f vs):=by intro w s₀ b mg t G Y h o pm m e J kV ho hd u B v L args C as i H M x N;obtain rfl:J=.none:=Dflts.none B s;obtain rfl:kV=.none:=Dflts.noKw B;obtain⟨a,vs,ns,rfl,rfl,j,g,k⟩:=yX I i x;refine enter_call (codeAny_mono (call w s₀ b mg t h o pm m e a vs ns G Y ho (fd_plain hd) u v j g k L) λr p O=>?_);obtain⟨rfl,Q,U,W⟩:=O;exact⟨.inl ⟨.bool true,.bool true,[],rfl,λ_=>rfl,.bool true,Ak l _,λ_=>⟨List.Pairwise.nil,λ_ X=>(nomatch X)⟩⟩,Q,U,W⟩
end Att
namespace L2
open PySem PySem.Spec PyProof.Rows
theorem qg:∀{vs:List Value}{ns:List Int},IntsAre vs ns->Vals (ns.map V.int) vs|_,_,.nil=>.nil|_,_,.cons n t h=>.cons ⟨t,rfl⟩ (qg h)
def Only(H:Hp):Prop:=∀b,H b=none\/∃o xs,H b=some (.fM o (.lst xs))
theorem CP{P:Program}{w:World}{K:PySem.W.Frag}{mg M:Str->Option Value}{CX:yo}{k:Nat}{N a:Addr}{fd:FuncData}{x:Str}{sp:Sp}{c:Shared}{vs:List Value}{ns:List Int}(X:K.In c.heap)(l:c.heap.Ns mainGlobals mg)(f:c.heap.Ns builtinsNs M)(O:∀x:Str,x≠"__name__"->M x=bootBuiltins x)(p:c.heap.NoLimit)(hg:c.gens=#[])(J:c.heap.get? a=some {cls:=.type "list",data:=.seq vs.toArray})(Y:IntsAre vs ns)(Z:ns.length<=sizeLine)(hr:eX k callerA)(F:∀base:Heap,K.In base->base.Ns mainGlobals mg->gP P w K mg base CX k N fd [x] sp)(j:∀(s:Shared)(u:Value),BindsTo s fd ⟨[u],[]⟩ [(x,u)])(Q:∀H:Hp,Only H->dJ K H a (ns.map V.int)->sp [.ref a] H (λv _=>v=.bl true) λ_ _ _=>False)(U9:∀H e g,CX [] H c (λ_ _ _=>False) e g->False):codeAny (model P w) callerA (.call (.ref N) ⟨[.ref a],[]⟩) (λr g=>r=.ok (.ret (.bool true))/\OldK c.heap g.heap/\g.os=c.os/\AllBare g.gens) c:=by
 have rv:=qg Y;have t:=Y.length--from an abstract heap in which nothing but the script may be tracked
 have i:∀H:Hp,Only H->dJ K H a (ns.map V.int)->jG P w H c.heap->(∀b,H b≠none->b=a)->(H a≠none->K.lookup a=none)->codeAny (model P w) callerA (.call (.ref N) ⟨[.ref a],[]⟩) (λr g=>r=.ok (.ret (.bool true))/\OldK c.heap g.heap/\g.os=c.os/\AllBare g.gens) c:=by
  intro H hO hS hok hA hK;have yV:∀{b:Addr}{o:Obj},c.heap.get? b=some o->H b=none->(rz c.heap H).get? b=some o:=λe n=>Cr e n;have U7:∀{b:Addr}{o:Obj}{y:Array DictEntry}{B:Nat},c.heap.get? b=some o->o.data=.dict y B->H b=none:=λ{b o y B}e d=>by cases q:H b with|none=>rfl|some u=>have U:b=a:=hA b (by rw[q];simp);subst U;rw[J]at e;cases e;have d':Data.seq vs.toArray _=Data.dict y B:=d;cases d'
  have L:∀{b:Addr}{m:Str->Option Value},c.heap.Ns b m->(rz c.heap H).Ns b m:=λ{b m}⟨o,y,B,e,d,r⟩=>⟨o,y,B,yV e (U7 e d),d,r⟩;have C:K.In (rz c.heap H):=λb o e=>yV (X b o e) (by cases q:H b with|none=>rfl|some u=>have U:b=a:=hA b (by rw[q];simp);subst U;rw[hK (by rw[q];simp)]at e;cases e);have hM:Mod K mg (rz c.heap H):=⟨C,L l,⟨M,L f,O⟩,let⟨mc,h1,h2⟩:=p;⟨mc,L h1,h2⟩⟩;have e0:HF P w K mg (rz c.heap H) callerA [] c H:=⟨rfl,hM,λb o e=>Ff e,le_of_eq (zA _ _),trivial,λb f=>absurd (show b∈([]:List Addr)from f) (by simp),hok,.of_eq hg⟩;refine codeAny_mono ((F _ C (L l)).run callerA [] c H ⟨[.ref a],[]⟩ [.ref a] [.ref a] _ _ hr e0 (j c (.ref a)) (.cons rfl .nil) (Q H hO hS)) λr g h=>?_;cases r with|error e=>exact(U9 H e g h).elim|ok fl=>cases fl with|next=>exact False.elim h|brk=>exact False.elim h|cont=>exact False.elim h|ret u=>obtain⟨v,H',os,bare,un,G,r',q⟩:=h;have q':v=.bl true:=q;subst q';obtain rfl:u=Value.bool true:=r';refine⟨rfl,OldK.of_keep λb o e=>?_,os,bare⟩;cases q:H b with|none=>exact un.keep b o e q (by intro z;exact absurd (show b∈([]:List Addr)from z) (by simp)) (by simp)|some u=>
        rcases hO b with z|⟨ob,xs,z⟩;.rw[q]at z;cases z
        .have z2:=un.o9 b ob _ z;obtain⟨e1,_⟩:=hok b _ z;obtain⟨e2,_⟩:=G b _ z2;rw[e]at e1;cases e1;exact e2
 cases hk:K.lookup a with|some o=>--the script is one of the module's own objects
   have e:=X a o hk;rw[J]at e;cases e;refine i (λ_=>none) (λ_=>.inl rfl) (.inr ⟨_,vs.toArray,_,hk,rfl,rfl,rfl,by rw[size_toArray,t];exact Z,by simpa using rv⟩) (λb u z=>by have I:(none:Option HO)=some u:=z;cases I) (λb z=>absurd rfl z) λz=>absurd rfl z|none=>
   refine i (λb=>if b=a then some (.fM {cls:=.type "list",data:=.seq vs.toArray} (.lst (ns.map V.int)))else none) (λb=>?_) (.inl (.inr ⟨{cls:=.type "list",data:=.seq vs.toArray},if_pos rfl⟩)) (λb u z=>?_) (λb z=>?_) λ_=>hk
   . by_cases f:b=a;.exact .inr ⟨_,_,if_pos f⟩
     .exact .inl (if_neg f)
   . by_cases f:b=a;.have I:=(if_pos f).symm.trans z;cases I;subst f;exact⟨J,by rw[length_map];exact Z,vs,_,rv,J⟩
     .have I:=(if_neg f).symm.trans z;cases I
   . by_cases f:b=a;.exact f
     .exact absurd (if_neg f) z
theorem Gz{l:PySem.W.OpenLaw}{n k:Nat}{q:Program}{i:List Str}{L:(Str->Option Value)->Heap->Prop}{I:World->Heap->Prop}{d:DefRec}{K:Params->PySem.W.Frag}{CX:World->yo}{sp:World->Sp}{x:Str}(M:l.most=some n)(t:n<=sizeLine)(y:d.params.defaults=[])(hr:eX k callerA)(N:∀(w:World)(h:Heap),I w h->(K w.params).In h)(F:∀(w:World)(mg:Str->Option Value)(r:Addr)(h:Heap),(K w.params).In h->h.Ns mainGlobals mg->mg d.name=some (.ref r)->∃ fd:FuncData,(∀(s:Shared)(u:Value),BindsTo s fd ⟨[u],[]⟩ [(x,u)])/\∀base:Heap,(K w.params).In base->base.Ns mainGlobals mg->gP l.prog w (K w.params) mg base (CX w) k r fd [x] (sp w))(z:∀(w:World)(H:Hp)(a:Addr)(ns:List Int),ns.length<=n->Only H->dJ (K w.params) H a (ns.map V.int)->sp w [.ref a] H (λv _=>v=.bl true) λ_ _ _=>False)(O:∀(w:World)(H:Hp)(s:Shared)(e:Value)(B:Shared),CX w [] H s (λ_ _ _=>False) e B->False):PySem.W.WalkO q i L I l.row.toRowW d [] (λf vs=>PySem.call f vs):=by refine Att.tM M y λw s₀ m mg mb r o pm cd Q a vs ns G Y ho hd U C p j c X=>?_;have J:=N w _ Y;obtain⟨fd,Z,hF⟩:=F w mg r _ J G.T.g C;exact CP J G.T.g G.T.b G.T.builtins G.T.nolimit X p j (le_trans c t) hr hF Z (λH hO hS=>z w H a ns c hO hS) λH e B=>O w H m e B
theorem Dq{l:PySem.W.OpenLaw}{n k:Nat}{q:Program}{b:List Str}{p:(Str->Option Value)->Heap->Prop}{m:World->Heap->Prop}{d:DefRec}{K:Params->PySem.W.Frag}{CX:yo}{sp:PySem.W.Frag->Sp}{x:Str}(r:l.most=some n)(c:n<=sizeLine)(g:d.params.defaults=[])(hr:eX k callerA)(t:∀(w:World)(h:Heap),m w h->(K w.params).In h)(F:∀(w:World)(mg:Str->Option Value)(o:Addr)(h:Heap),(K w.params).In h->h.Ns mainGlobals mg->mg d.name=some (.ref o)->∃ fd:FuncData,(∀(s:Shared)(u:Value),BindsTo s fd ⟨[u],[]⟩ [(x,u)])/\∀base:Heap,(K w.params).In base->base.Ns mainGlobals mg->gP l.prog w (K w.params) mg base CX k o fd [x] (sp (K w.params)))(i:∀(K:PySem.W.Frag)(H:Hp)(a:Addr)(ns:List Int),ns.length<=n->Only H->dJ K H a (ns.map V.int)->sp K [.ref a] H (λv _=>v=.bl true) λ_ _ _=>False)(y:∀(H:Hp)(s:Shared)(e:Value)(j:Shared),CX [] H s (λ_ _ _=>False) e j->False):PySem.W.WalkO q b p m l.row.toRowW d [] (λf vs=>PySem.call f vs):=Gz (K:=K) (CX:=λ_=>CX) (sp:=λw=>sp (K w.params)) r c g hr t F (λw H a ns h1 z B=>i (K w.params) H a ns h1 z B) λ_ H s e j=>y H s e j
end L2
namespace L2
open PySem PySem.Spec PyProof.Rows
noncomputable def dO(s:Stmt):Arguments:=match s with|.FunctionDef _ a _ _ _ _ _ _ _ _=>a|_=>{posonlyargs:=[],args:=[],vararg:=none,kwonlyargs:=[],kw_defaults:=[],kwarg:=none,defaults:=[]}
noncomputable def cQ(s:Stmt):List Stmt:=match s with|.FunctionDef _ _ b _ _ _ _ _ _ _=>b|_=>[]
noncomputable def au(s:Stmt):Scope:=match s with|.FunctionDef _ _ _ _ _ _ a _ _ _=>a|_=>{kind:=.function,names:=[],isGenerator:=false,isCoroutine:=false}
abbrev Bt:yo:=λ_ _ _ _ _ _=>False
abbrev E0:XK:=λ_ _ _=>False
theorem Ud{X:Cx}:Passes Bt X E0:=λ_ _ _ _ _ _ _ h=>h.elim
structure il(K:PySem.W.Frag)(x qual:Str)(st:Stmt)(f:Addr)(fd:FuncData):Prop where
 ex:∃(oc:Value)(od:Option Addr)(kV doc pm:Value)(an:Option Addr)(cdv ct:Value)(osl:Array (Option Value)),fd=PySem.W.fnOf x qual (dO st) (cQ st) (au st) .none kV doc pm an cdv ct/\K.lookup f=some ⟨oc,od,.func fd,osl⟩/\PySem.W.codeIn K cdv qual=true
 kp:keepIn K (.ref f)=true
section
variable{P:Program}{w:World}{K:PySem.W.Frag}{mg:Str->Option Value}{base:Heap}
theorem il.ok{x qual:Str}{st:Stmt}{f:Addr}{fd:FuncData}{N ps:List Str}{k:Nat}{sp:Sp}(F:il K x qual st f fd)(S:aN N ps (au st))(len:∀vs H Q E,sp vs H Q E->vs.length=ps.length)(a:∀(cdv:Value)(A:Around)(outer:List Env)(s:Shared)(H:Hp)(vs:List V)(Q:VK)(E:XK),eX k (A.deeper (envOfC qual (au st) s.heap.objs.size f cdv))->sp vs H Q E->∃t,mL (lL Bt P w K mg base N qual (au st) f cdv A outer s H E).S8 (cQ st) t/\t {nx:=λ_ e=>Q .non e,rt:=Q} (start N vs) H):gP P w K mg base Bt (k+1) f fd ps sp:=by obtain⟨j,l,kV,g,pm,m,cdv,ct,i,rfl,lk,b⟩:=F.ex;refine JP lk b S len λA outer s H vs Q E hr c=>?_;obtain⟨t,h,q⟩:=a cdv A outer s H vs Q E hr c;exact⟨t,h.S8,q⟩
theorem il.binds{x qual:Str}{st:Stmt}{f:Addr}{fd:FuncData}{ps:List Str}(F:il K x qual st f fd)(h:∀(kV a pm:Value)(b:Option Addr)(cdv ct:Value)(c:List Value),c.length=ps.length->bindArgs (PySem.W.fnOf x qual (dO st) (cQ st) (au st) .none kV a pm b cdv ct) ⟨c,[]⟩=pure (ps.zip c)):Binds K fd ps []:=by obtain⟨i,j,kV,a,pm,b,cdv,ct,e,rfl,lk,g⟩:=F.ex;exact .all (h kV a pm b cdv ct)
theorem Np{x qual:Str}{st:Stmt}{f:Addr}{g:Value}{h e:Option Addr}{b:Array (Option Value)}{kV a pm cdv ct:Value}(l:K.lookup f=some ⟨g,h,.func (PySem.W.fnOf x qual (dO st) (cQ st) (au st) .none kV a pm e cdv ct),b⟩)(c:PySem.W.codeIn K cdv qual=true)(k:keepIn K (.ref f)=true):il K x qual st f (PySem.W.fnOf x qual (dO st) (cQ st) (au st) .none kV a pm e cdv ct):=⟨⟨g,h,kV,a,pm,e,cdv,ct,b,rfl,l,c⟩,k⟩
end
def aM(H a:Hp):Prop:=∀b o,H b=some o->a b=some o
theorem aM.refl(H:Hp):aM H H:=λ_ _ h=>h
theorem aM.trans{H e f:Hp}(a:aM H e)(b:aM e f):aM H f:=λc o h=>b c o (a c o h)
theorem aM.seq{K:PySem.W.Frag}{H b:Hp}{a:Addr}{xs:List V}(e:aM H b)(h:dJ K H a xs):dJ K b a xs:=by
 rcases h with(h|⟨o,h⟩)|h;.exact .inl (.inl (e _ _ h))
 .exact .inl (.inr ⟨o,e _ _ h⟩)
 .exact .inr h
end L2
end
section
namespace HH
open PySem
inductive Dc where|k(kvs:List (Int×Int))|t(kvs:List (List Int×Int))deriving DecidableEq
inductive D where|non|bl(b:Bool)|int(i:Int)|str(s:Str)|tup(ds:List D)|lst(ds:List D)|dm(m:Dc)|dv(ks:List Int)(ds:List D)deriving Inhabited
mutual
noncomputable def gq:D->D->Bool|.non,.non=>true|.bl a,.bl b=>a==b|.bl a,.int i=>(if a then(1:Int)else 0)==i|.int i,.bl a=>i==(if a then(1:Int)else 0)|.int i,.int j=>i==j|.str a,.str b=>a==b|.tup xs,.tup ys=>du xs ys|.lst xs,.lst ys=>du xs ys|.dm a,.dm b=>decide (a=b)|.dv a xs,.dv b ys=>decide (a=b)&&du xs ys|_,_=>false
noncomputable def du:List D->List D->Bool|[],[]=>true|x::xs,y::ys=>gq x y&&du xs ys|_,_=>false
end
theorem pqi{i j}:gq (.int i) (.int j)=(i==j):=(rfl)
theorem pqt{x y}:gq (.tup x) (.tup y)=du x y:=(rfl)
theorem Vt{x y}:gq (.lst x) (.lst y)=du x y:=(rfl)
noncomputable def bV:Nat->D->Bool|_,.non=>true|_,.bl _=>true|_,.int _=>true|_,.str _=>true|0,.tup _=>false|0,.lst _=>false|_,.dm _=>false|_,.dv _ _=>false|n+1,.tup ds=>ds.all (bV n)|n+1,.lst ds=>ds.all (bV n)
inductive Sl where|bG|val(b:Bool)(d:D)|own(b:Bool)(ds:List D)|lent(ds:List D)|sJ(m:Dc)|hold(rows:List (List D))|sO(kvs:List (Int×D))deriving Inhabited
inductive R where|val(d:D)|own(ds:List D)deriving Inhabited
noncomputable def R.d:R->D|.val d=>d|.own ds=>.lst ds
inductive Res(α:Type)where|ok(a:α)(ρ:List Sl)|exc(k:Nat)(ρ:List Sl)|stuck deriving Inhabited
noncomputable def Res.bind{b c:Type}(f:b->List Sl->Res c):Res b->Res c|.ok a ρ=>f a ρ|.exc _ _=>.stuck|.stuck=>.stuck
noncomputable def lift{b:Type}(o:Option b)(ρ:List Sl):Res b:=match o with|some a=>.ok a ρ|none=>.stuck
inductive Op where|add|sub|mul|fdiv|mod|pow|shl|shr|band|aaj|din|aak deriving DecidableEq
inductive Cm where|eq|ne|lt|le|gt|ge|Rh|sS|inn|yW|isT|Va|leT deriving DecidableEq
inductive Ty where|int|bool|str|tuple|list|none deriving DecidableEq
inductive Wc where|len|list|tuple|min2|max2|DX|sum|sorted|int|DY|Io deriving DecidableEq
inductive P where|var(i:Nat)|con(d:D)|glob(x:Str)(d:D)|bin(o:Op)(a b:P)|neg(a:P)|not(a:P)|and(a b:P)|or(a b:P)|cmp(o:Cm)(a b:P)|chain(o o':Cm)(a b c:P)|Vb(c a b:P)|tup(as:List P)|lst(as:List P)|idx(a i:P)|slice(a lo hi:P)|call(f:Nat)(as:List P)|blt(b:Wc)(as:List P)|pop(x:Nat)|comp(src:P)(n:Nat)(is:List Nat)(one:Bool)(test:Option P)(elt:P)|xu(a b:P)|Vc(a:P)|zip(a b:P)|vw(x:Nat)deriving Inhabited
noncomputable abbrev lim:Nat:=16777216
noncomputable def lW:D->D->Option R|.int i,.int j=>some (.val (.int (i+j)))|.lst xs,.lst ys=>if xs.length+ys.length<=lim then some (.own (xs++ys))else none|.tup xs,.tup ys=>if xs.length+ys.length<=lim then some (.val (.tup (xs++ys)))else none|.str x,.str y=>if x.length+y.length<=lim then some (.val (.str (x++y)))else none|_,_=>none
noncomputable def nA:D->D->Option R|.int i,.int j=>if((-18446744073709551616<i/\i<18446744073709551616)\/(-18446744073709551616<j/\j<18446744073709551616))then some (.val (.int (i*j)))else none|.lst xs,.int k=>if 0<=k/\0<xs.length/\xs.length*k.toNat<=lim then some (.own (replicate k.toNat xs).flatten)else none|.tup xs,.int k=>if 0<=k/\0<xs.length/\xs.length*k.toNat<=lim then some (.val (.tup (replicate k.toNat xs).flatten))else none|_,_=>none
noncomputable def tE:D->D->Option R|.int i,.int j=>some (.val (.int (i-j)))|_,_=>none
noncomputable def oW:D->D->Option R|.int i,.int j=>if 0<j/\j<1606938044258990275541962092341162602522202993782792835301376 then some (.val (.int (i/j)))else none|_,_=>none
noncomputable def tQ:D->D->Option R|.int i,.int j=>if 0<j then some (.val (.int (i%j)))else none|_,_=>none
noncomputable def ud:D->D->Option R|.int i,.int j=>if 0<=j/\j<=1000/\i.natAbs<18446744073709551616 then some (.val (.int (i^j.toNat)))else none|_,_=>none
noncomputable def Dl:D->D->Option R|.int i,.int j=>if 0<=j/\j<=1000/\i.natAbs<18446744073709551616 then some (.val (.int (i*2^j.toNat)))else none|_,_=>none
noncomputable def Bh:D->D->Option R|.int i,.int j=>if 0<=j then some (.val (.int (i/2^j.toNat)))else none|_,_=>none
noncomputable def wR:D->D->Option R|.int i,.int j=>some (.val (.int (Builtin.bitAnd i j)))|_,_=>none
noncomputable def flat:D->Bool|.tup _=>false|.lst _=>false|.dm _=>false|.dv _ _=>false|_=>true
noncomputable def items:D->Option (List D)|.lst ds=>some ds|.tup ds=>some ds|_=>none
noncomputable def O1:D->Option (List D)|.tup ds=>some ds|_=>none
noncomputable def wW(x y:D):Option Bool:=if bV 8 x&&bV 8 y then some (gq x y)else none
noncomputable def qO(x y:D):Option Bool:=if bV 8 x&&bV 8 y then some (!gq x y)else none
noncomputable def El(f:Int->Int->Bool):D->D->Option Bool|.int i,.int j=>some (f i j)|_,_=>none
noncomputable def gf:D->Bool|.non=>true|_=>false
noncomputable def QH(neg:Bool)(x:D):D->Option Bool|.non=>some (if neg then !gf x else gf x)|_=>none
noncomputable def uw(neg:Bool)(x y:D):Option Bool:=(items y).bind λys=>if(flat x&&ys.all flat)=true then some (if neg then !(ys.any λy=>gq y x)else ys.any λy=>gq y x)else none
noncomputable def cmT(neg:Bool):D->D->Option Bool|.bl b,.bl true=>some (if neg then !b else b)|_,_=>none
noncomputable def aW:List Int->List Int->Bool|[],_::_=>true|i::is,j::js=>decide (i<j)||(decide (i=j)&&aW is js)|_,[]=>false
noncomputable def lB:D->Int|.int i=>i|_=>0
noncomputable def bD:D->List Int|.int i=>[i]|.tup ds=>ds.map lB|_=>[]
noncomputable def dR:D->Bool|.int _=>true|_=>false
noncomputable def Dc.get:Dc->D->Option (Option Int)|.k a,.int i=>some ((a.find? λb=>decide (b.1=i)).map (·.2))|_,_=>none
noncomputable def putD{κ:Type}[DecidableEq κ](a:List (κ×Int))(k:κ)(v:Int):List (κ×Int):=if(a.any λb=>decide (b.1=k))=true then a.map (λb=>if b.1=k then(b.1,v)else b)else a++[(k,v)]
noncomputable def Dc.put:Dc->D->Int->Option Dc|.k a,.int i,v=>if a.length<lim then some (.k (putD a i v))else none|_,_,_=>none
noncomputable def Xp(a:List (Int×D))(k:Int):Option D:=(a.find? λp=>decide (p.1=k)).map (·.2)
noncomputable def vput(a:List (Int×D))(k:Int)(d:D):List (Int×D):=if(a.any λp=>decide (p.1=k))=true then a.map (λp=>if p.1=k then(p.1,d)else p)else a++[(k,d)]
noncomputable def S5(neg:Bool):D->D->Option R|.int k,.dv a _=>some (.val (.bl (if neg then !a.contains k else a.contains k)))|_,_=>none
noncomputable def Uj:D->D->Option R|.dm m,k=>(m.get k).bind λo=>o.map λv=>.val (.int v)|.dv a ds,.int k=>(Xp (a.zip ds) k).map .val|_,_=>none
noncomputable def sW:Op->D->D->Option R|.add=>lW|.mul=>nA|.sub=>tE|.fdiv=>oW|.mod=>tQ|.pow=>ud|.shl=>Dl|.shr=>Bh|.band=>wR|.aaj=>Uj|.din=>S5 false|.aak=>S5 true
noncomputable def R6:D->D->Option Bool|.int i,.int j=>some (decide (i<j))|.tup xs,.tup ys=>if(xs.all dR&&ys.all dR)=true then some (aW (xs.map lB) (ys.map lB))else none|_,_=>none
noncomputable def aaa:D->D->Option Bool|.int i,.int j=>some (decide (i<=j))|.tup xs,.tup ys=>if(xs.all dR&&ys.all dR)=true then some (!aW (ys.map lB) (xs.map lB))else none|_,_=>none
noncomputable def cm:Cm->D->D->Option Bool|.eq=>wW|.ne=>qO|.lt=>R6|.le=>El λi j=>decide (i<=j)|.leT=>aaa|.gt=>El λi j=>decide (j<i)|.ge=>El λi j=>decide (j<=i)|.Rh=>QH false|.sS=>QH true|.inn=>uw false|.yW=>uw true|.isT=>cmT false|.Va=>cmT true
noncomputable def lF(o:Cm)(x y:D):Option R:=(cm o x y).map λk=>.val (.bl k)
noncomputable def jr(n:Nat)(i:Int):Option Nat:=if 0<=i then(if i<n then some i.toNat else none)else if-(n:Int)<=i then some (i+n).toNat else none
noncomputable def at'{a:Type}(xs:List a)(i:Int):Option a:=(jr xs.length i).bind λj=>xs[j]?
noncomputable def cF(n d:Nat):Option Int->Nat|none=>d|some i=>if 0<=i then min i.toNat n else(i+n).toNat
noncomputable def cut{a:Type}(xs:List a)(lo b:Option Int):List a:=(xs.drop (cF xs.length 0 lo)).take (cF xs.length xs.length b-cF xs.length 0 lo)
noncomputable def jF:D->Option Int|.int i=>some i|_=>none
noncomputable def Gr:D->Option Bool|.bl b=>some b|_=>none
noncomputable def dl2(k e:Int)(x y:D):Option R:=(jF x).bind λi=>(jF y).bind λj=>if i=k then none else some (.val (.dv [k,i] [.int e,.int j]))
noncomputable def lixR:D->D->Option R|.lst ds,.int i=>(ds.mapM jF).bind λns=>if i∈ns/\ns.length<=1000 then some (.val (.int (ns.idxOf i)))else none|_,_=>none
noncomputable def Ab(x y:D):Option R:=(items x).bind λds=>(jF y).bind λi=>(at' ds i).map .val
noncomputable def Cg(x:D):Option R:=(jF x).map λi=>.val (.int (-i))
noncomputable def Fz:P->Bool|.con .non=>true|_=>false
noncomputable def part(p:P)(d:D):Option (Option Int):=if Fz p then some none else(jF d).map some
noncomputable def JM:D->Option (Option Int)->Option (Option Int)->Option R|.lst xs,some lo,some a=>some (.own (cut xs lo a))|.tup xs,some lo,some a=>some (.val (.tup (cut xs lo a)))|_,_,_=>none
noncomputable def cz:Ty->D->Bool|.int,.int _=>true|.int,.bl _=>true|.bool,.bl _=>true|.str,.str _=>true|.tuple,.tup _=>true|.list,.lst _=>true|.none,.non=>true|_,_=>false
noncomputable def nQ:D->Bool|.tup (x::xs)=>(x::xs).all dR|_=>false
noncomputable def sortable(ds:List D):Bool:=decide (ds.length<=16777216)&&(ds.all dR||ds.all nQ)
noncomputable def qz(ds:List D):List D:=ds.mergeSort λa b=>!aW (bD b) (bD a)
noncomputable def ordP:D->Bool|.tup [.int _,.tup ws]=>ws.all dR|_=>false
noncomputable def flP:D->D|.tup [.int h,.tup ws]=>.tup (.int h::ws)|d=>d
noncomputable def ufP:D->D|.tup (.int h::ws)=>.tup [.int h,.tup ws]|d=>d
noncomputable def vU:D->Option (List D)|.lst ds=>some ds|_=>none
noncomputable def prD(p:Int×Int):D:=.tup [.int p.1,.int p.2]
noncomputable def blt:Wc->List D->Option R|.len,[x]=>(items x).map λds=>.val (.int ds.length)|.list,[x]=>(items x).map λds=>.own ds|.tuple,[x]=>(items x).map λds=>.val (.tup ds)|.min2,[.int i,.int j]=>some (.val (.int (if j<i then j else i)))|.max2,[.int i,.int j]=>some (.val (.int (if i<j then j else i)))|.DX,[x]=>((items x).bind λds=>ds.mapM jF).bind λns=>ns.min?.map λi=>.val (.int i)|.sum,[x]=>((items x).bind λds=>ds.mapM jF).map λns=>.val (.int ns.sum)|.DY,[x]=>((items x).bind λds=>ds.mapM jF).map λns=>.val (match ns.min? with|some i=>.int i|none=>.non)|.sorted,[x]=>(vU x).bind λds=>if sortable ds then some (.own (qz ds))else none|.int,[.int i]=>some (.val (.int i))|.int,[.bl b]=>some (.val (.int (if b then 1 else 0)))|.Io,[.lst ds]=>some (.own ds.reverse)|_,_=>none
noncomputable def pk(ρ:List Sl)(i:Nat):Option D:=match ρ[i]?with|some (.val _ d)=>some d|some (.own _ ds)=>some (.lst ds)|some (.lent ds)=>some (.lst ds)|_=>none
noncomputable def Kg(ρ:List Sl)(i:Nat):Option (List D):=match pk ρ i with|some (.lst ds)=>some ds|_=>none
noncomputable abbrev Ev:=List Sl->Res R
noncomputable def isVar:P->Option Nat|.var i=>some i|_=>none
noncomputable def gw(i:Option Nat)(e:Ev)(ρ:List Sl):Res D:=match i with|some i=>lift (pk ρ i) ρ|none=>(e ρ).bind λr ρ=>.ok r.d ρ
noncomputable def gR(i:Option Nat)(e:Ev)(j:Option Nat)(f:Ev)(ρ:List Sl):Res (D×D):=match i with|some i=>(lift (pk ρ i) ρ).bind λ_ ρ=>(gw j f ρ).bind λy ρ=>(lift (pk ρ i) ρ).bind λx ρ=>.ok (x,y) ρ|none=>(gw none e ρ).bind λx ρ=>(gw j f ρ).bind λy ρ=>.ok (x,y) ρ
noncomputable def dY(e:Ev)(ρ:List Sl):Res Bool:=(e ρ).bind λr ρ=>lift (Gr r.d) ρ
inductive Arg where|dat(d:D)|tmp(ds:List D)|dM(i:Nat)
noncomputable def vg:R->Arg|.val d=>.dat d|.own ds=>.tmp ds
noncomputable def bu(ρ:List Sl):List Arg->List Nat->Option (List Sl)|[],_=>some []|.dat d::r,a=>(bu ρ r a).map λs=>.val false d::s|.tmp ds::r,a=>(bu ρ r a).map λs=>.own false ds::s|.dM i::r,a=>match ρ[i]?with|some (.val _ d)=>(bu ρ r a).map λs=>.val false d::s|some (.own _ ds)=>if a.contains i then none else(bu ρ r (i::a)).map λs=>.own true ds::s|some (.lent ds)=>if a.contains i then none else(bu ρ r (i::a)).map λs=>.lent ds::s|_=>none
noncomputable def aL(i:Nat):List Arg->List Sl->Option Sl|.dM k::as,s::ss=>if k=i then some s else aL i as ss|.dat _::as,_::ss=>aL i as ss|.tmp _::as,_::ss=>aL i as ss|_,_=>none
noncomputable def dh:Sl->Option Sl->Sl|.own b _,some (.own _ ds)=>.own b ds|.own b _,some (.val _ d)=>.val b d|s,_=>s
noncomputable def bR(as:List Arg)(ss:List Sl):Nat->List Sl->List Sl|_,[]=>[]|i,s::ρ=>dh s (aL i as ss)::bR as ss (i+1) ρ
noncomputable abbrev Call:=Nat->List Sl->Res R
noncomputable def iB(c:Call)(f:Nat)(as:List Arg)(ρ:List Sl):Res R:=match bu ρ as []with|none=>.stuck|some args=>match c f args with|.ok r a=>.ok r (bR as a 0 ρ)|.exc _ _=>.stuck|.stuck=>.stuck
noncomputable def put(ρ:List Sl)(i:Nat)(s:Sl):Option (List Sl):=match ρ[i]?with|some .bG=>some (ρ.set i s)|some (.val false _)=>some (ρ.set i s)|some (.own false _)=>some (ρ.set i s)|_=>none
noncomputable def putAll(ρ:List Sl):List Nat->List D->Option (List Sl)|[],[]=>some ρ|i::is,d::ds=>(put ρ i (.val false d)).bind λρ=>putAll ρ is ds|_,_=>none
noncomputable def di(ρ:List Sl)(is:List Nat)(one:Bool)(d:D):Option (List Sl):=match one,is,d with|true,[i],d=>put ρ i (.val false d)|false,is,.tup ds=>putAll ρ is ds|_,_,_=>none
noncomputable def srcOf(i:Option Nat)(e:Ev)(ρ:List Sl):Res (List D):=match i with
 |some i=>match ρ[i]?with|some (.val _ d)=>lift (items d) ρ|some (.own _ ds)=>.ok ds (ρ.set i (.lent ds))|some (.lent ds)=>.ok ds ρ|_=>.stuck
 |none=>(e ρ).bind λr ρ=>lift (items r.d) ρ
noncomputable def bj(a:List Sl)(i:Option Nat)(ρ:List Sl):List Sl:=match i with
 |some i=>match a[i]?with|some (.own b ds)=>ρ.set i (.own b ds)|_=>ρ
 |none=>ρ
noncomputable def srcY(i:Nat)(f:Ev)(ρ:List Sl):Res (List D×List Sl):=(f ρ).bind λr a=>(lift (items r.d) a).bind λb a=>match a[i]?with|some (.val _ d)=>(lift (items d) a).bind λds a=>.ok ((b.zip ds).map λp=>D.tup [p.1,p.2],a) a|some (.own _ ds)=>.ok ((b.zip ds).map λp=>D.tup [p.1,p.2],a) (a.set i (.lent ds))|some (.lent ds)=>.ok ((b.zip ds).map λp=>D.tup [p.1,p.2],a) a|_=>.stuck
noncomputable def turns(is:List Nat)(one:Bool)(a:List Sl->Res Bool)(e:Ev):List D->List D->List Sl->Res (List D)|[],c,ρ=>.ok c ρ|d::r,c,ρ=>match di ρ is one d with|none=>.stuck|some ρ=>(a ρ).bind λb ρ=>if b then(e ρ).bind λx ρ=>turns is one a e r (c++[x.d]) ρ else turns is one a e r c ρ
mutual
noncomputable def ev(c:Call):P->List Sl->Res R
 |.var i,ρ=>match ρ[i]?with|some (.val _ d)=>.ok (.val d) ρ|some (.own b ds)=>.ok (.val (.lst ds)) (ρ.set i (.val b (.lst ds)))|some (.sJ (.k e))=>.ok (.val (.dm (.k e))) (ρ.set i (.val false (.dm (.k e))))|some (.sO e)=>.ok (.val (.dv (e.map (·.1)) (e.map (·.2)))) (ρ.set i (.val false (.dv (e.map (·.1)) (e.map (·.2)))))|_=>.stuck
 |.con d,ρ=>.ok (.val d) ρ|.glob _ d,ρ=>.ok (.val d) ρ|.bin o a b,ρ=>(gR (isVar a) (ev c a) (isVar b) (ev c b) ρ).bind λg ρ=>lift (sW o g.1 g.2) ρ|.neg a,ρ=>(gw (isVar a) (ev c a) ρ).bind λx ρ=>lift (Cg x) ρ|.not a,ρ=>(dY (ev c a) ρ).bind λb ρ=>.ok (.val (.bl (!b))) ρ|.and a b,ρ=>(dY (ev c a) ρ).bind λx ρ=>if x then(dY (ev c b) ρ).bind λy ρ=>.ok (.val (.bl y)) ρ else .ok (.val (.bl false)) ρ|.or a b,ρ=>(dY (ev c a) ρ).bind λx ρ=>if x then .ok (.val (.bl true)) ρ else(dY (ev c b) ρ).bind λy ρ=>.ok (.val (.bl y)) ρ|.cmp o a b,ρ=>(gR (isVar a) (ev c a) (isVar b) (ev c b) ρ).bind λg ρ=>lift (lF o g.1 g.2) ρ|.chain o w a b d,ρ=>(gR (isVar a) (ev c a) (isVar b) (ev c b) ρ).bind λg ρ=>(lift (if flat g.2=true then cm o g.1 g.2 else none) ρ).bind λk ρ=>if k then(gw (isVar d) (ev c d) ρ).bind λz ρ=>lift (lF w g.2 z) ρ else .ok (.val (.bl false)) ρ|.Vb t a b,ρ=>(dY (ev c t) ρ).bind λk ρ=>if k then(ev c a ρ).bind λr ρ=>.ok (.val r.d) ρ else(ev c b ρ).bind λr ρ=>.ok (.val r.d) ρ|.tup as,ρ=>(evs c as ρ).bind λds ρ=>.ok (.val (.tup ds)) ρ|.lst as,ρ=>(evs c as ρ).bind λds ρ=>.ok (.own ds) ρ|.idx a i,ρ=>(gR (isVar a) (ev c a) (isVar i) (ev c i) ρ).bind λg ρ=>lift (Ab g.1 g.2) ρ|.slice a l h,ρ=>match isVar a with|some i=>(lift (pk ρ i) ρ).bind λ_ ρ=>(gw (isVar l) (ev c l) ρ).bind λy ρ=>(gw (isVar h) (ev c h) ρ).bind λz ρ=>(lift (pk ρ i) ρ).bind λx ρ=>lift (JM x (part l y) (part h z)) ρ|none=>(gw none (ev c a) ρ).bind λx ρ=>(gw (isVar l) (ev c l) ρ).bind λy ρ=>(gw (isVar h) (ev c h) ρ).bind λz ρ=>lift (JM x (part l y) (part h z)) ρ
 |.call f as,ρ=>(qT c as ρ).bind λxs ρ=>iB c f xs ρ|.blt b [a],ρ=>(gw (isVar a) (ev c a) ρ).bind λx ρ=>lift (blt b [x]) ρ|.blt b as,ρ=>(evs c as ρ).bind λds ρ=>lift (blt b ds) ρ|.pop x,ρ=>match ρ[x]?with|some (.own b ds)=>lift (ds.getLast?.map .val) (ρ.set x (.own b ds.dropLast))|_=>.stuck
 |.comp src n is one u v,ρ=>(srcOf (isVar src) (ev c src) ρ).bind λds q=>if ds.length<=lim then(turns is one (wZ c u) (ev c v) ds [] (q++replicate n .bG)).bind λxs s=>.ok (.own xs) (bj ρ (isVar src) (s.take q.length))else .stuck|.xu a b,ρ=>(gR (isVar a) (ev c a) (isVar b) (ev c b) ρ).bind λg ρ=>lift ((jF g.1).bind λi=>(jF g.2).bind λj=>if-1000000<=i/\i<=1000000000/\j<=1000000000/\-1000000000<=j then some (.val (.lst ((List.range (j-i).toNat).map λ(k:Nat)=>D.int (i+(k:Int)))))else none) ρ|.Vc a,ρ=>(ev c a ρ).bind λr ρ=>lift ((items r.d).map λds=>.val (.lst (ds.mapIdx λi d=>D.tup [.int (i:Int),d]))) ρ|.zip a b,ρ=>(ev c a ρ).bind λx ρ=>(ev c b ρ).bind λy ρ=>lift ((items x.d).bind λds=>(items y.d).map λB=>.val (.lst ((ds.zip B).map λp=>D.tup [p.1,p.2]))) ρ|.vw x,ρ=>match ρ[x]?with|some (.sJ m)=>.ok (.val (.dm m)) (ρ.set x (.val false (.dm m)))|some (.sO e)=>.ok (.val (.dv (e.map (·.1)) (e.map (·.2)))) (ρ.set x (.val false (.dv (e.map (·.1)) (e.map (·.2)))))|some (.own b ds)=>.ok (.val (.lst ds)) (ρ.set x (.val b (.lst ds)))|some (.val _ d)=>.ok (.val d) ρ|_=>.stuck
noncomputable def evs(c:Call):List P->List Sl->Res (List D)|[],ρ=>.ok [] ρ|a::r,ρ=>(ev c a ρ).bind λx ρ=>(evs c r ρ).bind λxs ρ=>.ok (x.d::xs) ρ
noncomputable def qT(c:Call):List P->List Sl->Res (List Arg)|[],ρ=>.ok [] ρ|a::r,ρ=>match isVar a with|some i=>(lift (pk ρ i) ρ).bind λ_ ρ=>(qT c r ρ).bind λxs ρ=>.ok (.dM i::xs) ρ|none=>(ev c a ρ).bind λx ρ=>(qT c r ρ).bind λxs ρ=>.ok (vg x::xs) ρ
noncomputable def wZ(c:Call):Option P->List Sl->Res Bool|none,ρ=>.ok true ρ|some t,ρ=>dY (ev c t) ρ
end
theorem E1{c i ρ}:ev c (.var i) ρ=match ρ[i]?with|some (.val _ d)=>.ok (.val d) ρ|some (.own b ds)=>.ok (.val (.lst ds)) (ρ.set i (.val b (.lst ds)))|some (.sJ (.k a))=>.ok (.val (.dm (.k a))) (ρ.set i (.val false (.dm (.k a))))|some (.sO a)=>.ok (.val (.dv (a.map (·.1)) (a.map (·.2)))) (ρ.set i (.val false (.dv (a.map (·.1)) (a.map (·.2)))))|_=>.stuck:=(rfl)
theorem E2{c d ρ}:ev c (.con d) ρ=.ok (.val d) ρ:=(rfl)
theorem E3{c w1 d ρ}:ev c (.glob w1 d) ρ=.ok (.val d) ρ:=(rfl)
theorem E4{c o a b ρ}:ev c (.bin o a b) ρ=(gR (isVar a) (ev c a) (isVar b) (ev c b) ρ).bind λe ρ=>lift (sW o e.1 e.2) ρ:=(rfl)
theorem E5{c a ρ}:ev c (.neg a) ρ=(gw (isVar a) (ev c a) ρ).bind λx ρ=>lift (Cg x) ρ:=(rfl)
theorem E6{c a ρ}:ev c (.not a) ρ=(dY (ev c a) ρ).bind λb ρ=>.ok (.val (.bl (!b))) ρ:=(rfl)
theorem E7{c a b ρ}:ev c (.and a b) ρ=(dY (ev c a) ρ).bind λx ρ=>if x then(dY (ev c b) ρ).bind λy ρ=>.ok (.val (.bl y)) ρ else .ok (.val (.bl false)) ρ:=(rfl)
theorem E8{c a b ρ}:ev c (.or a b) ρ=(dY (ev c a) ρ).bind λx ρ=>if x then .ok (.val (.bl true)) ρ else(dY (ev c b) ρ).bind λy ρ=>.ok (.val (.bl y)) ρ:=(rfl)
theorem E9{c o a b ρ}:ev c (.cmp o a b) ρ=(gR (isVar a) (ev c a) (isVar b) (ev c b) ρ).bind λe ρ=>lift (lF o e.1 e.2) ρ:=(rfl)
theorem E10{c o o' a b d ρ}:ev c (.chain o o' a b d) ρ=(gR (isVar a) (ev c a) (isVar b) (ev c b) ρ).bind λe ρ=>(lift (if flat e.2=true then cm o e.1 e.2 else none) ρ).bind λk ρ=>if k then(gw (isVar d) (ev c d) ρ).bind λz ρ=>lift (lF o' e.2 z) ρ else .ok (.val (.bl false)) ρ:=(rfl)
theorem E11{c t a b ρ}:ev c (.Vb t a b) ρ=(dY (ev c t) ρ).bind λk ρ=>if k then(ev c a ρ).bind λr ρ=>.ok (.val r.d) ρ else(ev c b ρ).bind λr ρ=>.ok (.val r.d) ρ:=(rfl)
theorem E12{c as ρ}:ev c (.tup as) ρ=(evs c as ρ).bind λds ρ=>.ok (.val (.tup ds)) ρ:=(rfl)
theorem E13{c as ρ}:ev c (.lst as) ρ=(evs c as ρ).bind λds ρ=>.ok (.own ds) ρ:=(rfl)
theorem E14{c a i ρ}:ev c (.idx a i) ρ=(gR (isVar a) (ev c a) (isVar i) (ev c i) ρ).bind λb ρ=>lift (Ab b.1 b.2) ρ:=(rfl)
theorem E15{c a l h ρ}:ev c (.slice a l h) ρ=match isVar a with|some i=>(lift (pk ρ i) ρ).bind λ_ ρ=>(gw (isVar l) (ev c l) ρ).bind λy ρ=>(gw (isVar h) (ev c h) ρ).bind λz ρ=>(lift (pk ρ i) ρ).bind λx ρ=>lift (JM x (part l y) (part h z)) ρ|none=>(gw none (ev c a) ρ).bind λx ρ=>(gw (isVar l) (ev c l) ρ).bind λy ρ=>(gw (isVar h) (ev c h) ρ).bind λz ρ=>lift (JM x (part l y) (part h z)) ρ:=(rfl)
theorem E16{c f as ρ}:ev c (.call f as) ρ=(qT c as ρ).bind λxs ρ=>iB c f xs ρ:=(rfl)
theorem E17{c b a ρ}:ev c (.blt b [a]) ρ=(gw (isVar a) (ev c a) ρ).bind λx ρ=>lift (blt b [x]) ρ:=(rfl)
theorem E18{c b x y r ρ}:ev c (.blt b (x::y::r)) ρ=(evs c (x::y::r) ρ).bind λds ρ=>lift (blt b ds) ρ:=(rfl)
theorem Ul{c b ρ}:ev c (.blt b []) ρ=(evs c [] ρ).bind λds ρ=>lift (blt b ds) ρ:=(rfl)
theorem E19{c x ρ}:ev c (.pop x) ρ=match ρ[x]?with|some (.own b ds)=>lift (ds.getLast?.map .val) (ρ.set x (.own b ds.dropLast))|_=>.stuck:=(rfl)
theorem E20{c src n is one test elt ρ}:ev c (.comp src n is one test elt) ρ=(srcOf (isVar src) (ev c src) ρ).bind λds a=>if ds.length<=lim then(turns is one (wZ c test) (ev c elt) ds [] (a++replicate n .bG)).bind λxs b=>.ok (.own xs) (bj ρ (isVar src) (b.take a.length))else .stuck:=(rfl)
theorem E21{c a b ρ}:ev c (.xu a b) ρ=(gR (isVar a) (ev c a) (isVar b) (ev c b) ρ).bind λe ρ=>lift ((jF e.1).bind λi=>(jF e.2).bind λj=>if-1000000<=i/\i<=1000000000/\j<=1000000000/\-1000000000<=j then some (.val (.lst ((List.range (j-i).toNat).map λ(k:Nat)=>D.int (i+(k:Int)))))else none) ρ:=(rfl)
theorem E22{c a ρ}:ev c (.Vc a) ρ=(ev c a ρ).bind λr ρ=>lift ((items r.d).map λds=>.val (.lst (ds.mapIdx λi d=>D.tup [.int (i:Int),d]))) ρ:=(rfl)
theorem E23{c a b ρ}:ev c (.zip a b) ρ=(ev c a ρ).bind λx ρ=>(ev c b ρ).bind λy ρ=>lift ((items x.d).bind λds=>(items y.d).map λe=>.val (.lst ((ds.zip e).map λp=>D.tup [p.1,p.2]))) ρ:=(rfl)
theorem E24{c x ρ}:ev c (.vw x) ρ=match ρ[x]?with|some (.sJ m)=>.ok (.val (.dm m)) (ρ.set x (.val false (.dm m)))|some (.sO a)=>.ok (.val (.dv (a.map (·.1)) (a.map (·.2)))) (ρ.set x (.val false (.dv (a.map (·.1)) (a.map (·.2)))))|some (.own b ds)=>.ok (.val (.lst ds)) (ρ.set x (.val b (.lst ds)))|some (.val _ d)=>.ok (.val d) ρ|_=>.stuck:=(rfl)
inductive S where|pass|brk|cont|bad|expr(e:P)|asg(i:Nat)(e:P)|par(i j:Nat)(a b:P)|vC(x:Nat)(i e:P)|app(x:Nat)(e:P)|ret(e:P)|Vd|ifs(c:P)(a b:List S)|gZ(src:P)(i:List Nat)(one:Bool)(body:List S)|whl(c:P)(body:List S)|xF(x:Nat)(e:P)|lq(k:Nat)|Ip(x f:Nat)(as:List P)(k:Nat)(e:P)deriving Inhabited
inductive Fl where|next|brk|cont|ret(r:R)deriving Inhabited
noncomputable def qY:R->Sl|.val d=>.val false d|.own ds=>.own false ds
noncomputable def gM(is:List Nat)(one:Bool)(body:List Sl->Res Fl):List D->List Sl->Res Fl|[],ρ=>.ok .next ρ|d::r,ρ=>match di ρ is one d with|none=>.stuck|some ρ=>(body ρ).bind λa ρ=>match a with|.next=>gM is one body r ρ|.cont=>gM is one body r ρ|.brk=>.ok .next ρ|.ret r=>.ok (.ret r) ρ
noncomputable def lC(a:List Sl->Res Bool)(body:List Sl->Res Fl):Nat->List Sl->Res Fl|0,_=>.stuck|n+1,ρ=>(a ρ).bind λb ρ=>if b then(body ρ).bind λc ρ=>match c with|.next=>lC a body n ρ|.cont=>lC a body n ρ|.brk=>.ok .next ρ|.ret r=>.ok (.ret r) ρ else .ok .next ρ
noncomputable def Nv(is:List Nat)(one:Bool)(b:Ev):List D->List (List D)->List Sl->Res (List (List D))|[],a,ρ=>.ok a ρ|d::r,a,ρ=>match di ρ is one d with|none=>.stuck|some ρ=>(b ρ).bind λx ρ=>match x with|.own ds=>Nv is one b r (a++[ds]) ρ|.val _=>.stuck
noncomputable def rowAt(a:List (List D))(k:Int):Option (List D):=(jr a.length k).bind λr=>a[r]?
noncomputable def ZC(a:List (List D))(k:Int)(f:List D->Option (List D)):Option (List (List D)):=(jr a.length k).bind λr=>(a[r]?).bind λb=>(f b).map λc=>a.set r c
noncomputable def setAt(l:Int)(d:D)(a:List D):Option (List D):=(jr a.length l).map λm=>a.set m d
noncomputable def yw(ρ:List Sl)(x:Nat):Option (List (List D)):=match ρ[x]?with|some (.hold a)=>some a|_=>none
noncomputable def rowK(ρ:List Sl)(x:Nat)(k:D):Option (List D):=(yw ρ x).bind λa=>(jF k).bind λk=>rowAt a k
noncomputable def GK(ρ:List Sl)(x:Nat)(o:Option (List (List D))):Res Fl:=match o with|some a=>.ok .next (ρ.set x (.hold a))|none=>.stuck
noncomputable def rowOne(x r:Nat)(c e f:List Sl->Res D)(ρ:List Sl):Res Fl:=(e ρ).bind λk ρ=>(lift ((yw ρ x).bind λa=>(a[r]?).bind λb=>(jF k).bind λk=>(at' b k).bind jF) ρ).bind λu ρ=>(f ρ).bind λl ρ=>(lift ((yw ρ x).bind λa=>(a[r]?).bind λb=>(jF l).bind λl=>(at' b l).bind jF) ρ).bind λv ρ=>(c ρ).bind λj ρ=>GK ρ x ((yw ρ x).bind λa=>(a[r]?).bind λb=>(jF j).bind λj=>(setAt j (.int (u+v)) b).map λg=>a.set r g)
noncomputable def Og(x y:Nat)(a b c:List Sl->Res D):Nat->Nat->List Sl->Res Fl|0,_,ρ=>.ok .next ρ|m+1,r,ρ=>(lift (put ρ y .bG) ρ).bind λρ _=>(rowOne x r a b c ρ).bind λ_ ρ=>Og x y a b c m (r+1) ρ
noncomputable def qM(is:List Nat)(one:Bool)(body:List Sl->Res Fl)(b:List Sl->Option (Nat×List Sl)):List D->List Sl->Option (Nat×List Sl)|[],_=>none|d::r,ρ=>match di ρ is one d with|none=>none|some ρ=>match b ρ with|some x=>some x|none=>match body ρ with|.ok .next a=>qM is one body b r a|.ok .cont a=>qM is one body b r a|_=>none
noncomputable def pA(a:List Sl->Res Bool)(body:List Sl->Res Fl)(e:List Sl->Option (Nat×List Sl)):Nat->List Sl->Option (Nat×List Sl)|0,_=>none|n+1,ρ=>match a ρ with
   |.ok true c=>match e c with|some x=>some x|none=>match body c with|.ok .next b=>pA a body e n b|.ok .cont b=>pA a body e n b|_=>none
   |_=>none
noncomputable def fH:P->P|.idx a _=>a|.blt .sum [.comp s _ _ _ _ _]=>s|e=>e
noncomputable def arg0:P->P|.call _ (a::_)=>a|e=>e
noncomputable def dz(c:Call)(e:P)(ρ:List Sl):Option (Nat×List Sl):=match fH e with
 |.call f as=>match qT c as ρ with
   |.ok xs b=>match bu b xs []with
     |some args=>match c f args with|.exc k a=>some (k,bR xs a 0 b)|_=>none
     |none=>none
   |_=>none
 |_=>none
mutual
noncomputable def ex(c:Call)(n:Nat):S->List Sl->Res Fl
 |.pass,ρ=>.ok .next ρ|.brk,ρ=>.ok .brk ρ|.cont,ρ=>.ok .cont ρ|.bad,_=>.stuck|.expr e,ρ=>(ev c e ρ).bind λ_ ρ=>.ok .next ρ|.asg i e,ρ=>(ev c e ρ).bind λr ρ=>(lift (put ρ i (qY r)) ρ).bind λg _=>.ok .next g|.par i j a b,ρ=>(ev c a ρ).bind λx ρ=>(ev c b ρ).bind λy ρ=>(lift ((put ρ i (.val false x.d)).bind λρ=>put ρ j (.val false y.d)) ρ).bind λg _=>.ok .next g|.vC x i e,ρ=>(ev c e ρ).bind λr ρ=>(lift (pk ρ x) ρ).bind λ_ ρ=>(gw (isVar i) (ev c i) ρ).bind λk ρ=>match ρ[x]?,k with
   |some (.own b ds),.int k=>match jr ds.length k with|some j=>.ok .next (ρ.set x (.own b (ds.set j r.d)))|none=>.stuck
   |_,_=>.stuck
 |.app x e,ρ=>(lift (Kg ρ x) ρ).bind λ_ ρ=>(ev c e ρ).bind λr ρ=>match ρ[x]?with|some (.own b ds)=>if ds.length<lim then .ok .next (ρ.set x (.own b (ds++[r.d])))else .stuck|_=>.stuck
 |.ret e,ρ=>match isVar e with
   |some i=>match ρ[i]?with|some (.own false ds)=>.ok (.ret (.own ds)) (ρ.set i .bG)|_=>(ev c e ρ).bind λr ρ=>.ok (.ret r) ρ
   |none=>(ev c e ρ).bind λr ρ=>.ok (.ret r) ρ
 |.Vd,ρ=>.ok (.ret (.val .non)) ρ|.ifs t a b,ρ=>(dY (ev c t) ρ).bind λk ρ=>if k then bO c n a ρ else bO c n b ρ|.gZ src is one body,ρ=>(srcOf (isVar src) (ev c src) ρ).bind λds h=>(gM is one (bO c n body) ds h).bind λp l=>.ok p (bj ρ (isVar src) l)|.whl t body,ρ=>lC (dY (ev c t)) (bO c n body) n ρ|.xF x e,ρ=>(lift (Kg ρ x) ρ).bind λ_ ρ=>(ev c e ρ).bind λr ρ=>match ρ[x]?,r with|some (.own b ds),.own o=>if ds.length+o.length<=lim then .ok .next (ρ.set x (.own b (ds++o)))else .stuck|_,_=>.stuck
 |.lq _,_=>.stuck|.Ip x f as k e,ρ=>match ev c (.call f as) ρ with|.ok r m=>(lift (put m x (qY r)) m).bind λg _=>.ok .next g|_=>match dz c (.call f as) ρ with|some (q,g)=>if q=k then(ev c e g).bind λr ρ=>.ok (.ret r) ρ else .stuck|none=>.stuck
noncomputable def bO(c:Call)(n:Nat):List S->List Sl->Res Fl|[],ρ=>.ok .next ρ|s::r,ρ=>(ex c n s ρ).bind λfl ρ=>match fl with|.next=>bO c n r ρ|fl=>.ok fl ρ
noncomputable def lz(c:Call)(n:Nat):S->List Sl->Option (Nat×List Sl)
 |.lq k,ρ=>some (k,ρ)|.ifs t a b,ρ=>match dY (ev c t) ρ with|.ok x f=>if x then bI c n a f else bI c n b f|_=>none
 |.gZ src is one body,ρ=>match dz c src ρ with|some x=>some x|none=>match srcOf (isVar src) (ev c src) ρ with|.ok ds f=>(qM is one (bO c n body) (bI c n body) ds f).map λx=>(x.1,bj ρ (isVar src) x.2)|_=>none
 |.ret e,ρ=>dz c e ρ|.asg _ e,ρ=>dz c e ρ|.expr e,ρ=>dz c e ρ|.whl t body,ρ=>pA (dY (ev c t)) (bO c n body) (bI c n body) n ρ|_,_=>none
noncomputable def bI(c:Call)(n:Nat):List S->List Sl->Option (Nat×List Sl)|[],_=>none|s::r,ρ=>match lz c n s ρ with|some x=>some x|none=>match ex c n s ρ with|.ok .next a=>bI c n r a|_=>none
end
theorem X1{c n ρ}:ex c n (.pass) ρ=.ok .next ρ:=(rfl)
theorem X2{c n ρ}:ex c n (.brk) ρ=.ok .brk ρ:=(rfl)
theorem X3{c n ρ}:ex c n (.cont) ρ=.ok .cont ρ:=(rfl)
theorem X4{c n ρ}:ex c n (.bad) ρ=.stuck:=(rfl)
theorem X5{c n e ρ}:ex c n (.expr e) ρ=(ev c e ρ).bind λ_ ρ=>.ok .next ρ:=(rfl)
theorem X6{c n i e ρ}:ex c n (.asg i e) ρ=(ev c e ρ).bind λr ρ=>(lift (put ρ i (qY r)) ρ).bind λa _=>.ok .next a:=(rfl)
theorem X7{c n i j a b ρ}:ex c n (.par i j a b) ρ=(ev c a ρ).bind λx ρ=>(ev c b ρ).bind λy ρ=>(lift ((put ρ i (.val false x.d)).bind λρ=>put ρ j (.val false y.d)) ρ).bind λe _=>.ok .next e:=(rfl)
theorem X8{c n x i e ρ}:ex c n (.vC x i e) ρ=(ev c e ρ).bind λr ρ=>(lift (pk ρ x) ρ).bind λ_ ρ=>(gw (isVar i) (ev c i) ρ).bind λk ρ=>match ρ[x]?,k with
 |some (.own b ds),.int k=>match jr ds.length k with|some j=>.ok .next (ρ.set x (.own b (ds.set j r.d)))|none=>.stuck
 |_,_=>.stuck:=(rfl)
theorem X9{c n x e ρ}:ex c n (.app x e) ρ=(lift (Kg ρ x) ρ).bind λ_ ρ=>(ev c e ρ).bind λr ρ=>match ρ[x]?with|some (.own b ds)=>if ds.length<lim then .ok .next (ρ.set x (.own b (ds++[r.d])))else .stuck|_=>.stuck:=(rfl)
theorem V8{c n e ρ}:ex c n (.ret e) ρ=match isVar e with
 |some i=>match ρ[i]?with|some (.own false ds)=>.ok (.ret (.own ds)) (ρ.set i .bG)|_=>(ev c e ρ).bind λr ρ=>.ok (.ret r) ρ
 |none=>(ev c e ρ).bind λr ρ=>.ok (.ret r) ρ:=(rfl)
theorem X11{c n ρ}:ex c n (.Vd) ρ=.ok (.ret (.val .non)) ρ:=(rfl)
theorem Yp{c n t a b ρ}:ex c n (.ifs t a b) ρ=(dY (ev c t) ρ).bind λk ρ=>if k then bO c n a ρ else bO c n b ρ:=(rfl)
theorem XF{c n src is one body ρ}:ex c n (.gZ src is one body) ρ=(srcOf (isVar src) (ev c src) ρ).bind λds a=>(gM is one (bO c n body) ds a).bind λe b=>.ok e (bj ρ (isVar src) b):=(rfl)
theorem X14{c n t body ρ}:ex c n (.whl t body) ρ=lC (dY (ev c t)) (bO c n body) n ρ:=(rfl)
theorem YH{c n x e ρ}:ex c n (.xF x e) ρ=(lift (Kg ρ x) ρ).bind λ_ ρ=>(ev c e ρ).bind λr ρ=>match ρ[x]?,r with|some (.own b ds),.own a=>if ds.length+a.length<=lim then .ok .next (ρ.set x (.own b (ds++a)))else .stuck|_,_=>.stuck:=(rfl)
theorem X16{c n w1 ρ}:ex c n (.lq w1) ρ=.stuck:=(rfl)
theorem X17{c n x f as k e ρ}:ex c n (.Ip x f as k e) ρ=match ev c (.call f as) ρ with|.ok r b=>(lift (put b x (qY r)) b).bind λa _=>.ok .next a|_=>match dz c (.call f as) ρ with|some (g,a)=>if g=k then(ev c e a).bind λr ρ=>.ok (.ret r) ρ else .stuck|none=>.stuck:=(rfl)
structure Fd where
 np:Nat
 nn:Nat
 body:List S deriving Inhabited
noncomputable abbrev Tab:=Nat->Option Fd
noncomputable def enter(c:Call)(n:Nat)(d:Fd)(args:List Sl):Res R:=if args.length=d.np/\d.np<=d.nn then match bO c n d.body (args++replicate (d.nn-d.np) .bG)with|.ok .next ρ=>.ok (.val .non) (ρ.take d.np)|.ok (.ret r) ρ=>.ok r (ρ.take d.np)|_=>match bI c n d.body (args++replicate (d.nn-d.np) .bG)with|some (k,ρ)=>.exc k (ρ.take d.np)|none=>.stuck else .stuck
noncomputable def run(Γ:Tab)(w:Nat):Nat->Call|0,_,_=>.stuck|n+1,f,args=>match Γ f with|some d=>enter (run Γ w n) w d args|none=>.stuck
end HH
end
section
namespace HH
open PySem L2
variable{v:V}{vs:List V}{ρ:List Sl}{σ:St}
noncomputable def Dc.ho:Dc->HO|.k a=>.dK (a.map λp=>(Sum.inl p.1,V.int p.2))|.t a=>.dT (a.map λp=>(p.1.map Sum.inl,V.int p.2))
noncomputable def Eo(a:List Int)(vs:List V):HO:=.dK ((a.zip vs).map λp=>(Sum.inl p.1,p.2))
section
variable(K:PySem.W.Frag)
mutual
def Rep(F:Hp):V->D->Prop|v,.non=>v=.non|v,.bl b=>v=.bl b|v,.int i=>v=.int i|v,.str x=>v=.str x|v,.tup ds=>∃a xs,v=.ref a/\gA K F a xs/\aD F xs ds|v,.lst ds=>∃a xs,v=.ref a/\dJ K F a xs/\aD F xs ds|v,.dm m=>∃a o,v=.ref a/\F a=some (.fM o m.ho)|v,.dv c ds=>∃a o vs,v=.ref a/\F a=some (.fM o (Eo c vs))/\aD F vs ds/\c.length=ds.length
def aD(F:Hp):List V->List D->Prop|vs,[]=>vs=[]|vs,d::ds=>∃v r,vs=v::r/\Rep F v d/\aD F r ds
end
end
section
variable{K:PySem.W.Frag}{F F' H H':Hp}
theorem aM.gY{a:Addr}{xs:List V}(e:aM H H')(h:gA K H a xs):gA K H' a xs:=by
 rcases h with(h|⟨o,h⟩)|h;.exact .inl (.inl (e _ _ h))
 .exact .inl (.inr ⟨o,e _ _ h⟩)
 .exact .inr h
mutual
theorem Rep.mono(e:aM F F'):∀{d:D}{v:V},Rep K F v d->Rep K F' v d|.non,_,h=>by rw[Rep]at h ⊢;exact h|.bl _,_,h=>by rw[Rep]at h ⊢;exact h|.int _,_,h=>by rw[Rep]at h ⊢;exact h|.str _,_,h=>by rw[Rep]at h ⊢;exact h|.tup ds,_,h=>by rw[Rep]at h ⊢;obtain⟨a,xs,rfl,hs,r⟩:=h;exact⟨a,xs,rfl,aM.gY e hs,aD.mono e r⟩|.lst ds,_,h=>by rw[Rep]at h ⊢;obtain⟨a,xs,rfl,hs,r⟩:=h;exact⟨a,xs,rfl,e.seq hs,aD.mono e r⟩|.dm m,_,h=>by rw[Rep]at h ⊢;obtain⟨a,o,rfl,hs⟩:=h;exact⟨a,o,rfl,e _ _ hs⟩|.dv c ds,_,h=>by rw[Rep]at h ⊢;obtain⟨a,o,vs,rfl,hs,r,b⟩:=h;exact⟨a,o,vs,rfl,e _ _ hs,aD.mono e r,b⟩theorem aD.mono(e:aM F F'):∀{ds:List D}{vs:List V},aD K F vs ds->aD K F' vs ds|[],_,h=>by rw[aD]at h ⊢;exact h|d::ds,_,h=>by rw[aD]at h ⊢;obtain⟨v,r,rfl,h1,a⟩:=h;exact⟨v,r,rfl,Rep.mono e h1,aD.mono e a⟩end
theorem aD.nil:aD K F [] []:=by rw[aD]
theorem aD.cons{d:D}{ds:List D}(h:Rep K F v d)(t:aD K F vs ds):aD K F (v::vs) (d::ds):=by rw[aD];exact⟨v,vs,rfl,h,t⟩
theorem aD.cB{d:D}{ds:List D}(h:aD K F vs (d::ds)):∃v r,vs=v::r/\Rep K F v d/\aD K F r ds:=by rw[aD]at h;exact h
theorem aD.fX(h:aD K F vs []):vs=[]:=by rw[aD]at h;exact h
theorem aD.length:∀{ds:List D}{vs:List V},aD K F vs ds->vs.length=ds.length|[],_,h=>by rw[h.fX];rfl|d::ds,_,h=>by obtain⟨v,r,rfl,_,t⟩:=h.cB;simp[aD.length t]
theorem aD.get:∀{ds:List D}{vs:List V}{i:Nat}{d:D},aD K F vs ds->ds[i]?=some d->∃v,vs[i]?=some v/\Rep K F v d|[],_,_,_,h,e=>by simp at e|d::ds,_,0,_,h,e=>by obtain⟨v,r,rfl,h1,t⟩:=h.cB;simp at e;subst e;exact⟨v,rfl,h1⟩|d::ds,_,i+1,_,h,e=>by obtain⟨v,r,rfl,_,t⟩:=h.cB;simp at e;obtain⟨w,a,b⟩:=t.get e;exact⟨w,by simpa using a,b⟩
theorem aD.append:∀{ds a:List D}{vs b:List V},aD K F vs ds->aD K F b a->aD K F (vs++b) (ds++a)|[],_,_,_,h,h'=>by rw[h.fX];exact h'|d::ds,_,_,_,h,h'=>by obtain⟨v,r,rfl,h1,t⟩:=h.cB;exact .cons h1 (t.append h')
theorem aD.set{v:V}{d:D}(hr:Rep K F v d):∀{ds:List D}{vs:List V}(i:Nat),aD K F vs ds->aD K F (vs.set i v) (ds.set i d)|[],_,_,h=>by rw[h.fX];exact .nil|_::_,_,0,h=>by obtain⟨w,r,rfl,h1,t⟩:=h.cB;exact .cons hr t|_::_,_,i+1,h=>by obtain⟨w,r,rfl,h1,t⟩:=h.cB;exact .cons h1 (aD.set hr i t)
theorem aD.take:∀{ds:List D}{vs:List V}(n:Nat),aD K F vs ds->aD K F (vs.take n) (ds.take n)|[],_,n,h=>by rw[h.fX];simpa using aD.nil|_::_,_,0,h=>.nil|_::_,_,n+1,h=>by obtain⟨w,r,rfl,h1,t⟩:=h.cB;exact .cons h1 (t.take n)
theorem aD.drop:∀{ds:List D}{vs:List V}(n:Nat),aD K F vs ds->aD K F (vs.drop n) (ds.drop n)|[],_,n,h=>by rw[h.fX];simpa using aD.nil|_::_,_,0,h=>h|_::_,_,n+1,h=>by obtain⟨w,r,rfl,h1,t⟩:=h.cB;exact t.drop n
theorem aD.rep{ds:List D}{vs:List V}(h:aD K F vs ds):∀n,aD K F (replicate n vs).flatten (replicate n ds).flatten|0=>by simpa using aD.nil|n+1=>by simpa[replicate_succ]using h.append (aD.rep h n)
inductive Oc where|l(ds:List D)|d(m:Dc)|v(kvs:List (Int×D))
noncomputable def lst?:Sl->Option Oc|.own _ ds=>some (.l ds)|.lent ds=>some (.l ds)|.sJ m=>some (.d m)|.sO a=>some (.v a)|_=>none
def pN(K:PySem.W.Frag)(F:Hp)(o:HO):Oc->Prop|.l ds=>∃xs,o=.lst xs/\aD K F xs ds|.d m=>o=m.ho|.v a=>∃vs,o=Eo (a.map (·.1)) vs/\aD K F vs (a.map (·.2))
theorem pN.mono{o:HO}{x:Oc}(e:aM F F')(h:pN K F o x):pN K F' o x:=by cases x with|l ds=>obtain⟨xs,a,h⟩:=h;exact⟨xs,a,h.mono e⟩|d m=>exact h|v b=>obtain⟨xs,a,h⟩:=h;exact⟨xs,a,h.mono e⟩
def bJ(ρ:List Sl)(σ:St)(i:Nat)(a:Addr):Prop:=(∃s ds,ρ[i]?=some s/\lst? s=some ds)/\σ[i]?=some (some (V.ref a))
def Own(ρ:List Sl)(σ:St)(a:Addr):Prop:=∃i,bJ ρ σ i a
structure GS(K:PySem.W.Frag)(F:Hp)(ρ:List Sl)(σ:St)(H:Hp):Prop where
 sub:aM F H
 len:ρ.length=σ.length
 val:∀(i:Nat)(b:Bool)(d:D),ρ[i]?=some (Sl.val b d)->∃v:V,σ[i]?=some (some v)/\Rep K F v d
 own:∀(i:Nat)(s:Sl)(ds:Oc),ρ[i]?=some s->lst? s=some ds->∃(a:Addr)(xs:HO),σ[i]?=some (some (V.ref a))/\H a=some xs/\F a=none/\pN K F xs ds
 dis:∀(i j:Nat)(a:Addr),bJ ρ σ i a->bJ ρ σ j a->i=j
theorem GS.oA(g:GS K F ρ σ H)(i:Nat)(s:Sl)(ds:List D)(e:ρ[i]?=some s)(b:lst? s=some (.l ds)):∃(a:Addr)(xs:List V),σ[i]?=some (some (V.ref a))/\H a=some (.lst xs)/\F a=none/\aD K F xs ds:=by obtain⟨a,o,h1,c,f,xs,rfl,h⟩:=g.own i s (.l ds) e b;exact⟨a,xs,h1,c,f,h⟩
noncomputable def Em:Sl->Bool|.val b _=>b|.own b _=>b|.lent _=>true|.bG=>false|.sJ _=>false|.sO _=>false|.hold _=>true
def kW:Sl->Sl->Prop|.val true d,s=>s=.val true d|.own true _,s=>(∃ds,s=.own true ds)\/∃d,s=.val true d|.lent ds,s=>s=.lent ds|.hold ds,s=>s=.hold ds|_,_=>True
theorem kW.refl(s:Sl):kW s s:=by unfold kW;split<;>first|rfl|exact .inl ⟨_,rfl⟩|trivial
theorem kW.Em{s a:Sl}(h:kW s a)(l:Em s=true):HH.Em a=true:=by cases s with
 |bG=>cases l|sJ _=>cases l|sO _=>cases l|val b d=>cases b with|true=>cases h;rfl|false=>cases l
 |own b d=>cases b with|true=>rcases h with⟨_,rfl⟩|⟨_,rfl⟩<;>rfl|false=>cases l
 |lent d=>cases h;rfl|hold d=>cases h;rfl
theorem kW.trans{s c a:Sl}(l:HH.Em s=true)(h:kW s c)(h':kW c a):kW s a:=by cases s with
 |bG=>cases l|sJ _=>cases l|sO _=>cases l|val b d=>cases b with|true=>cases h;exact h'|false=>cases l
 |own b d=>cases b with
   | true => rcases h with⟨_,rfl⟩|⟨d,rfl⟩;.exact h'
             .exact .inr ⟨d,h'⟩|false=>cases l
 |lent d=>cases h;exact h'|hold d=>cases h;exact h'
noncomputable def nt:Option HO->Option HO|some (.tup _)=>none|o=>o
theorem mK{o:Option HO}(h:o=none):nt o=none:=by rw[h];rfl
theorem Bv{H:Hp}{b:Addr}{xs:List V}(h:H b=some (.lst xs))(z:nt (H b)=none):False:=by rw[h]at z;cases z
theorem BP{o:HO}{x:Oc}(h:pN K F o x)(z:nt (some o)=none):False:=by cases x with|l ds=>obtain⟨xs,rfl,_⟩:=h;cases z|d m=>cases m<;>(cases(show o=_ from h);cases z)|v a=>obtain⟨xs,rfl,_⟩:=h;cases z
structure bK(K:PySem.W.Frag)(F:Hp)(ρ:List Sl)(σ:St)(H:Hp)(F':Hp)(ρ':List Sl)(σ':St)(H':Hp):Prop where
 gs:GS K F' ρ' σ' H'
 cW:aM F F'
 Ax:∀b,F b=none->F' b≠none->Own ρ σ b\/nt (H b)=none
 keep:∀b o,H b=some o->¬ Own ρ σ b->H' b=some o
 Aq:∀b,Own ρ' σ' b->Own ρ σ b\/H b=none
 len:ρ'.length=ρ.length
 lk:∀(i:Nat)(s:Sl),ρ[i]?=some s->Em s=true->σ'[i]?=σ[i]?/\∃s',ρ'[i]?=some s'/\kW s s'
theorem bK.refl{ρ:List Sl}{σ:St}(g:GS K F ρ σ H):bK K F ρ σ H F ρ σ H:=⟨g,aM.refl _,λb h h'=>absurd h h',λ_ _ h _=>h,λ_ h=>.inl h,rfl,λi s h _=>⟨rfl,s,h,.refl s⟩⟩
theorem bK.trans{m r p t:Hp}{ρ f j:List Sl}{σ g k:St}(a:bK K F ρ σ H m f g p)(b:bK K m f g p r j k t):bK K F ρ σ H r j k t:=by
 have back:∀c,Own f g c\/p c=none->Own ρ σ c\/H c=none:=λc h=>by
  rcases h with h|h;.exact a.Aq c h
  . by_cases ho:Own ρ σ c;.exact .inl ho
    .right;cases e:H c with|none=>rfl|some o=>rw[a.keep c o e ho]at h;cases h
 refine⟨b.gs,a.cW.trans b.cW,λc h h'=>?_,λc o h n=>?_,λc h=>back c (b.Aq c h),b.len.trans a.len,λi s h l=>?_⟩
 . by_cases e:m c=none
   . by_cases ho:Own ρ σ c;.exact .inl ho
     . rcases b.Ax c e h' with z|z;.exact(back c (.inl z)).imp id mK
       .right;cases q:H c with|none=>rfl|some o=>rw[a.keep c o q ho]at z;exact z
   .exact a.Ax c h e
 . refine b.keep c o (a.keep c o h n) λh'=>?_;rcases a.Aq c h' with h'|h';.exact n h'
   .rw[h]at h';cases h'
 .obtain⟨u,s1,h1,k1⟩:=a.lk i s h l;obtain⟨w,s2,x,k2⟩:=b.lk i s1 h1 (k1.Em l);exact⟨w.trans u,s2,x,.trans l k1 k2⟩
def cU(K:PySem.W.Frag)(F H:Hp)(v:V)(d:D):Prop:=Rep K F v d\/∃a xs ds,v=.ref a/\H a=some (.lst xs)/\aD K F xs ds/\d=.lst ds
def bW(K:PySem.W.Frag)(F':Hp)(b:List Sl)(c:St)(H':Hp)(ρ:List Sl)(σ:St)(H:Hp)(v:V):R->Prop|.val d=>Rep K F' v d|.own ds=>∃a xs,v=.ref a/\H' a=some (.lst xs)/\F' a=none/\aD K F' xs ds/\¬ Own b c a/\(Own ρ σ a\/H a=none)
theorem aM.dG{F:Hp}{a:Addr}{o:HO}(h:F a=none):aM F (upd F a o):=λb u e=>by
 have:b≠a:=by rintro rfl;rw[h]at e;cases e
 rw[aG this];exact e
theorem bK.fM{c:List Sl}{f:St}{r:R}(s:bK K F ρ σ H F' c f H')(h:bW K F' c f H' ρ σ H v r):∃g,bK K F ρ σ H g c f H'/\aM F' g/\Rep K g v r.d:=by cases r with|val d=>exact⟨F',s,.refl _,h⟩|own ds=>
   obtain⟨a,xs,rfl,h1,w,x,y,z⟩:=h;have k:aM F' (upd F' a (.lst xs)):=aM.dG w;refine⟨upd F' a (.lst xs),⟨⟨λb o e=>?_,s.gs.len,λi b d e=>?_,λi q l e t=>?_,s.gs.dis⟩,s.cW.trans k,λb n u=>?_,s.keep,s.Aq,s.len,s.lk⟩,k,?_⟩
   . by_cases j:b=a;.subst j;rw[bh]at e;cases e;exact h1
     .rw[aG j]at e;exact s.gs.sub b o e
   .obtain⟨v,m,p⟩:=s.gs.val i b d e;exact⟨v,m,p.mono k⟩
   . obtain⟨b,ys,m,p,B,C⟩:=s.gs.own i q l e t;have j:b≠a:=by rintro rfl;exact y ⟨i,⟨q,l,e,t⟩,m⟩
     exact⟨b,ys,m,p,by rw[aG j];exact B,C.mono k⟩
   . by_cases j:b=a;.subst j;exact z.imp id mK
     .rw[aG j]at u;exact s.Ax b n u
   .show Rep K _ _ (.lst ds);rw[Rep];exact⟨a,xs,rfl,dJ.of bh,x.mono k⟩
theorem GS.pk{ρ:List Sl}{σ:St}{i:Nat}{d:D}(g:GS K F ρ σ H)(e:HH.pk ρ i=some d):∃v:V,σ[i]?=some (some v)/\cU K F H v d:=by
 unfold HH.pk at e;split at e;.rename_i b d' h;cases e;obtain⟨v,h1,c⟩:=g.val i b d h;exact⟨v,h1,.inl c⟩
 .rename_i b ds h;cases e;obtain⟨a,xs,h1,c,j,f⟩:=g.oA i _ ds h rfl;exact⟨.ref a,h1,.inr ⟨a,xs,ds,rfl,c,f,rfl⟩⟩
 .rename_i ds h;cases e;obtain⟨a,xs,h1,c,j,f⟩:=g.oA i _ ds h rfl;exact⟨.ref a,h1,.inr ⟨a,xs,ds,rfl,c,f,rfl⟩⟩
 .cases e
structure Ext(F H F' H':Hp):Prop where
 hs:aM H H'
 fs:aM F F'
 sub:aM F' H'
 gr:∀b,F b=none->F' b≠none->nt (H b)=none
theorem Ext.refl(h:aM F H):Ext F H F H:=⟨.refl _,.refl _,h,λ_ a b=>absurd a b⟩
theorem Ext.stp(g:GS K F ρ σ H)(e:Ext F H F' H'):bK K F ρ σ H F' ρ σ H':=by
 refine⟨⟨e.sub,g.len,λi b d h=>?_,λi s ds h h'=>?_,g.dis⟩,e.fs,λb n j=>.inr (e.gr b n j),λb o h _=>e.hs b o h,λ_ h=>.inl h,rfl,λi s h _=>⟨rfl,s,h,.refl s⟩⟩;.obtain⟨v,h1,c⟩:=g.val i b d h;exact⟨v,h1,c.mono e.fs⟩
 .obtain⟨a,xs,h1,c,k,f⟩:=g.own i s ds h h';refine⟨a,xs,h1,e.hs _ _ c,?_,f.mono e.fs⟩;cases q:F' a with|none=>rfl|some o=>have:=e.gr a k (by rw[q];simp);rw[c]at this;exact(BP f this).elim
def bQ(K:PySem.W.Frag)(F' H' H:Hp)(v:V):R->Prop|.val d=>Rep K F' v d|.own ds=>∃a xs,v=.ref a/\H' a=some (.lst xs)/\F' a=none/\aD K F' xs ds/\H a=none
theorem bQ.pF{r:R}(g:GS K F ρ σ H)(h:bQ K F' H' H v r):bW K F' ρ σ H' ρ σ H v r:=by cases r with|val d=>exact h|own ds=>obtain⟨a,xs,rfl,h1,l,m,f⟩:=h;refine⟨a,xs,rfl,h1,l,m,?_,.inr f⟩;rintro⟨i,⟨s,c,e,n⟩,o⟩;obtain⟨b,ys,j,k,_⟩:=g.own i s c e n;rw[o]at j;cases j;rw[f]at k;cases k
theorem bW.later{m j k l:Hp}{c f:List Sl}{g i:St}{r:R}(a:bK K F ρ σ H m c g j)(h:bW K k f i l c g j v r):bW K k f i l ρ σ H v r:=by cases r with|val d=>exact h|own ds=>
   obtain⟨b,xs,rfl,h1,n,p,q,h5⟩:=h;refine⟨b,xs,rfl,h1,n,p,q,?_⟩;rcases h5 with h5|h5;.exact a.Aq b h5
   . by_cases ho:Own ρ σ b;.exact .inl ho
     .right;cases e:H b with|none=>rfl|some o=>rw[a.keep b o e ho]at h5;cases h5
end
end HH
end
section
namespace HH
open PySem L2 PySem.Spec PyProof.Rows
variable{ρ' ρ ρ₀:List Sl}{es:List Expr}{K:PySem.W.Frag}{F H H₀:Hp}{σ:L2.St}{i n:Nat}{x:Str}{v:V}{vs:List V}{op:CmpOp}{as:List Arg}
theorem ak{c e:Type}{x:Res c}{f:c->List Sl->Res e}{b:e}(h:x.bind f=.ok b ρ'):∃a ρ,x=.ok a ρ/\f a ρ=.ok b ρ':=by cases x with|ok a ρ=>exact⟨a,ρ,rfl,h⟩|exc _ _=>cases h|stuck=>cases h
theorem aJ{c:Type}{o:Option c}{a:c}(h:lift o ρ=.ok a ρ'):o=some a/\ρ=ρ':=by cases o with|none=>cases h|some b=>cases h;exact⟨rfl,rfl⟩
theorem map_some{c e:Type}{o:Option c}{f:c->e}{b:e}(h:o.map f=some b):∃a,o=some a/\f a=b:=by cases o with|none=>cases h|some a=>cases h;exact⟨a,rfl,rfl⟩
theorem dC{c e:Type}{o:Option c}{f:c->Option e}{b:e}(h:o.bind f=some b):∃a,o=some a/\f a=some b:=by cases o with|none=>cases h|some a=>exact⟨a,rfl,h⟩
theorem bA{e:Type}{c:Prop}[Decidable c]{a b:e}(h:(if c then some a else none)=some b):c/\a=b:=by
 split at h;.rename_i hc;cases h;exact⟨hc,rfl⟩
 .cases h
section
variable{X:Cx}{c:Call}{e a b:Expr}{p pa pb:P}{pos:Pos}
theorem dZ{t t':TE}(h:PE X e t)(i:∀σ H Q,t' σ H Q->t σ H Q):PE X e t':=λf s σ H Q I q=>h f s σ H Q I (i σ H Q q)
theorem xR{t t':TT}(h:PT X e t)(i:∀σ H Q,t' σ H Q->t σ H Q):PT X e t':=λf s σ H Q I q=>h f s σ H Q I (i σ H Q q)
theorem JH{t t':TT}(h:PW X e t)(i:∀σ H Q,t' σ H Q->t σ H Q):PW X e t':=λg f s σ H Q I q=>h g f s σ H Q I (i σ H Q q)
theorem uM{t t':TA}(h:PA X es t)(i:∀σ H Q,t' σ H Q->t σ H Q):PA X es t':=λpos f s σ H Q I q=>h pos f s σ H Q I (i σ H Q q)
inductive vN(K:PySem.W.Frag)(f:Ev)(σ:L2.St)(H:Hp)(Q:VK):Prop where|mk(F:Hp)(ρ:List Sl)(r:R)(ρ':List Sl)(g:GS K F ρ σ H)(e:f ρ=.ok r ρ')(k:∀v F' H',bK K F ρ σ H F' ρ' σ H'->bW K F' ρ' σ H' ρ σ H v r->Q v H')
inductive Jr(K:PySem.W.Frag)(f:List Sl->Res Bool)(σ:L2.St)(H:Hp)(Q:Bool->Hp->Prop):Prop where|mk(F:Hp)(ρ:List Sl)(b:Bool)(ρ':List Sl)(g:GS K F ρ σ H)(e:f ρ=.ok b ρ')(k:∀F' H',bK K F ρ σ H F' ρ' σ H'->Q b H')
inductive YJ(K:PySem.W.Frag)(f:List Sl->Res (List D))(σ:L2.St)(H:Hp)(Q:List V->Hp->Prop):Prop where|mk(F:Hp)(ρ:List Sl)(ds:List D)(ρ':List Sl)(g:GS K F ρ σ H)(e:f ρ=.ok ds ρ')(k:∀vs F' H',bK K F ρ σ H F' ρ' σ H'->aD K F' vs ds->Q vs H')
structure SX(X:Cx)(c:Call)(e:Expr)(p:P):Prop where ev:PE X e (vN X.K (HH.ev c p))var:∀i,isVar p=some i->PE X e (RD i)
def SA(X:Cx)(c:Call)(es:List Expr)(ps:List P):Prop:=PA X es (YJ X.K (evs c ps))/\ps.length=es.length
theorem SX.gw(h:SX X c e p):∃t,PE X e t/\∀{σ:L2.St}{H F:Hp}{ρ ρ':List Sl}{d:D}{Q:VK},GS X.K F ρ σ H->gw (isVar p) (HH.ev c p) ρ=.ok d ρ'->(∀v j f,bK X.K F ρ σ H j ρ' σ f->cU X.K j f v d->Q v f)->t σ H Q:=by cases hv:isVar p with|none=>refine⟨_,h.ev,λ{σ H F ρ ρ' d Q}g e k=>?_⟩;obtain⟨r,q,l,m⟩:=ak e;cases m;refine⟨F,ρ,r,_,g,l,λv j f s u=>?_⟩;obtain⟨o,w,_,y⟩:=s.fM u;exact k v o f w (.inl y)|some i=>refine⟨_,h.var i hv,λ{σ H F ρ ρ' d Q}g e k=>?_⟩;obtain⟨l,m⟩:=aJ e;subst m;obtain⟨v,h1,z⟩:=g.pk l;exact⟨v,h1,k v F H (.refl g) z⟩
theorem SX.gR(M:SX X c a pa)(U:SX X c b pb):∃N h,PE X a N/\PE X b h/\∀{σ:L2.St}{H F:Hp}{ρ ρ':List Sl}{j:D×D}{R:V->V->Hp->Prop},GS X.K F ρ σ H->gR (isVar pa) (HH.ev c pa) (isVar pb) (HH.ev c pb) ρ=.ok j ρ'->(∀v u w l,bK X.K F ρ σ H w ρ' σ l->cU X.K w l v j.1->cU X.K w l u j.2->R v u l)->N σ H λx z=>h σ z λy B=>R x y B:=by obtain⟨h,m,o⟩:=U.gw;cases hv:isVar pa with|none=>refine⟨_,h,M.ev,m,λ{σ H F ρ ρ' j R}g e k=>?_⟩;obtain⟨x,C,q,e⟩:=ak e;obtain⟨y,G,f,e⟩:=ak e;cases e;obtain⟨r,O,q,I⟩:=ak q;cases I;refine⟨F,ρ,r,_,g,q,λv w l s W=>?_⟩;obtain⟨Q,s1,_,Y⟩:=s.fM W;refine o s1.gs f λu Z B s2 J=>?_;exact k v u Z B (s1.trans s2) (.inl (Y.mono s2.cW)) J|some i=>refine⟨_,h,M.var i hv,m,λ{σ H F ρ ρ' j R}g e k=>?_⟩;obtain⟨x0,ae,I,e⟩:=ak e;obtain⟨L,Ea⟩:=aJ I;subst Ea;obtain⟨y,C,q,e⟩:=ak e;obtain⟨x,G,f,e⟩:=ak e;cases e;have zz:=aJ f;clear f;obtain⟨f,e3⟩:=zz;subst e3;obtain⟨v,h1,_⟩:=g.pk L;refine⟨v,h1,o g q λu Q z s1 J=>?_⟩;obtain⟨v',t,pv⟩:=s1.gs.pk f;rw[h1]at t;cases t;exact k v u Q z s1 pv J
inductive rD(K:PySem.W.Frag)(f:D->D->Option R)(x y:V)(H:Hp)(Q:VK):Prop where|mk(F:Hp)(d e:D)(r:R)(sm:aM F H)(px:cU K F H x d)(py:cU K F H y e)(he:f d e=some r)(k:∀v F' H',Ext F H F' H'->bQ K F' H' H v r->Q v H')
inductive rD1(K:PySem.W.Frag)(f:D->Option R)(x:V)(H:Hp)(Q:VK):Prop where|mk(F:Hp)(d:D)(r:R)(sm:aM F H)(px:cU K F H x d)(he:f d=some r)(k:∀v F' H',Ext F H F' H'->bQ K F' H' H v r->Q v H')
theorem wJ{E:Expr}{f:D->D->Option R}{q:P}(t:∀{m o},PE X a m->PE X b o->PE X E (Qx (rD X.K f) m o))(y:SX X c a pa)(z:SX X c b pb)(B:∀ρ,HH.ev c q ρ=(HH.gR (isVar pa) (HH.ev c pa) (isVar pb) (HH.ev c pb) ρ).bind λj ρ=>lift (f j.1 j.2) ρ)(C:isVar q=none):SX X c E q:=by obtain⟨m,o,h1,G,I⟩:=y.gR z;refine⟨dZ (t h1 G) ?_,λi h=>by rw[C]at h;cases h⟩;rintro σ H Q⟨F,ρ,r,ρ',g,e,k⟩;rw[B]at e;obtain⟨j,J,L,l⟩:=ak e;have M:=aJ l;clear l;obtain⟨l,N⟩:=M;subst N;refine I g L λv u O H' s U W=>⟨O,j.1,j.2,r,s.gs.sub,U,W,l,λw Y Z x rn=>?_⟩;exact k w Y Z (s.trans (x.stp s.gs)) (.later s (rn.pF s.gs))
theorem Mj{E:Expr}{f:D->Option R}{q:P}(m:∀{l},PE X a l->PE X E (tUn (rD1 X.K f) l))(o:SX X c a pa)(t:∀ρ,HH.ev c q ρ=(HH.gw (isVar pa) (HH.ev c pa) ρ).bind λx ρ=>lift (f x) ρ)(u:isVar q=none):SX X c E q:=by obtain⟨l,h1,y⟩:=o.gw;refine⟨dZ (m h1) ?_,λi h=>by rw[u]at h;cases h⟩;rintro σ H Q⟨F,ρ,r,ρ',g,e,k⟩;rw[t]at e;obtain⟨x,z,B,j⟩:=ak e;have C:=aJ j;clear j;obtain⟨j,G⟩:=C;subst G;refine y g B λv I O s J=>⟨I,x,r,s.gs.sub,J,j,λw L M x N=>?_⟩;exact k w L M (s.trans (x.stp s.gs)) (.later s (N.pF s.gs))
theorem GS.freeze{b:Bool}{ds:List D}(g:GS K F ρ σ H)(e:ρ[i]?=some (.own b ds)):∃v C,σ[i]?=some (some v)/\bK K F ρ σ H C (ρ.set i (.val b (.lst ds))) σ H/\Rep K C v (.lst ds):=by
 obtain⟨a,xs,h1,J,L,M⟩:=g.oA i _ ds e rfl;have y:i<ρ.length:=(gW e).1;have z:aM F (upd F a (.lst xs)):=aM.dG L;have G:Rep K (upd F a (.lst xs)) (.ref a) (.lst ds):=by rw[Rep];exact⟨a,xs,rfl,dJ.of bh,M.mono z⟩
 have N:Own ρ σ a:=⟨i,⟨_,_,e,rfl⟩,h1⟩;have r:∀j x,bJ (ρ.set i (.val b (.lst ds))) σ j x->bJ ρ σ j x/\j≠i:=λj x⟨⟨s,h,m,u⟩,B⟩=>by
  by_cases f:j=i;.subst f;rw[getElem?_set_self y]at m;cases m;cases u
  .rw[gk f]at m;exact⟨⟨⟨s,h,m,u⟩,B⟩,f⟩
 refine⟨.ref a,upd F a (.lst xs),h1,⟨⟨λx o q=>?_,by simpa using g.len,λj O d q=>?_,λj s h q w=>?_,λj k x q w=>g.dis j k x (r j x q).1 (r k x w).1⟩,z,λx n I=>?_,λ_ _ q _=>q,λx⟨j,q⟩=>.inl ⟨j,(r j x q).1⟩,by simp,λj s q l=>⟨rfl,?_⟩⟩,G⟩
 . by_cases t:x=a;.subst t;rw[bh]at q;cases q;exact J
   .rw[aG t]at q;exact g.sub x o q
 . by_cases f:j=i;.subst f;rw[getElem?_set_self y]at q;cases q;exact⟨_,h1,G⟩
   .rw[gk f]at q;obtain⟨v,m,u⟩:=g.val j O d q;exact⟨v,m,u.mono z⟩
 . by_cases f:j=i;.subst f;rw[getElem?_set_self y]at q;cases q;cases w
   . rw[gk f]at q;obtain⟨x,ys,m,u,B,Q⟩:=g.own j s h q w;have t:x≠a:=by rintro rfl;exact f (g.dis j i x ⟨⟨s,h,q,w⟩,m⟩ ⟨⟨_,_,e,rfl⟩,h1⟩)
     exact⟨x,ys,m,u,by rw[aG t];exact B,Q.mono z⟩
 . by_cases t:x=a;.subst t;exact .inl N
   .rw[aG t]at I;exact absurd n I
 . by_cases f:j=i;.subst f;rw[e]at q;cases q;refine⟨_,getElem?_set_self y,?_⟩;cases b with|true=>exact .inr ⟨_,rfl⟩|false=>cases l
   .exact⟨s,by rw[gk f];exact q,.refl s⟩
theorem GS.Ii{m:Dc}(g:GS K F ρ σ H)(e:ρ[i]?=some (.sJ m)):∃a,σ[i]?=some (some (.ref a))/\H a=some m.ho/\∀u,bK K F ρ σ H (upd F a (.fM u m.ho)) (ρ.set i (.val false (.dm m))) σ (upd H a (.fM u m.ho))/\Rep K (upd F a (.fM u m.ho)) (.ref a) (.dm m):=by
 obtain⟨a,M,h1,N,O,Q⟩:=g.own i _ _ e rfl;cases(show M=m.ho from Q);have B:i<ρ.length:=(gW e).1;refine⟨a,h1,N,λu=>?_⟩;have C:aM F (upd F a (.fM u m.ho)):=aM.dG O;have I:Rep K (upd F a (.fM u m.ho)) (.ref a) (.dm m):=by rw[Rep];exact⟨a,u,rfl,bh⟩
 have J:Own ρ σ a:=⟨i,⟨_,_,e,rfl⟩,h1⟩;have w:∀j x,bJ (ρ.set i (.val false (.dm m))) σ j x->bJ ρ σ j x/\j≠i:=λj x⟨⟨s,r,t,y⟩,G⟩=>by
  by_cases f:j=i;.subst f;rw[getElem?_set_self B]at t;cases t;cases y
  .rw[gk f]at t;exact⟨⟨⟨s,r,t,y⟩,G⟩,f⟩
 refine⟨⟨⟨λx o q=>?_,by simpa using g.len,λj U d q=>?_,λj s r q z=>?_,λj k x q z=>g.dis j k x (w j x q).1 (w k x z).1⟩,C,λx n L=>?_,λx o q n=>?_,λx⟨j,q⟩=>.inl ⟨j,(w j x q).1⟩,by simp,λj s q l=>⟨rfl,?_⟩⟩,I⟩
 . by_cases h:x=a;.subst h;rw[bh]at q ⊢;exact q
   .rw[aG h]at q ⊢;exact g.sub x o q
 . by_cases f:j=i;.subst f;rw[getElem?_set_self B]at q;cases q;exact⟨_,h1,I⟩
   .rw[gk f]at q;obtain⟨v,t,y⟩:=g.val j U d q;exact⟨v,t,y.mono C⟩
 . by_cases f:j=i;.subst f;rw[getElem?_set_self B]at q;cases q;cases z
   . rw[gk f]at q;obtain⟨x,ys,t,y,G,W⟩:=g.own j s r q z;have h:x≠a:=by rintro rfl;exact f (g.dis j i x ⟨⟨s,r,q,z⟩,t⟩ ⟨⟨_,_,e,rfl⟩,h1⟩)
     exact⟨x,ys,t,by rw[aG h];exact y,by rw[aG h];exact G,W.mono C⟩
 . by_cases h:x=a;.subst h;exact .inl J
   .rw[aG h]at L;exact absurd n L
 . have h:x≠a:=by rintro rfl;exact n J
   rw[aG h];exact q
 . by_cases f:j=i;.subst f;rw[e]at q;cases q;cases l
   .exact⟨s,by rw[gk f];exact q,.refl s⟩
theorem GS.Hh{f:List (Int×D)}(g:GS K F ρ σ H)(e:ρ[i]?=some (.sO f)):∃a vs,σ[i]?=some (some (.ref a))/\H a=some (Eo (f.map (·.1)) vs)/\∀u,bK K F ρ σ H (upd F a (.fM u (Eo (f.map (·.1)) vs))) (ρ.set i (.val false (.dv (f.map (·.1)) (f.map (·.2))))) σ (upd H a (.fM u (Eo (f.map (·.1)) vs)))/\Rep K (upd F a (.fM u (Eo (f.map (·.1)) vs))) (.ref a) (.dv (f.map (·.1)) (f.map (·.2))):=by
 obtain⟨a,Y,h1,M,N,O⟩:=g.own i _ _ e rfl;obtain⟨vs,rfl,Q⟩:=O;have C:i<ρ.length:=(gW e).1;refine⟨a,vs,h1,M,λu=>?_⟩;have B:aM F (upd F a (.fM u (Eo (f.map (·.1)) vs))):=aM.dG N;have I:Rep K (upd F a (.fM u (Eo (f.map (·.1)) vs))) (.ref a) (.dv (f.map (·.1)) (f.map (·.2))):=by rw[Rep];exact⟨a,u,vs,rfl,bh,Q.mono B,by simp⟩
 have J:Own ρ σ a:=⟨i,⟨_,_,e,rfl⟩,h1⟩;have w:∀j x,bJ (ρ.set i (.val false (.dv (f.map (·.1)) (f.map (·.2))))) σ j x->bJ ρ σ j x/\j≠i:=λj x⟨⟨s,r,t,y⟩,G⟩=>by
  by_cases h:j=i;.subst h;rw[getElem?_set_self C]at t;cases t;cases y
  .rw[gk h]at t;exact⟨⟨⟨s,r,t,y⟩,G⟩,h⟩
 refine⟨⟨⟨λx o q=>?_,by simpa using g.len,λj U d q=>?_,λj s r q z=>?_,λj k x q z=>g.dis j k x (w j x q).1 (w k x z).1⟩,B,λx n L=>?_,λx o q n=>?_,λx⟨j,q⟩=>.inl ⟨j,(w j x q).1⟩,by simp,λj s q l=>⟨rfl,?_⟩⟩,I⟩
 . by_cases m:x=a;.subst m;rw[bh]at q ⊢;exact q
   .rw[aG m]at q ⊢;exact g.sub x o q
 . by_cases h:j=i;.subst h;rw[getElem?_set_self C]at q;cases q;exact⟨_,h1,I⟩
   .rw[gk h]at q;obtain⟨v,t,y⟩:=g.val j U d q;exact⟨v,t,y.mono B⟩
 . by_cases h:j=i;.subst h;rw[getElem?_set_self C]at q;cases q;cases z
   . rw[gk h]at q;obtain⟨x,ys,t,y,G,W⟩:=g.own j s r q z;have m:x≠a:=by rintro rfl;exact h (g.dis j i x ⟨⟨s,r,q,z⟩,t⟩ ⟨⟨_,_,e,rfl⟩,h1⟩)
     exact⟨x,ys,t,by rw[aG m];exact y,by rw[aG m];exact G,W.mono B⟩
 . by_cases m:x=a;.subst m;exact .inl J
   .rw[aG m]at L;exact absurd n L
 . have m:x≠a:=by rintro rfl;exact n J
   rw[aG m];exact q
 . by_cases h:j=i;.subst h;rw[e]at q;cases q;cases l
   .exact⟨s,by rw[gk h];exact q,.refl s⟩
theorem Inv.Tt{X:Cx}{f:List (Addr×Obj)}{s:Shared}{a:Addr}{g:List (Key×V)}(I:L2.Inv X f σ H s)(h:H a=some (.dK g)):∃o,L2.Inv X f σ (upd H a (.fM o (.dK g))) s:=by obtain⟨hz,j,vs,r,dd⟩:=(show cI X.prog X.w H s.heap a (.dK g)from I.hok a _ h);obtain⟨o,ho,_⟩:=dd.typeIs;exact⟨o,I.write (h':=s.heap) (t':=s.toks) (by rw[h];exact trivial) (.inl rfl) (λb u _ e=>e) ⟨o,ho⟩ ⟨ho,hz,j,vs,r,dd⟩⟩
theorem Lr(B:X.N[i]?=some x)(C:FJ X.env.scope x)(hd:(x==("__debug__":Str))=false:=by decide)(t:(x==("__classdict__":Str))=false:=by decide):SX X c (.Name x pos) (.var i):=by
 have h:=nF (X:=X) (pos:=pos) B C hd t;refine⟨?_,λj G=>by cases G;exact h⟩;rintro f s σ H Q I⟨F,ρ,r,ρ',g,e,k⟩;rw[HH.E1]at e;split at e;.rename_i b d q;cases e;obtain⟨v,h1,l⟩:=g.val i b d q;exact h f s σ H Q I ⟨v,h1,k v F H (.refl g) l⟩
 .rename_i b ds q;cases e;obtain⟨v,J,h1,l,m⟩:=g.freeze q;exact h f s σ H Q I ⟨v,h1,k v J H l m⟩
 .rename_i w q;cases e;obtain⟨a,h1,l,m⟩:=g.Ii q;refine cJ (h f s σ H (λv y=>v=.ref a/\y=H) I ⟨.ref a,h1,rfl,rfl⟩) λu s1⟨v,H1,I1,r1,e1,e2⟩=>?_;subst e1 e2;obtain⟨o,z⟩:=Inv.Tt I1 l;exact⟨.ref a,_,z,r1,k _ _ _ (m o).1 (m o).2⟩
 .rename_i w q;cases e;obtain⟨a,vs,h1,l,m⟩:=g.Hh q;refine cJ (h f s σ H (λv y=>v=.ref a/\y=H) I ⟨.ref a,h1,rfl,rfl⟩) λu s1⟨v,H1,I1,r1,e1,e2⟩=>?_;subst e1 e2;obtain⟨o,z⟩:=Inv.Tt I1 l;exact⟨.ref a,_,z,r1,k _ _ _ (m o).1 (m o).2⟩
 .cases e
theorem vY{d:D}(h:PE X e (tC v))(hr:∀F,Rep X.K F v d):SX X c e (.con d):=⟨dZ h λσ H Q⟨F,ρ,r,ρ',g,e,k⟩=>by rw[HH.E2]at e;cases e;exact k v F H (.refl g) (hr F),λi h=>by cases h⟩
theorem aa{i j}:SX X c (.Constant (.int i) j pos) (.con (.int i)):=vY Kv λF=>by rw[Rep]
theorem ig{i j}:SX X c (.Constant (.bool i) j pos) (.con (.bl i)):=vY TV λF=>by rw[Rep]
theorem eE{j}:SX X c (.Constant .none j pos) (.con .non):=vY Nz λF=>by rw[Rep]
theorem ir{i:Int}{t:Tok}(f:Gl X x)(j:X.mg x=some (.int i t))(hd:(x==("__debug__":Str))=false:=by decide):SX X c (.Name x pos) (.glob x (.int i)):=⟨dZ (Hq (v:=.int i) f j ⟨t,rfl⟩ hd) λσ H Q⟨F,ρ,r,ρ',g,e,k⟩=>by rw[HH.E3]at e;cases e;exact k (.int i) F H (.refl g) (show Rep X.K F (.int i) (.int i)by rw[Rep]),λi h=>by cases h⟩
theorem cU.int{K:PySem.W.Frag}{F H:Hp}{v:V}{i:Int}(h:cU K F H v (.int i)):v=.int i:=by
 rcases h with h|⟨_,_,_,_,_,_,h⟩;.rw[Rep]at h;exact h
 .cases h
theorem cU.bl{K:PySem.W.Frag}{F H:Hp}{v:V}{i:Bool}(h:cU K F H v (.bl i)):v=.bl i:=by
 rcases h with h|⟨_,_,_,_,_,_,h⟩;.rw[Rep]at h;exact h
 .cases h
theorem cU.str{K:PySem.W.Frag}{F H:Hp}{v:V}{i:Str}(h:cU K F H v (.str i)):v=.str i:=by
 rcases h with h|⟨_,_,_,_,_,_,h⟩;.rw[Rep]at h;exact h
 .cases h
theorem cU.non{K:PySem.W.Frag}{F H:Hp}{v:V}(h:cU K F H v .non):v=.non:=by
 rcases h with h|⟨_,_,_,_,_,_,h⟩;.rw[Rep]at h;exact h
 .cases h
theorem cU.tup{K:PySem.W.Frag}{F H:Hp}{v:V}{ds:List D}(s:aM F H)(h:cU K F H v (.tup ds)):∃a xs,v=.ref a/\gA K H a xs/\aD K F xs ds/\Rep K F v (.tup ds):=by
 rcases h with h|⟨_,_,_,_,_,_,h⟩;.have h':=h;rw[Rep]at h;obtain⟨a,xs,rfl,h1,f⟩:=h;exact⟨a,xs,rfl,aM.gY s h1,f,h'⟩
 .cases h
theorem cU.lst{K:PySem.W.Frag}{F H:Hp}{v:V}{ds:List D}(s:aM F H)(h:cU K F H v (.lst ds)):∃a xs,v=.ref a/\dJ K H a xs/\aD K F xs ds:=by
 rcases h with h|⟨a,xs,es,h1,f,g,h⟩;.rw[Rep]at h;obtain⟨a,xs,rfl,h1,f⟩:=h;exact⟨a,xs,rfl,s.seq h1,f⟩
 .cases h;exact⟨a,xs,h1,dJ.of f,g⟩
theorem Ob{X:Cx}{f:List (Addr×Obj)}{s:Shared}{a:Addr}{j:Obj}{m:Dc}(I:L2.Inv X f σ H s)(h:H a=some (.fM j m.ho)):∃o,s.heap.get? a=some o/\o.cls=.type "dict":=by have z:=(show cI X.prog X.w H s.heap a (.fM j m.ho)from I.hok a _ h).2;cases m with|k g=>obtain⟨_,_,vs,_,d2⟩:=(show cI X.prog X.w H s.heap a (.dK _)from z);exact d2.typeIs|t g=>obtain⟨_,_,xs,_,o,es,q,h1,l,_⟩:=(show cI X.prog X.w H s.heap a (.dT _)from z);exact⟨o,h1,l.1⟩
theorem Ow{X:Cx}{f:List (Addr×Obj)}{s:Shared}{a:Addr}{g:Obj}{j:List Int}(I:L2.Inv X f σ H s)(h:H a=some (.fM g (Eo j vs))):∃o,s.heap.get? a=some o/\o.cls=.type "dict":=by have z:=(show cI X.prog X.w H s.heap a (.fM g (Eo j vs))from I.hok a _ h).2;obtain⟨_,_,vs,_,d2⟩:=(show cI X.prog X.w H s.heap a (.dK _)from z);exact d2.typeIs
theorem cU.items{d:D}{ds:List D}(s:aM F H)(h:cU K F H v d)(e:items d=some ds):∃a xs,v=.ref a/\(dJ K H a xs\/gA K H a xs)/\aD K F xs ds:=by cases d with|tup es=>cases e;obtain⟨a,xs,h1,f,g,_⟩:=h.tup s;exact⟨a,xs,h1,.inr f,g⟩|lst es=>cases e;obtain⟨a,xs,h1,f,g⟩:=h.lst s;exact⟨a,xs,h1,.inl f,g⟩|_=>cases e
theorem bQ.cV{Q:VK}{d:D}(s:aM F H)(r:Rep K F v d)(k:∀v g f,Ext F H g f->bQ K g f H v (.val d)->Q v f):Q v H:=k v F H (.refl s) r
theorem cA(i:Int):Rep K F (.int i) (.int i):=by rw[Rep]
theorem iy(i:Bool):Rep K F (.bl i) (.bl i):=by rw[Rep]
theorem Ke(i:Str):Rep K F (.str i) (.str i):=by rw[Rep]
theorem Ce:Rep K F .non .non:=by rw[Rep]
theorem Ai{Q:VK}{xs:List V}{ds:List D}{p:Addr}(s:aM F H)(r:aD K F xs ds)(f:H p=none)(k:∀v h g,Ext F H h g->bQ K h g H v (.own ds)->Q v g):Q (.ref p) (upd H p (.lst xs)):=by
 have j:F p=none:=by cases q:F p with|none=>rfl|some o=>rw[s p o q]at f;cases f
 exact k _ F _ ⟨aM.dG f,.refl _,s.trans (aM.dG f),λ_ a b=>absurd a b⟩ ⟨p,xs,rfl,bh,j,r,f⟩
theorem zf{Q:VK}{xs:List V}{ds:List D}{p:Addr}(s:aM F H)(r:aD K F xs ds)(g:H p=none)(k:∀v j h,Ext F H j h->bQ K j h H v (.val (.tup ds))->Q v h):Q (.ref p) (upd H p (.tup xs)):=by
 have t:F p=none:=by cases q:F p with|none=>rfl|some o=>rw[s p o q]at g;cases g
 have l:aM F (upd F p (.tup xs)):=aM.dG t;refine k _ (upd F p (.tup xs)) _ ⟨aM.dG g,l,λb o e=>?_,λb n m=>?_⟩ ?_
 . by_cases f:b=p;.subst f;rw[bh]at e ⊢;exact e
   .rw[aG f]at e ⊢;exact s b o e
 . by_cases f:b=p;.subst f;exact mK g
   .rw[aG f]at m;exact absurd n m
 .show Rep K _ _ (.tup ds);rw[Rep];exact⟨p,xs,rfl,gA.of bh,r.mono l⟩
end
theorem pD(k:Int)(t:Tok)(l:Addr)(a:Array Value)(n:Nat)(dd:Option Addr)(b:Array (Option Value)):Meets (Builtin.«int.__rmul__» ⟨[.int k t,.ref l],[]⟩) (λ_ R s=>s.heap.get? l=some ⟨.type "list",dd,.seq a n,b⟩/\R (.ok (.ret Value.notImplemented)) s):=.of_wp λprog w A R s h=>by obtain⟨c,g,d,e,os⟩:=s;obtain⟨f,h⟩:=h;wp_walk;exact⟨_,rfl,h⟩
theorem Am(l:Addr)(a:Array Value)(n:Nat)(dd:Option Addr)(b:Array (Option Value))(k:Int)(t:Tok)(h0:¬(!Builtin.List.listFitsIndex k)=true)(h1:¬a.size*k.toNat>(2^63-1)/8)(c:¬listTooLong (a.size*k.toNat)=true):Meets (Builtin.«list.__mul__» ⟨[.ref l,.int k t],[]⟩) (λ_ R s=>s.heap.get? l=some ⟨.type "list",dd,.seq a n,b⟩/\R (.ok (.ret (Value.ref s.heap.objs.size))) {s with heap:=s.heap.push {cls:=.type "list",data:=.seq (foldl (·++·) #[] (replicate (if a.isEmpty=true then 0 else k.toNat) a))}}):=.of_wp λprog w A R s h=>by obtain⟨f,g,d,j,os⟩:=s;obtain⟨e,h⟩:=h;have hz:=AutoListH.joined_fits c;wp_walk using wpAny_loadPart' e;refine wpAny_ite_false (decide_eq_false (Nat.not_lt.mpr hz)) ?_;wp_walk;exact⟨_,rfl,h⟩
section
variable{X:Cx}{c:Call}{e a b d:Expr}{p pa pb pd:P}{pos:Pos}
theorem GC:dH X (binaryOp .Add) (λx y H Q=>∃l b xs o,x=.ref l/\y=.ref b/\dJ X.K H l xs/\dJ X.K H b o/\xs.length+o.length<=sizeLine/\∀p,H p=none->Q (.ref p) (upd H p (.lst (xs++o)))):=by
 intro B s σ H x y v u Q I J L h;obtain⟨l,b,xs,o,rfl,rfl,M,N,hz,q⟩:=h;cases J;cases L;obtain⟨g,r,O,_⟩:=I.list M;obtain⟨f,C,t,_⟩:=I.list N;obtain⟨⟨cls,dd,data,U⟩,ho,hc,n,hd⟩:=id O.isList;obtain⟨⟨G,w,data2,z⟩,j,k,W,m⟩:=id t.isList;simp only at hc hd k m;subst hc hd k m;have e:g.toArray++f.toArray=(g++f).toArray:=by simp
 refine concat_meets ⟨_,ho,rfl⟩ ⟨_,j,rfl⟩ noFill_list_add seq_list_add PySem.F.slot_list_add PySem.F.entry_list_add (PySem.F.args_list_add_2 _ _) (list_addW l b g.toArray f.toArray n W dd w U z (by simp only[size_toArray];rw[<-r.length,<-C.length];exact hz)) ⟨ho,j,?_⟩;rw[e];exact⟨.ref _,_,I.Nj (t':=s.toks) (r.append C) (by rw[length_append];exact hz),rfl,q _ I.fresh⟩
theorem Cq:dH X (binaryOp .Add) (λx y H Q=>∃a b ys,x=.ref a/\y=.ref b/\gA X.K H a []/\gA X.K H b ys/\Q (.ref b) H):=by intro r s σ H x y v u Q I w z h;obtain⟨a,b,ys,rfl,rfl,B,C,q⟩:=h;cases w;cases z;obtain⟨l,r1,G,_⟩:=I.tuple B;obtain⟨f,O,J,_⟩:=I.tuple C;obtain⟨⟨cls,dd,data,L⟩,ho,hc,n,hd⟩:=id G;obtain⟨⟨t,m,data2,o⟩,g,j,M,k⟩:=id J;simp only at hc hd j k;subst hc hd j k;have N:l=[]:=r1.mR.mpr rfl;subst N;exact concat_meets ⟨_,ho,rfl⟩ ⟨_,g,rfl⟩ noFill_tuple_add seq_tuple_add slot_tuple_add entry_tuple_add (args_tuple_add_2 _ _) (tuple_addW0 a b _ f.toArray n M dd m L o (by simp)) ⟨ho,g,⟨.ref b,H,I,rfl,q⟩⟩
theorem aY:dH X (binaryOp .Add) (rD X.K (sW .add)):=by
 rintro f s σ H x y v u Q I h j⟨F,d,e,r,g,q,t,he,k⟩;replace he:lW d e=some r:=he;unfold lW at he;split at he;.cases he;rw[q.int]at h;rw[t.int]at j;exact Lf f s σ H _ _ v u Q I h j ⟨_,_,rfl,rfl,bQ.cV g (cA _) k⟩
 .rename_i xs ys;obtain⟨o,he⟩:=bA he;subst he;obtain⟨a,vs,rfl,w,l⟩:=q.lst g;obtain⟨b,z,rfl,B,m⟩:=t.lst g;exact GC f s σ H _ _ v u Q I h j ⟨a,b,vs,z,rfl,rfl,w,B,by rw[l.length,m.length];exact o,λp C=>Ai g (l.append m) C k⟩
 . rename_i xs ys;obtain⟨o,he⟩:=bA he;subst he;obtain⟨a,vs,rfl,w,l,J⟩:=q.tup g;obtain⟨b,z,rfl,B,m,L⟩:=t.tup g;by_cases h0:vs=[]
   . subst h0;have G:xs=[]:=by have:=l.length;exact List.eq_nil_of_length_eq_zero this.symm
     subst G;exact Cq f s σ H _ _ v u Q I h j ⟨a,b,z,rfl,rfl,w,B,bQ.cV g L k⟩
   . refine Hl f s σ H _ _ v u Q I h j ⟨a,b,vs,z,rfl,rfl,w,B,h0,by rw[l.length,m.length];exact o,λe=>?_,λ_ p C=>zf g (l.append m) C k⟩;subst e;have G:ys=[]:=by have:=m.length;exact List.eq_nil_of_length_eq_zero this.symm
     subst G;rw[append_nil]at k;exact bQ.cV g J k
 .rename_i M N;obtain⟨o,he⟩:=bA he;subst he;rw[q.str]at h;rw[t.str]at j;exact wy f s σ H _ _ v u Q I h j ⟨_,_,rfl,rfl,o,bQ.cV g (Ke _) k⟩
 .cases he
theorem bB:dH X (binaryOp .Sub) (rD X.K (sW .sub)):=by
 rintro f s σ H x y v u Q I g h⟨F,d,e,r,j,l,m,he,k⟩;replace he:tE d e=some r:=he;unfold tE at he;split at he;.cases he;rw[l.int]at g;rw[m.int]at h;exact Oz f s σ H _ _ v u Q I g h ⟨_,_,rfl,rfl,bQ.cV j (cA _) k⟩
 .cases he
theorem Ho:dH X (binaryOp .Mult) (λx y H Q=>∃l k xs,x=.ref l/\y=.int k/\dJ X.K H l xs/\-(2^63)<=k/\k<2^63/\xs.length*k.toNat<=sizeLine/\∀p,H p=none->Q (.ref p) (upd H p (.lst (replicate k.toNat xs).flatten))):=by
 intro w s σ H x y v u Q I B C h;obtain⟨l,k,xs,rfl,rfl,G,h1,J,hz,q⟩:=h;cases B;obtain⟨t,rfl⟩:=C;obtain⟨f,r,L,_⟩:=I.list G;obtain⟨⟨cls,dd,data,z⟩,ho,hc,n,hd⟩:=id L.isList;simp only at hc hd;subst hc hd;have g:f.toArray.size*k.toNat<=sizeLine:=by rw[size_toArray,<-r.length];exact hz
 have o:¬ f.toArray.size*k.toNat>(2^63-1)/8:=by
  have:(sizeLine:Nat)<=(2^63-1)/8:=by decide
  omega
 have j:foldl (·++·) #[] (replicate (if f.toArray.isEmpty=true then 0 else k.toNat) f.toArray)=(replicate k.toNat f).flatten.toArray:=by
  have f0:∀m:Nat,foldl (·++·) #[] (replicate m f.toArray)=(replicate m f).flatten.toArray:=λm=>by have:=foldl_rep f m [];rw[nil_append]at this;exact this
  rw[f0];cases f with|nil=>simp|cons a r'=>rw[if_neg (by simp)]
 refine wpAny_binaryOp_repeat_ref (T:="list") (U:="int") (by decide) ⟨_,ho,rfl⟩ (λM=>typeIs_int M k t) noFill_list_mul F.fills_int_mul F.slot_int_rmul repeat_list F.slot_int_index.lookup ?_;refine call_meets F.slot_int_rmul (typeIs_int s k t) F.entry_int_rmul (F.args_int_rmul_2 _ _) (pD k t l f.toArray n dd z) ⟨ho,rfl,⟨_,ho,rfl⟩,?_⟩;refine call_meets F.slot_list_mul ⟨_,ho,rfl⟩ F.entry_list_mul (F.args_list_mul_2 _ _) (Am l f.toArray n dd z k t (by rw[fitsIndex_both h1 J];exact Bool.false_ne_true) o (by rw[uU g];exact Bool.false_ne_true)) ⟨ho,?_⟩;rw[j];exact⟨.ref _,_,I.Nj (t':=s.toks) (r.rep k.toNat) (by rw[len_rep,Nat.mul_comm];exact hz),rfl,q _ I.fresh⟩
theorem lN:fillsNumberSlot (.type "tuple") "mul"=pure false:=PySem.fillsNumberSlot_seq (id:="tuple.__mul__") (r:=some (.builtin "tuple.__rmul__")) slot_tuple_mul.lookup (by decide+kernel) PySem.F.slot_tuple_rmul.lookup (by decide+kernel)
theorem rA:seqRepeat? (.type "tuple")=pure (some (.builtin "tuple.__mul__")):=by unfold seqRepeat?;rw[PySem.seqSlot_of (T:="tuple") (name:="__mul__") (id:="tuple.__mul__") slot_tuple_mul.lookup (by decide+kernel),PySem.seqSlot_of (T:="tuple") (name:="__rmul__") (id:="tuple.__rmul__") PySem.F.slot_tuple_rmul.lookup (by decide+kernel)];rfl
theorem nM(k:Int)(t:Tok)(l:Addr)(f:Array Value)(n:Nat)(dd:Option Addr)(j:Array (Option Value)):Meets (Builtin.«int.__rmul__» ⟨[.int k t,.ref l],[]⟩) (λ_ R s=>s.heap.get? l=some ⟨.type "tuple",dd,.seq f n,j⟩/\R (.ok (.ret Value.notImplemented)) s):=.of_wp λprog w A R s h=>by obtain⟨m,g,d,o,os⟩:=s;obtain⟨q,h⟩:=h;wp_walk;exact⟨_,rfl,h⟩
theorem xm(l:Addr)(f:Array Value)(n:Nat)(dd:Option Addr)(r:Array (Option Value))(k:Int)(t:Tok)(h0:0<=k)(h1:k<2^63)(hz:f.size*k.toNat<=sizeLine)(u:0<f.size):Meets (Builtin.«tuple.__mul__» ⟨[.ref l,.int k t],[]⟩) (λ_ R s=>s.heap.get? l=some ⟨.type "tuple",dd,.seq f n,r⟩/\(k=1->R (.ok (.ret (Value.ref l))) s)/\(k≠1->R (.ok (.ret (Value.ref s.heap.objs.size))) {s with heap:=s.heap.push {cls:=.type "tuple",data:=.seq (foldl (·++·) #[] (replicate k.toNat f))}})):=.of_wp λprog w A R s h=>by
  obtain⟨y,g,d,J,os⟩:=s;obtain⟨o,z,B⟩:=h;have j:f.isEmpty=false:=by cases e:f.isEmpty with|false=>rfl|true=>rw[Array.isEmpty_iff_size_eq_zero]at e;omega
  show wpAny _ _ (asIndex (.int k t)>>=_) _ _ _;wp_walk using wpAny_loadPart' o;have C:IsTup y l f:=⟨_,o,rfl,n,rfl⟩;rw[if_neg (by simp;omega)];refine wpAny_bind (PyProof.Rows.tupleItemsOf_ C ?_);try dsimp only
  by_cases m:k=1;.rw[if_pos (by simp[m])];wp_walk using wpAny_loadPart' o;exact⟨_,rfl,z m⟩
  . have q:=B m;rw[if_neg (by simp[j,m])];by_cases G:k=0;.subst G;rw[if_pos (by simp)];unfold tupleExact;refine wpAny_bind (wpAny_newObj_type ?_);exact wpAny_pure ⟨_,rfl,q⟩
    . have L:(f.size:Int)*k<=sizeLine:=by
       have:((f.size*k.toNat:Nat):Int)<=(sizeLine:Nat):=by exact_mod_cast hz
       rw[Int.natCast_mul,show((k.toNat:Nat):Int)=k by omega]at this;exact this
      have I:(sizeLine:Int)<=(2^63-1)/8:=by decide
      rw[if_neg (by simp[j];omega),if_neg (by omega),if_neg (by simp[Builtin.Tuple.tupleTooMany];omega)];unfold tupleExact;refine wpAny_bind (wpAny_newObj_type ?_ ?_);.exact wpAny_pure ⟨_,rfl,q⟩
      .have:=foldl_rep f.toList k.toNat [];rw[nil_append,show f.toList.toArray=f by simp]at this;show(foldl (·++·) #[] (replicate k.toNat f)).size<=sizeLine;rw[show(#[]:Array Value)=([]:List Value).toArray from rfl,this,size_toArray,len_rep,length_toList,Nat.mul_comm];exact hz
theorem Fw:dH X (binaryOp .Mult) (λx y H Q=>∃l k xs,x=.ref l/\y=.int k/\gA X.K H l xs/\0<xs.length/\0<=k/\k<2^63/\xs.length*k.toNat<=sizeLine/\(k=1->Q (.ref l) H)/\(k≠1->∀p,H p=none->Q (.ref p) (upd H p (.tup (replicate k.toNat xs).flatten)))):=by
 intro w s σ H x y v u Q I B C h;obtain⟨l,k,xs,rfl,rfl,G,m,h1,J,hz,L,M⟩:=h;cases B;obtain⟨t,rfl⟩:=C;obtain⟨f,r,N,_⟩:=I.tuple G;obtain⟨⟨cls,dd,data,z⟩,ho,hc,n,hd⟩:=id N;simp only at hc hd;subst hc hd;have g:f.toArray.size*k.toNat<=sizeLine:=by rw[size_toArray,<-r.length];exact hz
 have j:foldl (·++·) #[] (replicate k.toNat f.toArray)=(replicate k.toNat f).flatten.toArray:=by have:=foldl_rep f k.toNat [];rw[nil_append]at this;exact this
 refine wpAny_binaryOp_repeat_ref (T:="tuple") (U:="int") (by decide) ⟨_,ho,rfl⟩ (λO=>typeIs_int O k t) lN F.fills_int_mul F.slot_int_rmul rA F.slot_int_index.lookup ?_;refine call_meets F.slot_int_rmul (typeIs_int s k t) F.entry_int_rmul (F.args_int_rmul_2 _ _) (nM k t l f.toArray n dd z) ⟨ho,rfl,⟨_,ho,rfl⟩,?_⟩;refine call_meets slot_tuple_mul ⟨_,ho,rfl⟩ PySem.F.entry_tuple_mul (PySem.F.args_tuple_mul_2 _ _) (xm l f.toArray n dd z k t h1 J g (by rw[size_toArray,<-r.length];exact m)) ⟨ho,λe=>⟨.ref l,H,I,rfl,L e⟩,λe=>?_⟩;rw[j];refine⟨.ref s.heap.objs.size,_,I.laid (t':=s.toks) (o:=.tup (replicate k.toNat xs).flatten) (λb W q=>gG q) (cD) ?_,rfl,M e _ (I.hok.fresh (cD))⟩;exact⟨by rw[len_rep,Nat.mul_comm];exact hz,_,r.rep k.toNat,IsTup.new _ _⟩
theorem fc:dH X (binaryOp .Mult) (rD X.K (sW .mul)):=by
 rintro f s σ H x y v u Q I m g⟨F,d,e,r,h,q,t,he,k⟩;replace he:nA d e=some r:=he;unfold nA at he;split at he;.obtain⟨hc,he⟩:=bA he;subst he;rw[q.int]at m;rw[t.int]at g;exact Kl f s σ H _ _ v u Q I m g ⟨_,_,rfl,rfl,hc,bQ.cV h (cA _) k⟩
 . rename_i xs i;obtain⟨⟨h1,o,l⟩,he⟩:=bA he;subst he;obtain⟨a,vs,rfl,w,j⟩:=q.lst h;rw[t.int]at g;have z:i<2^63:=by have B:=Nat.le_mul_of_pos_left i.toNat o;have G:i.toNat<=16777216:=le_trans B l;omega
   exact Ho f s σ H _ _ v u Q I m g ⟨a,i,vs,rfl,rfl,w,by omega,z,by rw[j.length];exact l,λp C=>Ai h (j.rep i.toNat) C k⟩
 . rename_i xs i;obtain⟨⟨h1,o,l⟩,he⟩:=bA he;subst he;obtain⟨a,vs,rfl,w,j,J⟩:=q.tup h;rw[t.int]at g;have z:i<2^63:=by have B:=Nat.le_mul_of_pos_left i.toNat o;have G:i.toNat<=16777216:=le_trans B l;omega
   refine Fw f s σ H _ _ v u Q I m g ⟨a,i,vs,rfl,rfl,w,by rw[j.length];exact o,h1,z,by rw[j.length];exact l,λe=>?_,λe p C=>zf h (j.rep i.toNat) C k⟩;subst e;refine bQ.cV h ?_ k;have L:(replicate (1:Int).toNat xs).flatten=xs:=by simp
   rw[L];exact J
 .cases he
theorem uK:dH X (binaryOp .FloorDiv) (rD X.K (sW .fdiv)):=by
 rintro f s σ H x y v u Q I g h⟨F,d,e,r,l,m,o,he,k⟩;replace he:oW d e=some r:=he;unfold oW at he;split at he
 . rename_i i j;obtain⟨⟨h1,w⟩,he⟩:=bA he;subst he;rw[m.int]at g;rw[o.int]at h;obtain⟨t,rfl⟩:=g;obtain⟨t',rfl⟩:=h;have q:j.natAbs.log2<9000:=by
    have:j.natAbs<2^200:=by
     have:(2:Nat)^200=1606938044258990275541962092341162602522202993782792835301376:=by decide
     omega
    have z:=(Nat.log2_lt (by omega)).mpr this;omega
   exact floordiv_int (by omega) (by rw[Int.fdiv_eq_ediv_of_nonneg i (by omega)];exact⟨.int _,H,I.tok _,⟨_,rfl⟩,bQ.cV l (cA _) k⟩) (.inl (PyProof.noPylong_of_log2 q))
 .cases he
theorem fC:dH X (binaryOp .Mod) (rD X.K (sW .mod)):=by
 rintro f s σ H x y v u Q I g h⟨F,d,e,r,j,l,m,he,k⟩;replace he:tQ d e=some r:=he;unfold tQ at he;split at he;.obtain⟨h1,he⟩:=bA he;subst he;rw[l.int]at g;rw[m.int]at h;exact Lh f s σ H _ _ v u Q I g h ⟨_,_,rfl,rfl,h1,bQ.cV j (cA _) k⟩
 .cases he
theorem ni:dH X (binaryOp .Pow) (rD X.K (sW .pow)):=by
 rintro f s σ H x y v u Q I g h⟨F,d,e,r,j,l,m,he,k⟩;replace he:ud d e=some r:=he;unfold ud at he;split at he;.obtain⟨⟨h1,q,o⟩,he⟩:=bA he;subst he;rw[l.int]at g;rw[m.int]at h;exact M7 f s σ H _ _ v u Q I g h ⟨_,_,rfl,rfl,⟨h1,by omega,o⟩,bQ.cV j (cA _) k⟩
 .cases he
theorem az{o:Op}{op:Operator}(ho:dH X (binaryOp op) (rD X.K (sW o)))(f:SX X c a pa)(g:SX X c b pb):SX X c (.BinOp a op b pos) (.bin o pa pb):=wJ (λh1 h=>UW ho h1 h) f g (λρ=>rfl) rfl
theorem dN(j:SX X c a pa):SX X c (.UnaryOp .USub a pos) (.neg pa):=by refine Mj (f:=Cg) (λh1=>Th ?_ h1) j (λρ=>rfl) rfl;rintro g s σ H x v Q I h⟨F,d,r,l,m,he,k⟩;unfold Cg at he;obtain⟨i,o,q⟩:=map_some he;subst q;cases d<;>cases o;rw[m.int]at h;exact Nq g s σ H _ v Q I h ⟨_,rfl,bQ.cV l (cA _) k⟩
theorem yp{f:Int->Int->Bool}(ho:dH X (compareOp op) (Er λi j=>.bl (f i j))):dH X (compareOp op) (rD X.K λx y=>(El f x y).map λk=>.val (.bl k)):=by
 rintro g s σ H x y v u Q I l m⟨F,d,e,r,o,q,w,he,k⟩;obtain⟨t,h,z⟩:=map_some (show(El f d e).map _=some r from he);subst z;unfold El at h;split at h;.cases h;rw[q.int]at l;rw[w.int]at m;exact ho g s σ H _ _ v u Q I l m ⟨_,_,rfl,rfl,bQ.cV o (iy _) k⟩
 .cases h
theorem vR{f:Int->Int->Bool}(ho:dH X (compareOp op) (Er λi j=>.bl (f i j))){o:Cm}(hc:cm o=El f):dH X (compareOp op) (rD X.K (lF o)):=by
 have e:lF o=λx y=>(El f x y).map λk=>.val (.bl k):=by funext x y;unfold lF;rw[hc]
 rw[e];exact yp ho
theorem N7:dH X (compareOp .Lt) (rD X.K λx y=>(El (λi j=>decide (i<j)) x y).map λk=>.val (.bl k)):=yp Tn
theorem rR:dH X (compareOp .LtE) (rD X.K (lF .le)):=vR Ug rfl
theorem cM:dH X (compareOp .Gt) (rD X.K (lF .gt)):=vR Tq rfl
theorem La:dH X (compareOp .GtE) (rD X.K (lF .ge)):=vR Uq rfl
theorem pJ{d:D}(h:cU K F H v d):decide (v=.non)=gf d:=by cases d with
 |non=>rw[h.non];rfl|bl _=>rw[h.bl];rfl|int _=>rw[h.int];rfl|str _=>rw[h.str];rfl|tup _=>
   rcases h with h|⟨a,_,_,rfl,_⟩;.rw[Rep]at h;obtain⟨a,_,rfl,_⟩:=h;rfl
   .rfl|lst _=>
   rcases h with h|⟨a,_,_,rfl,_⟩;.rw[Rep]at h;obtain⟨a,_,rfl,_⟩:=h;rfl
   .rfl|dm _=>
   rcases h with h|⟨a,_,_,rfl,_⟩;.rw[Rep]at h;obtain⟨a,_,rfl,_⟩:=h;rfl
   .rfl|dv _ _=>
   rcases h with h|⟨a,_,_,rfl,_⟩;.rw[Rep]at h;obtain⟨a,_,_,rfl,_⟩:=h;rfl
   .rfl
theorem xr:dH X (compareOp .Is) (rD X.K (lF .Rh)):=by
 rintro f s σ H x y v u Q I h j⟨F,d,e,r,l,m,o,he,k⟩;obtain⟨t,g,q⟩:=map_some (show(QH false d e).map _=some r from he);subst q;unfold QH at g;split at g;.cases g;exact Lg f s σ H x y v u Q I h j ⟨o.non,by rw[pJ m];exact bQ.cV l (iy _) k⟩
 .cases g
theorem ji:dH X (compareOp .IsNot) (rD X.K (lF .sS)):=by
 rintro f s σ H x y v u Q I h j⟨F,d,e,r,l,m,o,he,k⟩;obtain⟨t,g,q⟩:=map_some (show(QH true d e).map _=some r from he);subst q;unfold QH at g;split at g;.cases g;exact Gv f s σ H x y v u Q I h j ⟨o.non,by rw[pJ m];exact bQ.cV l (iy _) k⟩
 .cases g
theorem gJ{o:Cm}(ho:dH X (compareOp op) (rD X.K (lF o)))(f:SX X c a pa)(g:SX X c b pb)(h:behindInMarks op b=false):SX X c (.Compare a [op] [b] pos) (.cmp o pa pb):=wJ (λh1 j=>GD ho h1 j h) f g (λρ=>rfl) rfl
end
section
variable{X:Cx}{c:Call}{e a b d:Expr}{p pa pb pd:P}{pos:Pos}{rest:List Expr}
theorem uL{x:D}{k:Bool}(h:Gr x=some k):x=.bl k:=by cases x<;>cases h;rfl
theorem fV{x:D}{k:Int}(h:jF x=some k):x=.int k:=by cases x<;>cases h;rfl
theorem bW.bool{g j:Hp}{f:L2.St}{r:R}{k:Bool}(h:bW K g ρ' f j ρ σ H v r)(e:r.d=.bl k):v=.bl k:=by cases r with|val d=>cases(show d=.bl k from e);have h:Rep K g v (.bl k):=h;rw[Rep]at h;exact h|own ds=>cases e
def ST(X:Cx)(c:Call)(e:Expr)(p:P):Prop:=PT X e (Jr X.K (dY (HH.ev c p)))
def SW(X:Cx)(c:Call)(e:Expr)(p:P):Prop:=PW X e (Jr X.K (dY (HH.ev c p)))
theorem SW.st(h:SW X c e p):ST X c e p:=PW.pt h
theorem rM{t:TE}{Q:Bool->Hp->Prop}(l:∀Q,vN X.K (HH.ev c p) σ H Q->t σ H Q)(h:Jr X.K (dY (HH.ev c p)) σ H Q):t σ H λx m=>∃k,x=.bl k/\Q k m:=by obtain⟨F,ρ,k,ρ',g,e,q⟩:=h;obtain⟨r,j,o,f⟩:=ak e;have u:=aJ f;clear f;obtain⟨f,w⟩:=u;subst w;exact l _ ⟨F,ρ,r,j,g,o,λv y z s B=>⟨k,B.bool (uL f),q y z s⟩⟩
theorem lJ(h:SX X c e p)(he:∀f,isTrue e X.env f=(do let v<-f;standAt e.pos;holding [v] (truthy v)):=by intro _;rfl):ST X c e p:=xR (KH h.ev he) λσ H Q q=>rM (λ_ z=>z) q
theorem aF{o:Cm}(ho:dH X (compareOp op) (rD X.K (lF o)))(j:SX X c a pa)(l:SX X c b pb)(m:behindInMarks op b=false):ST X c (.Compare a [op] [b] pos) (.cmp o pa pb):=by obtain⟨y,B,h1,C,G⟩:=j.gR l;refine xR (Hv ho h1 C m) λσ H Q q=>rM (t:=Qx (rD X.K (lF o)) y B) (λQ z=>?_) q;obtain⟨F,ρ,r,ρ',g,e,k⟩:=z;rw[HH.E9]at e;obtain⟨h,I,J,f⟩:=ak e;have L:=aJ f;clear f;obtain⟨f,M⟩:=L;subst M;refine G g J λv u N H' s O U=>⟨N,h.1,h.2,r,s.gs.sub,O,U,f,λw W Y x Z=>?_⟩;exact k w W Y (s.trans (x.stp s.gs)) (.later s (Z.pF s.gs))
theorem ik(l:ST X c a pa):ST X c (.UnaryOp .Not a pos) (.not pa):=by
 refine xR (K5 l) ?_;rintro σ H Q⟨F,ρ,k,ρ',g,e,q⟩;unfold dY at e;rw[HH.E6]at e;obtain⟨r,m,o,f⟩:=ak e;obtain⟨h,t,u,w⟩:=ak o;cases w;have y:=aJ f;clear f;obtain⟨f,z⟩:=y;subst z;have f:(!h)=k:=by cases f;rfl
 exact⟨F,ρ,h,_,g,u,λB j s=>by show Q (!h) j;rw[f];exact q B j s⟩
theorem Gx(ρ:List Sl):dY (HH.ev c (.and pa pb)) ρ=(dY (HH.ev c pa) ρ).bind λx ρ=>if x then dY (HH.ev c pb) ρ else .ok false ρ:=by unfold dY;rw[HH.E7];unfold dY;cases HH.ev c pa ρ with|exc _ _=>rfl|stuck=>rfl|ok r f=>simp only[Res.bind];cases h:Gr r.d with|none=>rfl|some k=>cases k with|false=>rfl|true=>simp only[lift,if_true];cases HH.ev c pb f with|exc _ _=>rfl|stuck=>rfl|ok g j=>simp only[Res.bind];cases h2:Gr g.d with|none=>rfl|some k2=>rfl
theorem K9(ρ:List Sl):dY (HH.ev c (.or pa pb)) ρ=(dY (HH.ev c pa) ρ).bind λx ρ=>if x then .ok true ρ else dY (HH.ev c pb) ρ:=by unfold dY;rw[HH.E8];unfold dY;cases HH.ev c pa ρ with|exc _ _=>rfl|stuck=>rfl|ok r f=>simp only[Res.bind];cases h:Gr r.d with|none=>rfl|some k=>cases k with|true=>rfl|false=>simp only[lift,false_eq_true,if_false];cases HH.ev c pb f with|exc _ _=>rfl|stuck=>rfl|ok g j=>simp only[Res.bind];cases h2:Gr g.d with|none=>rfl|some k2=>rfl
theorem eZ(f:ST X c a pa):SW X c (.BoolOp .And [a] pos) pa:=GF f
theorem lD(f:ST X c a pa):SW X c (.BoolOp .Or [a] pos) pa:=Mp f
theorem iW(j:ST X c a pa)(l:SW X c (.BoolOp .And (b::rest) pos) pb):SW X c (.BoolOp .And (a::b::rest) pos) (.and pa pb):=by refine JH (Mq j l) ?_;rintro σ H Q⟨F,ρ,k,ρ',g,e,q⟩;rw[Gx]at e;obtain⟨x,f,m,e⟩:=ak e;refine⟨F,ρ,x,f,g,m,λh o s1=>?_⟩;cases x with|true=>rw[if_pos rfl]at e ⊢;exact⟨h,f,k,ρ',s1.gs,e,λr s s2=>q r s (s1.trans s2)⟩|false=>rw[if_neg Bool.false_ne_true]at e ⊢;cases e;exact q h o s1
theorem nJ(j:ST X c a pa)(l:SW X c (.BoolOp .Or (b::rest) pos) pb):SW X c (.BoolOp .Or (a::b::rest) pos) (.or pa pb):=by refine JH (Uy j l) ?_;rintro σ H Q⟨F,ρ,k,ρ',g,e,q⟩;rw[K9]at e;obtain⟨x,f,m,e⟩:=ak e;refine⟨F,ρ,x,f,g,m,λh o s1=>?_⟩;cases x with|true=>rw[if_pos rfl]at e ⊢;cases e;exact q h o s1|false=>rw[if_neg Bool.false_ne_true]at e ⊢;exact⟨h,f,k,ρ',s1.gs,e,λr s s2=>q r s (s1.trans s2)⟩
theorem rP{op}(f:SX X c a pa):PE X (.BoolOp op [a] pos) (vN X.K (HH.ev c pa)):=Mi f.ev
theorem qF(q:SX X c a pa)(s:PE X (.BoolOp .And (b::rest) pos) (vN X.K (HH.ev c pb))):SX X c (.BoolOp .And (a::b::rest) pos) (.and pa pb):=by refine⟨dZ (KN q.ev s) ?_,λi h=>by cases h⟩;rintro σ H Q⟨F,ρ,r,ρ',g,e,k⟩;rw[HH.E7]at e;obtain⟨x,f,t,e⟩:=ak e;refine rM (c:=c) (λ_ z=>z) (Q:=λx j=>if x=true then vN X.K (HH.ev c pb) σ j Q else Q (.bl false) j) ⟨F,ρ,x,f,g,t,λm j s1=>?_⟩;cases x with|true=>rw[if_pos rfl]at e ⊢;obtain⟨y,u,w,B⟩:=ak e;cases B;obtain⟨C,G,I,l⟩:=ak w;have J:=aJ l;clear l;obtain⟨l,L⟩:=J;subst L;refine⟨m,f,C,_,s1.gs,I,λv o M s2 N=>?_⟩;rw[N.bool (uL l)];exact k _ o M (s1.trans s2) (show Rep X.K o _ _ from iy _)|false=>rw[if_neg Bool.false_ne_true]at e ⊢;cases e;exact k _ m j s1 (show Rep X.K m _ _ from iy _)
theorem Ms(hc:ST X c e p)(y:SX X c a pa)(z:SX X c b pb):SX X c (.IfExp e a b pos) (.Vb p pa pb):=by refine⟨dZ (Ds hc y.ev z.ev) ?_,λi h=>by cases h⟩;rintro σ H Q⟨F,ρ,r,ρ',g,e,k⟩;rw[HH.E11]at e;obtain⟨x,f,B,e⟩:=ak e;refine⟨F,ρ,x,f,g,B,λw G s1=>?_⟩;cases x with|true=>rw[if_pos rfl]at e ⊢;obtain⟨j,l,m,o⟩:=ak e;cases o;refine⟨w,f,j,_,s1.gs,m,λv C q s2 s=>?_⟩;obtain⟨t,s3,_,u⟩:=s2.fM s;exact k v t q (s1.trans s3) u|false=>rw[if_neg Bool.false_ne_true]at e ⊢;obtain⟨j,l,m,o⟩:=ak e;cases o;refine⟨w,f,j,_,s1.gs,m,λv C q s2 s=>?_⟩;obtain⟨t,s3,_,u⟩:=s2.fM s;exact k v t q (s1.trans s3) u
theorem qI:∀{ps:List P}{ρ ρ':List Sl}{ds:List D},evs c ps ρ=.ok ds ρ'->ds.length=ps.length|[],_,_,_,h=>by rw[evs]at h;cases h;rfl|p::ps,_,_,_,h=>by rw[evs]at h;obtain⟨r,f,_,h⟩:=ak h;obtain⟨xs,g,j,h⟩:=ak h;cases h;simp[qI j]
theorem aK:SA X c [] []:=⟨uM fG λσ H Q⟨F,ρ,ds,ρ',g,e,k⟩=>by rw[evs]at e;cases e;exact k [] F H (.refl g) .nil,rfl⟩
theorem yf{ps:List P}(h:SX X c a pa)(hr:SA X c es ps)(hs:starEach (a::es) X.env=(false,eval a X.env)::starEach es X.env:=by rfl):SA X c (a::es) (pa::ps):=by refine⟨uM (cH h.ev hr.1 hs) ?_,by simp[hr.2]⟩;rintro σ H Q⟨F,ρ,ds,ρ',g,e,k⟩;rw[evs]at e;obtain⟨r,f,j,e⟩:=ak e;obtain⟨xs,l,m,e⟩:=ak e;cases e;refine⟨F,ρ,r,f,g,j,λv z B s o=>?_⟩;obtain⟨q,s1,_,t⟩:=s.fM o;refine⟨q,f,xs,_,s1.gs,m,λvs u w s2 y=>?_⟩;exact k _ u w (s1.trans s2) (.cons (t.mono s2.cW) y)
theorem Ext.Fx{h j:Hp}{Q:VK}{xs:List V}{ds:List D}(s:bK K j ρ σ h F ρ' σ H)(r:aD K F xs ds)(k:∀v g f,bK K j ρ σ h g ρ' σ f->bW K g ρ' σ f ρ σ h v (.val (.tup ds))->Q v f)(p:Addr)(l:H p=none):Q (.ref p) (upd H p (.tup xs)):=zf s.gs.sub r l λv g f x m=>k v g f (s.trans (x.stp s.gs)) m
theorem bY{ps:List P}{x1}(h:SA X c es ps)(hz:ps.length<=sizeLine:=by decide):SX X c (.Tuple es x1 pos) (.tup ps):=by refine⟨dZ (Ox h.1) ?_,λi h=>by cases h⟩;rintro σ H Q⟨F,ρ,r,ρ',g,e,k⟩;rw[HH.E12]at e;obtain⟨ds,l,f,e⟩:=ak e;cases e;exact⟨F,ρ,ds,_,g,f,λvs o q s j=>⟨by rw[j.length,qI f];exact hz,λp m=>Ext.Fx s j k p m⟩⟩
theorem cN{ps:List P}(h:SA X c es ps)(hz:ps.length<=sizeLine:=by decide):SX X c (.List es pos) (.lst ps):=by refine⟨dZ (Kc h.1) ?_,λi h=>by cases h⟩;rintro σ H Q⟨F,ρ,r,ρ',g,e,k⟩;rw[HH.E13]at e;obtain⟨ds,l,f,e⟩:=ak e;cases e;exact⟨F,ρ,ds,_,g,f,λvs u w s j=>⟨by rw[j.length,qI f];exact hz,λp m=>Ai s.gs.sub j m λv o q x t=>k v o q (s.trans (x.stp s.gs)) (.later s (t.pF s.gs))⟩⟩
theorem Ml{ds:List D}{i:Int}{d:D}(h:at' ds i=some d):∃j,L2.jr ds.length i=some j/\ds[j]?=some d:=dC h
theorem Zf:V3 X (rD X.K Ab):=by
 rintro f slice g s σ H x y v u Q I o l⟨F,d,e,r,m,B,C,he,k⟩hs;unfold Ab at he;obtain⟨ds,G,he⟩:=dC he;obtain⟨i,J,he⟩:=dC he;obtain⟨z,L,he⟩:=map_some he;subst he;cases fV J;rw[C.int]at l;obtain⟨p,xs,rfl,hq,q⟩:=B.items m G;obtain⟨j,h1,M⟩:=Ml L;obtain⟨w,N,t⟩:=q.get M;have h:Ra xs i=some w:=by unfold Ra;rw[q.length,h1];exact N
 rcases hq with hq|hq;.exact HW f slice g s σ H _ _ v u Q I o l ⟨p,xs,i,w,rfl,rfl,hq,h,bQ.cV m t k⟩ hs
 .exact Nm f slice g s σ H _ _ v u Q I o l ⟨p,xs,i,w,rfl,rfl,hq,h,bQ.cV m t k⟩ hs
theorem aj(g:SX X c a pa)(h:SX X c b pb)(hs:xT b:=by intro _ _;rfl):SX X c (.Subscript a b pos) (.idx pa pb):=wJ (f:=Ab) (λh1 j=>SJ Zf h1 j hs) g h (λρ=>rfl) rfl
def NP(K:PySem.W.Frag)(f:D->Option R):List V->Hp->VK->Prop:=λxs H Q=>∃x,xs=[x]/\rD1 K f x H Q
theorem pX{E:Expr}{f:D->Option R}{q:P}(l:∀{t},PA X [a] t->PE X E (Uc (NP X.K f) t))(m:SX X c a pa)(o:∀ρ,HH.ev c q ρ=(HH.gw (isVar pa) (HH.ev c pa) ρ).bind λx ρ=>lift (f x) ρ)(u:isVar q=none)(hs:starEach [a] X.env=(false,eval a X.env)::starEach [] X.env:=by rfl):SX X c E q:=by obtain⟨O,h1,y⟩:=m.gw;refine⟨dZ (l (cH h1 fG hs)) ?_,λi h=>by rw[u]at h;cases h⟩;rintro σ H Q⟨F,ρ,r,ρ',g,e,k⟩;rw[o]at e;obtain⟨x,z,B,j⟩:=ak e;have C:=aJ j;clear j;obtain⟨j,G⟩:=C;subst G;refine y g B λv I U s J=>⟨v,rfl,I,x,r,s.gs.sub,J,j,λw L M x N=>?_⟩;exact k w L M (s.trans (x.stp s.gs)) (.later s (N.pF s.gs))
theorem Sg:fP X (.builtin "len") (NP X.K λx=>blt .len [x]):=by rintro f s σ H xs h Q I r⟨x,j,F,d,r',g,l,he,k⟩;obtain⟨ds,m,he⟩:=map_some (show(items d).map _=some r' from he);subst he;obtain⟨p,ys,rfl,o,q⟩:=l.items g m;exact sy f s σ H xs h Q I r ⟨p,ys,j,o,by rw[q.length];exact bQ.cV g (cA _) k⟩
theorem Gg:fP X (.type "tuple") (NP X.K λx=>blt .tuple [x]):=by rintro f s σ H xs m Q I r⟨x,o,F,d,r',g,q,he,k⟩;obtain⟨ds,h,he⟩:=map_some (show(items d).map _=some r' from he);subst he;cases d with|tup es=>cases h;obtain⟨a,ys,rfl,j,t,rt⟩:=q.tup g;exact jt f s σ H xs m Q I r ⟨a,ys,o,.inr ⟨j,bQ.cV g rt k⟩⟩|lst es=>cases h;obtain⟨a,ys,rfl,j,t⟩:=q.lst g;exact jt f s σ H xs m Q I r ⟨a,ys,o,.inl ⟨j,λl u=>zf g t u k⟩⟩|_=>cases h
theorem cL{p':Pos}(f:x="len")(g:Gl X x)(j:X.mg x=none)(k:SX X c a pa)(hs:starEach [a] X.env=(false,eval a X.env)::starEach [] X.env:=by rfl):SX X c (.Call (.Name x p') [a] [] pos) (.blt .len [pa]):=by subst f;exact pX (λh=>fW Sg g j PySem.boot_len h (he:=hs)) k (λρ=>rfl) rfl hs
theorem iD{p':Pos}(f:x="tuple")(g:Gl X x)(j:X.mg x=none)(k:SX X c a pa)(hs:starEach [a] X.env=(false,eval a X.env)::starEach [] X.env:=by rfl):SX X c (.Call (.Name x p') [a] [] pos) (.blt .tuple [pa]):=by subst f;exact pX (λh=>Ag Gg g j (by decide+kernel) h (he:=hs)) k (λρ=>rfl) rfl hs
end
def Ey(K:PySem.W.Frag)(np:Nat)(f:List Sl->Res R):Sp:=λvs H Q _=>vs.length=np/\∃F args r a,GS K F args (vs.map some) H/\f args=.ok r a/\∀v e b c,bK K F args (vs.map some) H e a b c->bW K e a b c args (vs.map some) H v r->Q v c
section
variable{K:PySem.W.Frag}
def wz(K:PySem.W.Frag)(F:Hp)(ρ:List Sl)(σ:L2.St)(H:Hp)(ρ₀:List Sl)(H₀:Hp)(v:V):Arg->Prop|.dat d=>Rep K F v d|.tmp ds=>∃x xs,v=.ref x/\H x=some (.lst xs)/\F x=none/\aD K F xs ds/\¬ Own ρ σ x/\(Own ρ₀ σ x\/H₀ x=none)|.dM i=>σ[i]?=some (some v)
structure uJ(K:PySem.W.Frag)(F:Hp)(ρ:List Sl)(σ:L2.St)(H:Hp)(ρ₀:List Sl)(H₀:Hp)(as:List Arg)(vs:List V):Prop where
 len:as.length=vs.length
 one:∀(j:Nat)(a:Arg)(v:V),as[j]?=some a->vs[j]?=some v->wz K F ρ σ H ρ₀ H₀ v a
 dis:∀(j k:Nat)(ds es:List D)(x:Addr),as[j]?=some (.tmp ds)->as[k]?=some (.tmp es)->vs[j]?=some (.ref x)->vs[k]?=some (.ref x)->j=k
theorem wz.later{b f:Hp}{a:Arg}(s:bK K F ρ σ H b ρ' σ f)(h:wz K F ρ σ H ρ₀ H₀ v a):wz K b ρ' σ f ρ₀ H₀ v a:=by cases a with|dat d=>exact Rep.mono s.cW h|dM i=>exact h|tmp ds=>
   obtain⟨x,xs,h1,c,g,j,e,k⟩:=h;refine⟨x,xs,h1,s.keep x _ c e,?_,j.mono s.cW,λo=>?_,k⟩;.cases q:b x with|none=>rfl|some o=>
       rcases s.Ax x g (by rw[q];simp)with z|z;.exact absurd z e
       .exact(Bv c z).elim
   . rcases s.Aq x o with z|z;.exact e z
     .rw[c]at z;cases z
theorem uJ.nil:uJ K F ρ σ H ρ₀ H₀ [] []:=⟨rfl,λj a v h=>by simp at h,λj k ds es x h=>by simp at h⟩
theorem uJ.cons{a:Arg}(h:wz K F ρ σ H ρ₀ H₀ v a)(t:uJ K F ρ σ H ρ₀ H₀ as vs)(hd:∀ds x,a=.tmp ds->v=.ref x->∀(k:Nat)es,as[k]?=some (.tmp es)->vs[k]?≠some (.ref x)):uJ K F ρ σ H ρ₀ H₀ (a::as) (v::vs):=by
 refine⟨by simp[t.len],λj b u h1 c=>?_,λj k ds es x h1 c e f=>?_⟩;.cases j with|zero=>simp at h1 c;subst h1;subst c;exact h|succ j=>exact t.one j b u (by simpa using h1) (by simpa using c)
 .cases j with
   |zero=>cases k with|zero=>rfl|succ k=>simp at h1 e;exact absurd (by simpa using f) (hd ds x h1 e k es (by simpa using c))
   |succ j=>cases k with|zero=>simp at c f;exact absurd (by simpa using e) (hd es x c f j ds (by simpa using h1))|succ k=>rw[t.dis j k ds es x (by simpa using h1) (by simpa using c) (by simpa using e) (by simpa using f)]
def Cz(ρ:List Sl):Arg->Sl->Prop|.dat d,s=>s=.val false d|.tmp ds,s=>s=.own false ds|.dM i,s=>(∃b d,ρ[i]?=some (.val b d)/\s=.val false d)\/(∃b ds,ρ[i]?=some (.own b ds)/\s=.own true ds)\/∃ds,ρ[i]?=some (.lent ds)/\s=.lent ds
theorem n6{ρ:List Sl}:∀{as:List Arg}{c:List Nat}{args:List Sl},bu ρ as c=some args->args.length=as.length/\(∀(j:Nat)(a:Arg)(s:Sl),as[j]?=some a->args[j]?=some s->Cz ρ a s)/\(∀(j:Nat)(i:Nat)(s:Sl)ds,as[j]?=some (.dM i)->args[j]?=some s->lst? s=some ds->i∉c)/\(∀(j k:Nat)(i:Nat)(s t:Sl)ds es,as[j]?=some (.dM i)->as[k]?=some (.dM i)->args[j]?=some s->args[k]?=some t->lst? s=some ds->lst? t=some es->j=k)
 |[],c,args,h=>by rw[bu]at h;cases h;exact⟨rfl,λj a s h=>by simp at h,λj i s ds h=>by simp at h,λj k i s t ds es h=>by simp at h⟩|a::as,c,args,h=>by--the aan slot,the aao
   have B:∃s0 r u,args=s0::r/\bu ρ as u=some r/\Cz ρ a s0/\((∃i ds,a=.dM i/\lst? s0=some ds/\u=i::c/\i∉c)\/((∀i ds,a=.dM i->lst? s0≠some ds)/\u=c)):=by cases a with|dat d=>rw[bu]at h;obtain⟨r,g,l⟩:=map_some h;exact⟨_,r,c,l.symm,g,rfl,.inr ⟨λi ds z=>(by cases z),rfl⟩⟩|tmp d=>rw[bu]at h;obtain⟨r,g,l⟩:=map_some h;exact⟨_,r,c,l.symm,g,rfl,.inr ⟨λi ds z=>(by cases z),rfl⟩⟩|dM i=>
      rw[bu]at h;split at h;.rename_i b d q;obtain⟨r,g,l⟩:=map_some h;exact⟨_,r,c,l.symm,g,.inl ⟨b,d,q,rfl⟩,.inr ⟨λ_ _ _ z=>(by cases z),rfl⟩⟩
      . rename_i b ds q;split at h;.cases h
        .rename_i o;obtain⟨r,g,l⟩:=map_some h;exact⟨_,r,_,l.symm,g,.inr (.inl ⟨b,ds,q,rfl⟩),.inl ⟨i,_,rfl,rfl,rfl,by simpa using o⟩⟩
      . rename_i ds q;split at h;.cases h
        .rename_i o;obtain⟨r,g,l⟩:=map_some h;exact⟨_,r,_,l.symm,g,.inr (.inr ⟨ds,q,rfl⟩),.inl ⟨i,_,rfl,rfl,rfl,by simpa using o⟩⟩
      .cases h
   obtain⟨s0,r,u,rfl,hr,C,o⟩:=B;obtain⟨W,l2,G,X⟩:=n6 hr;have sub:∀i,i∉u->i∉c:=λi O Q=>by
    rcases o with⟨_,_,_,_,rfl,_⟩|⟨_,rfl⟩;.exact O (mem_cons_of_mem _ Q)
    .exact O Q
   refine⟨by simp[W],λj b s h1 f=>?_,λj i s ds h1 f p=>?_,λj k i s t ds es h1 f p y I J=>?_⟩;.cases j with|zero=>simp at h1 f;subst h1;subst f;exact C|succ j=>exact l2 j b s (by simpa using h1) (by simpa using f)
   .cases j with|zero=>
       simp at h1 f;subst h1;subst f;rcases o with⟨U,_,e,_,_,m⟩|⟨m,_⟩;.cases e;exact m
       .exact absurd p (m i ds rfl)|succ j=>exact sub i (G j i s ds (by simpa using h1) (by simpa using f) p)
   . have Y:∀(k:Nat)(t:Sl)es,a=.dM i->lst? s0=some ds->(as[k]?=some (.dM i))->r[k]?=some t->lst? t=some es->False:=λk t es w L M N he=>by
      rcases o with⟨U,_,e,_,rfl,m⟩|⟨m,_⟩;.rw[w]at e;cases e;exact G k i t es M N he mem_cons_self
      .exact m i ds w L
     have Z:∀(k:Nat)(t:Sl)es,a=.dM i->lst? s0=some es->(as[k]?=some (.dM i))->r[k]?=some t->lst? t=some ds->False:=λk t es w L M N he=>by
      rcases o with⟨U,_,e,_,rfl,m⟩|⟨m,_⟩;.rw[w]at e;cases e;exact G k i t ds M N he mem_cons_self
      .exact m i es w L
     cases j with
     |zero=>cases k with|zero=>rfl|succ k=>simp at h1 p;subst p;exact(Y k t es h1 I (by simpa using f) (by simpa using y) J).elim
     |succ j=>cases k with|zero=>simp at f y;subst y;exact(Z j s es f J (by simpa using h1) (by simpa using p) I).elim|succ k=>rw[X j k i s t ds es (by simpa using h1) (by simpa using f) (by simpa using p) (by simpa using y) I J]
theorem uJ.get(A:uJ K F ρ σ H ρ₀ H₀ as vs){args:List Sl}{j:Nat}{s:Sl}(c:args.length=as.length)(h:args[j]?=some s):∃a v,as[j]?=some a/\vs[j]?=some v/\wz K F ρ σ H ρ₀ H₀ v a:=by
 have e:j<args.length:=(gW h).1;have h1:j<as.length:=by omega
 have b:j<vs.length:=by rw[<-A.len];exact h1
 exact⟨as[j],vs[j],by simp[h1],by simp[b],A.one j _ _ (by simp[h1]) (by simp[b])⟩
theorem args_gs{args:List Sl}(g:GS K F ρ σ H)(A:uJ K F ρ σ H ρ₀ H₀ as vs)(h:bu ρ as []=some args):GS K F args (vs.map some) H:=by
 obtain⟨J,l2,l3,l4⟩:=n6 h;have N:∀{j:Nat}{v:V},vs[j]?=some v->(vs.map some)[j]?=some (some v):=λe=>by rw[getElem?_map,e];rfl
 have Y:∀{j:Nat}{v:V},(vs.map some)[j]?=some (some v)->vs[j]?=some v:=λ{j v}e=>by rw[getElem?_map]at e;cases q:vs[j]?with|none=>rw[q]at e;cases e|some w=>rw[q]at e;cases e;rfl
 refine⟨g.sub,by rw[J,A.len,length_map],λj b d e=>?_,λj s ds e L=>?_,λj k x⟨⟨s,ds,e1,e2⟩,O⟩⟨⟨t,es,f1,f2⟩,f3⟩=>?_⟩;.obtain⟨a,v,h1,u,m⟩:=A.get J e;have B:=l2 j a _ h1 e;refine⟨v,N u,?_⟩;cases a with|dat d'=>cases B;exact m|tmp ds=>cases B|dM i=>
     rcases B with⟨Q,d',r,c⟩|⟨_,_,_,c⟩|⟨_,_,c⟩;.cases c;obtain⟨w,f,p⟩:=g.val i Q d r;have m:σ[i]?=some (some v):=m;rw[m]at f;cases f;exact p
     .cases c
     .cases c
 .obtain⟨a,v,h1,u,m⟩:=A.get J e;have B:=l2 j a _ h1 e;cases a with|dat d'=>cases B;cases L|tmp es=>cases B;cases L;obtain⟨x,xs,rfl,c,f,p,_⟩:=m;exact⟨x,_,N u,c,f,xs,rfl,p⟩|dM i=>
     have m:σ[i]?=some (some v):=m;rcases B with⟨Q,d',r,c⟩|⟨Q,es,r,c⟩|⟨es,r,c⟩;.cases c;cases L
     .cases c;cases L;obtain⟨x,xs,f,p⟩:=g.own i _ _ r rfl;rw[m]at f;cases f;exact⟨x,xs,N u,p⟩
     .cases c;cases L;obtain⟨x,xs,f,p⟩:=g.own i _ _ r rfl;rw[m]at f;cases f;exact⟨x,xs,N u,p⟩
 . obtain⟨a,v,h1,u,m⟩:=A.get J e1;obtain⟨U,v',C,M,G⟩:=A.get J f1;have O:=Y O;have f3:=Y f3;rw[u]at O;cases O;rw[M]at f3;cases f3;have s1:=l2 j a _ h1 e1;have s2:=l2 k U _ C f1;have nm:∀{i:Nat}{s:Sl}{ds:Oc},lst? s=some ds->Cz ρ (.dM i) s->∃I o,ρ[i]?=some I/\lst? I=some o:=λ{i s ds}l z=>by
    rcases z with⟨_,_,_,z⟩|⟨b,es,q,_⟩|⟨es,q,_⟩;.subst z;cases l
    .exact⟨_,_,q,rfl⟩
    .exact⟨_,_,q,rfl⟩
   cases a with
   |dat d=>cases s1;cases e2|tmp Pj=>cases U with|dat d=>cases s2;cases f2|tmp Z=>exact A.dis j k Pj Z x h1 C u M|dM i=>obtain⟨y,_,r,_,_,_,c,_⟩:=m;cases r;obtain⟨I,o,f,p⟩:=nm f2 s2;exact absurd ⟨i,⟨I,o,f,p⟩,G⟩ c
   |dM i=>obtain⟨I,o,f,p⟩:=nm e2 s1;cases U with|dat d=>cases s2;cases f2|tmp Z=>obtain⟨y,_,r,_,_,_,c,_⟩:=G;cases r;exact absurd ⟨i,⟨I,o,f,p⟩,m⟩ c|dM i'=>obtain⟨W,X,q5,q6⟩:=nm f2 s2;have:=g.dis i i' x ⟨⟨I,o,f,p⟩,m⟩ ⟨⟨W,X,q5,q6⟩,G⟩;subst this;exact l4 j k i s t ds es h1 C e1 f1 e2 f2
theorem lR{as:List Arg}{ss:List Sl}:∀(ρ:List Sl)(n i:Nat),(bR as ss n ρ)[i]?=(ρ[i]?).map λs=>dh s (aL (n+i) as ss)
 |[],n,i=>by simp[bR]|s::ρ,n,0=>by simp[bR]|s::ρ,n,i+1=>by
   rw[bR];simp only[List.getElem?_cons_succ];rw[lR ρ (n+1) i];have:n+1+i=n+(i+1):=by omega
   rw[this]
theorem lH{as:List Arg}{ss:List Sl}:∀(ρ:List Sl)(n:Nat),(bR as ss n ρ).length=ρ.length|[],n=>rfl|s::ρ,n=>by rw[bR];simp[lH ρ]
theorem gD{i:Nat}:∀{as:List Arg}{ss:List Sl}{t:Sl},aL i as ss=some t->∃j:Nat,as[j]?=some (.dM i)/\ss[j]?=some t
 |[],_,_,h=>by simp[aL]at h|a::as,[],_,h=>by cases a<;>simp[aL]at h|a::as,s::ss,t,h=>by
   have b:aL i as ss=some t->∃j:Nat,(a::as)[j]?=some (.dM i)/\(s::ss)[j]?=some t:=λh=>by obtain⟨j,h1,c⟩:=gD h;exact⟨j+1,by simpa using h1,by simpa using c⟩
   cases a with|dat d=>exact b (by simpa[aL]using h)|tmp d=>exact b (by simpa[aL]using h)|dM k=>
     rw[aL]at h;split at h;.rename_i e;cases h;subst e;exact⟨0,rfl,rfl⟩
     .exact b h
theorem jA{i:Nat}:∀{as:List Arg}{ss:List Sl},as.length=ss.length->aL i as ss=none->∀j:Nat,as[j]?≠some (.dM i)
 |[],_,_,_=>λj h=>by simp at h|a::as,[],b,_=>by simp at b|a::as,s::ss,b,h=>λj c=>by
   have f:as.length=ss.length:=by simpa using b
   have g:aL i as ss=none/\a≠.dM i:=by cases a with|dat d=>exact⟨by simpa[aL]using h,by simp⟩|tmp d=>exact⟨by simpa[aL]using h,by simp⟩|dM k=>
      rw[aL]at h;split at h;.cases h
      .rename_i l;exact⟨h,λe=>l (by cases e;rfl)⟩
   cases j with|zero=>simp at c;exact g.2 c|succ j=>exact jA f g.1 j (by simpa using c)
theorem tH{U Y H':Hp}{args c:List Sl}{Z:L2.St}(s0:bK K U ρ₀ σ H₀ F ρ σ H)(A:uJ K F ρ σ H ρ₀ H₀ as vs)(hb:bu ρ as []=some args)(s:bK K F args (vs.map some) H Y c Z H'):bK K U ρ₀ σ H₀ Y (bR as c 0 ρ) σ H'/\∀v r,bW K Y c Z H' args (vs.map some) H v r->bW K Y (bR as c 0 ρ) σ H' ρ₀ σ H₀ v r:=by
 have g:=s0.gs;obtain⟨N,l2,l3,l4⟩:=n6 hb;have up:∀{j:Nat}{v:V},vs[j]?=some v->(vs.map some)[j]?=some (some v):=λe=>by rw[getElem?_map,e];rfl
 have dn:∀{j:Nat}{v:V},(vs.map some)[j]?=some (some v)->vs[j]?=some v:=λ{j v}e=>by rw[getElem?_map]at e;cases q:vs[j]?with|none=>rw[q]at e;cases e|some w=>rw[q]at e;cases e;rfl
 have la:as.length=c.length:=by rw[s.len,N]--whose are the lists that the callee holds
 have own:∀b,Own args (vs.map some) b->(∃(j:Nat)(ds:List D),as[j]?=some (Arg.tmp ds)/\vs[j]?=some (V.ref b)/\¬ Own ρ σ b/\(Own ρ₀ σ b\/H₀ b=none))\/Own ρ σ b:=λb⟨j,⟨sl,ds,G,W⟩,e3⟩=>by obtain⟨a,v,h1,C,L⟩:=A.get N G;have s1:=l2 j a _ h1 G;have e3:=dn e3;rw[C]at e3;cases e3;cases a with|dat d=>cases s1;cases W|tmp es=>obtain⟨x,_,k,_,_,_,f,O⟩:=L;cases k;exact .inl ⟨j,es,h1,C,f,O⟩|dM i=>
    right;rcases s1 with⟨_,_,_,z⟩|⟨b',es,q,_⟩|⟨es,q,_⟩;.subst z;cases W
    .exact⟨i,⟨_,_,q,rfl⟩,L⟩
    .exact⟨i,⟨_,_,q,rfl⟩,L⟩
 have back:∀b,Own ρ σ b\/H b=none->Own ρ₀ σ b\/H₀ b=none:=λb h=>by
  rcases h with h|h;.exact s0.Aq b h
  . by_cases ho:Own ρ₀ σ b;.exact .inl ho
    .right;cases e:H₀ b with|none=>rfl|some o=>rw[s0.keep b o e ho]at h;cases h
 have M:∀b,Own args (vs.map some) b->Own ρ₀ σ b\/H₀ b=none:=λb h=>by
  rcases own b h with⟨_,_,_,_,_,z⟩|z;.exact z
  .exact back b (.inl z)--a name's slot behind the call
 have slot:∀{i:Nat}{t:Sl},(bR as c 0 ρ)[i]?=some t->∃s1,ρ[i]?=some s1/\t=dh s1 (aL i as c):=λ{i t}h=>by rw[lR]at h;obtain⟨s1,G,W⟩:=map_some h;exact⟨s1,G,by rw[<-W,zero_add]⟩
 have Ve:∀{i:Nat}{s1:Sl},ρ[i]?=some s1->(bR as c 0 ρ)[i]?=some (dh s1 (aL i as c)):=λ{i s1}h=>by rw[lR,h,zero_add];rfl--what the callee left of a list that was lent to it
 have lent:∀{i j:Nat}{s1 t:Sl}{ds:List D},ρ[i]?=some s1->lst? s1=some (.l ds)->as[j]?=some (.dM i)->c[j]?=some t->∃v s2,σ[i]?=some (some v)/\Z[j]?=some (some v)/\args[j]?=some s2/\kW s2 t/\((∃b,s1=.own b ds/\s2=.own true ds)\/(s1=.lent ds/\s2=.lent ds)):=λ{i j s1 t ds}h1 C L h4=>by
  have hj:j<args.length:=by rw[N];exact(gW L).1
  have G:args[j]?=some args[j]:=by simp[hj]
  obtain⟨a,v,k,f,O⟩:=A.get N G;rw[L]at k;cases k;have q4:=l2 j _ _ L G;have kind:(∃b,s1=.own b ds/\args[j]=.own true ds)\/(s1=.lent ds/\args[j]=.lent ds):=by
   rcases q4 with⟨_,_,z,_⟩|⟨b,es,z,z'⟩|⟨es,z,z'⟩;.rw[h1]at z;cases z;cases C
   .rw[h1]at z;cases z;cases C;exact .inl ⟨b,rfl,z'⟩
   .rw[h1]at z;cases z;cases C;exact .inr ⟨rfl,z'⟩
  have lk:Em args[j]=true:=by rcases kind with⟨_,_,z⟩|⟨_,z⟩<;>rw[z]<;>rfl
  obtain⟨u,s',y,z3⟩:=s.lk j _ G lk;rw[h4]at y;cases y;exact⟨v,_,O,by rw[u];exact up f,G,z3,kind⟩
 have Iu:∀{i:Nat}{x:Addr},bJ (bR as c 0 ρ) σ i x->bJ ρ σ i x:=λ{i x}⟨⟨t,ds,G,W⟩,e3⟩=>by obtain⟨s1,k,f⟩:=slot G;refine⟨?_,e3⟩;cases s1 with|bG=>subst f;cases W|val b d=>subst f;cases W|own b es=>exact⟨_,_,k,rfl⟩|lent es=>exact⟨_,_,k,rfl⟩|sJ m=>exact⟨_,_,k,rfl⟩|sO m=>exact⟨_,_,k,rfl⟩|hold _=>subst f;cases W
 refine⟨?_,λv r h=>?_⟩;rotate_left;.cases r with|val d=>exact h|own ds=>
     obtain⟨x,xs,h1,C,L,h4,h5,h6⟩:=h;refine⟨x,xs,h1,C,L,h4,λ⟨i,h⟩=>?_,?_⟩
     . have hO:=Iu h;obtain⟨⟨s1,Pj,k,f⟩,O⟩:=hO;obtain⟨x',ai,w1,w2,_⟩:=g.own i s1 Pj k f;rw[O]at w1;cases w1;rcases h6 with h6|h6
       . rcases own x h6 with⟨_,_,_,_,z,_⟩|_;.exact z ⟨i,⟨s1,Pj,k,f⟩,O⟩
         .--a name was lent
           obtain⟨j,⟨sl,es,w3,w4⟩,w5⟩:=h6;obtain⟨a',v',I,Q,y3⟩:=A.get N w3;have sa:=l2 j a' _ I w3;have w5:=dn w5;rw[Q]at w5;cases w5;cases a' with|dat d=>cases sa;cases w4|tmp am=>obtain⟨_,_,u1,_,_,_,u2,_⟩:=y3;cases u1;exact u2 ⟨i,⟨s1,Pj,k,f⟩,O⟩|dM i'=>
             have ex:∃s' ae,ρ[i']?=some s'/\lst? s'=some ae:=by
              rcases sa with⟨_,_,_,z⟩|⟨b,es,q,_⟩|⟨es,q,_⟩;.subst z;cases w4
              .exact⟨_,_,q,rfl⟩
              .exact⟨_,_,q,rfl⟩
             have:=g.dis i i' x ⟨⟨s1,Pj,k,f⟩,O⟩ ⟨ex,y3⟩;subst this;have hk:∃Ir,Pj=.l Ir:=by
              rcases sa with⟨_,_,_,z⟩|⟨b,es,q,_⟩|⟨es,q,_⟩;.subst z;cases w4
              .rw[k]at q;cases q;cases f;exact⟨_,rfl⟩
              .rw[k]at q;cases q;cases f;exact⟨_,rfl⟩
             obtain⟨Ir,rfl⟩:=hk;have hj:j<c.length:=by rw[<-la];exact(gW I).1
             have B:c[j]?=some c[j]:=by simp[hj]
             obtain⟨v2,s2,u1,u2,u3,u4,u5⟩:=lent k f I B;rw[O]at u1;cases u1--the slot behind the call is a list's
             obtain⟨⟨t,dt,t1,t2⟩,_⟩:=h;obtain⟨s3,t3,t4⟩:=slot t1;rw[k]at t3;cases t3;have lo:∃t5,aL i as c=some t5:=by cases J:aL i as c with|none=>exact absurd I (jA la J j)|some t5=>exact⟨t5,rfl⟩
             obtain⟨t5,J⟩:=lo;obtain⟨j2,t6,t7⟩:=gD J;have ap:j2<args.length:=by rw[N];exact(gW t6).1
             obtain⟨_,s6,_,ar,af,av,ag⟩:=lent k f t6 t7;have ah:j2=j:=by
              have a1:lst? s6=some (.l Ir):=by rcases ag with⟨_,_,z⟩|⟨_,z⟩<;>rw[z]<;>rfl
              have a2:lst? s2=some (.l Ir):=by rcases u5 with⟨_,_,z⟩|⟨_,z⟩<;>rw[z]<;>rfl
              exact l4 j2 j i s6 s2 _ _ t6 I af u3 a1 a2
             subst ah;rw[B]at t7;cases t7;rw[J]at t4;refine h5 ⟨j2,?_,u2⟩;rcases u5 with⟨b,u,y⟩|⟨u,y⟩
             . subst u;subst y;rcases u4 with⟨d2,z⟩|⟨d2,z⟩;.exact⟨_,.l d2,B,by rw[z];rfl⟩
               .rw[z]at t4;subst t4;cases t2
             .subst u;subst y;exact⟨_,.l Ir,B,by rw[show c[j2]=.lent Ir from u4];rfl⟩
       .rw[w2]at h6;cases h6
     . rcases h6 with h6|h6;.exact M x h6
       .exact back x (.inr h6)
 refine⟨⟨s.gs.sub,by rw[lH];exact g.len,λi b d e=>?_,λi t ds e B=>?_,λi j x h1 C=>g.dis i j x (Iu h1) (Iu C)⟩,s0.cW.trans s.cW,λb n n'=>?_,λb o h n=>?_,λb⟨i,h⟩=>back b (.inl ⟨i,Iu h⟩),by rw[lH];exact s0.len,λi s1 h l=>?_⟩;.--data
   obtain⟨s1,k,f⟩:=slot e;cases s1 with|bG=>cases f|lent es=>cases f|sJ _=>cases f|sO _=>cases f|hold _=>cases f|val b' d'=>cases f;obtain⟨v,u,y⟩:=g.val i b d k;exact⟨v,u,y.mono s.cW⟩|own b' es=>cases J:aL i as c with|none=>rw[J]at f;cases f|some t=>rw[J]at f;obtain⟨j,u,y⟩:=gD J;obtain⟨v,s2,I,Q,y3,y4,p⟩:=lent k rfl u y;cases t with|bG=>cases f|own _ _=>cases f|lent _=>cases f|sJ _=>cases f|sO _=>cases f|hold _=>cases f|val b2 d2=>cases f;obtain⟨w,X,x2⟩:=s.gs.val j b2 d y;rw[Q]at X;cases X;exact⟨v,I,x2⟩
 .--lists
   obtain⟨s1,k,f⟩:=slot e--a list that was not lent
   have stay:∀es,lst? s1=some es->(∀j:Nat,as[j]?≠some (.dM i))->t=s1->∃(a:Addr)(xs:HO),σ[i]?=some (some (V.ref a))/\H' a=some xs/\Y a=none/\pN K Y xs ds:=λes he hn ht=>by
    subst ht;rw[he]at B;cases B;obtain⟨a,xs,u,y,z3,z4⟩:=g.own i _ ds k he;have no:¬ Own args (vs.map some) a:=λh=>by obtain⟨j,⟨sl,es,w1,w2⟩,w3⟩:=h;obtain⟨a',v,h1,C,L⟩:=A.get N w1;have sa:=l2 j a' _ h1 w1;have w3:=dn w3;rw[C]at w3;cases w3;cases a' with|dat d=>cases sa;cases w2|tmp es=>obtain⟨x,_,I,_,_,_,Q,_⟩:=L;cases I;exact Q ⟨i,⟨_,ds,k,he⟩,u⟩|dM i'=>
       have:∃s' ae,ρ[i']?=some s'/\lst? s'=some ae:=by
        rcases sa with⟨_,_,_,z⟩|⟨b,es,q,_⟩|⟨es,q,_⟩;.subst z;cases w2
        .exact⟨_,_,q,rfl⟩
        .exact⟨_,_,q,rfl⟩
       have:=g.dis i i' a ⟨⟨_,ds,k,he⟩,u⟩ ⟨this,L⟩;subst this;exact hn j h1
    refine⟨a,xs,u,s.keep a _ y no,?_,z4.mono s.cW⟩;cases q:Y a with|none=>rfl|some o=>
      rcases s.Ax a z3 (by rw[q];simp)with z|z;.exact absurd z no
      .rw[y]at z;exact(BP z4 z).elim
   cases J:aL i as c with
   |none=>have hn:=jA la J;rw[J]at f;cases s1 with|bG=>subst f;cases B|val b' d'=>subst f;cases B|own b' es=>exact stay _ rfl hn f|lent es=>exact stay _ rfl hn f|sJ m=>exact stay _ rfl hn f|sO m=>exact stay _ rfl hn f|hold _=>subst f;cases B
   |some t2=>rw[J]at f;obtain⟨j,u,y⟩:=gD J;cases s1 with
     |bG=>subst f;cases B|val b' d'=>subst f;cases B|hold _=>subst f;cases B|sJ m=>
       have hj:j<args.length:=by rw[N];exact(gW u).1
       rcases l2 j _ _ u (show args[j]?=some args[j]by simp[hj])with⟨_,_,z,_⟩|⟨_,_,z,_⟩|⟨_,z,_⟩<;>(rw[k]at z;cases z)|sO m=>
       have hj:j<args.length:=by rw[N];exact(gW u).1
       rcases l2 j _ _ u (show args[j]?=some args[j]by simp[hj])with⟨_,_,z,_⟩|⟨_,_,z,_⟩|⟨_,z,_⟩<;>(rw[k]at z;cases z)|own b' es=>
       obtain⟨v,s2,I,Q,y3,y4,p⟩:=lent k rfl u y;have:t2≠.bG/\∀x,t2≠.lent x:=by
        rcases p with⟨_,_,p⟩|⟨p,_⟩;.subst p;rcases y4 with⟨_,rfl⟩|⟨_,rfl⟩<;>simp
        .cases p
       cases t2 with
       |bG=>exact absurd rfl this.1|hold x=>
         rcases p with⟨_,_,p⟩|⟨p,_⟩;.subst p;rcases y4 with⟨_,h⟩|⟨_,h⟩<;>cases h
         .cases p|sJ x=>
         rcases p with⟨_,_,p⟩|⟨p,_⟩;.subst p;rcases y4 with⟨_,h⟩|⟨_,h⟩<;>cases h
         .cases p|sO x=>
         rcases p with⟨_,_,p⟩|⟨p,_⟩;.subst p;rcases y4 with⟨_,h⟩|⟨_,h⟩<;>cases h
         .cases p|lent x=>exact absurd rfl (this.2 x)|val b2 d2=>subst f;cases B|own b2 aw=>subst f;cases B;obtain⟨a,xs,X,x2⟩:=s.gs.own j _ _ y rfl;rw[Q]at X;cases X;exact⟨a,xs,I,x2⟩
     |lent es=>
       obtain⟨v,s2,I,Q,y3,y4,p⟩:=lent k rfl u y;have ht:t=.lent es:=by rw[f];cases t2<;>rfl
       subst ht;cases B;rcases p with⟨_,p,_⟩|⟨_,p⟩;.cases p
       .subst p;cases(show t2=.lent es from y4);obtain⟨a,xs,X,x2⟩:=s.gs.own j _ _ y rfl;rw[Q]at X;cases X;exact⟨a,xs,I,x2⟩
 . by_cases q:F b=none
   . rcases s.Ax b q n' with z|z;.exact(M b z).imp id mK
     . by_cases ho:Own ρ₀ σ b;.exact .inl ho
       .right;cases f:H₀ b with|none=>rfl|some o=>rw[s0.keep b o f ho]at z;exact z
   .exact s0.Ax b n q
 . refine s.keep b o (s0.keep b o h n) λz=>?_;rcases M b z with z|z;.exact n z
   .rw[h]at z;cases z
 .obtain⟨G,s2,C,k2⟩:=s0.lk i s1 h l;refine⟨G,_,Ve C,?_⟩;have WY:=k2.Em l;refine kW.trans l k2 ?_;cases s2 with
   |bG=>cases WY|sJ _=>cases WY|sO _=>cases WY|hold _=>exact kW.refl _|val b d=>exact kW.refl _|lent es=>cases aL i as c with|none=>rfl|some t=>cases t<;>rfl
   |own b es=>cases b with|false=>cases WY|true=>cases aL i as c with|none=>exact .inl ⟨_,rfl⟩|some t=>cases t with|bG=>exact .inl ⟨_,rfl⟩|lent _=>exact .inl ⟨_,rfl⟩|sJ _=>exact .inl ⟨_,rfl⟩|sO _=>exact .inl ⟨_,rfl⟩|hold _=>exact .inl ⟨_,rfl⟩|own _ ds=>exact .inl ⟨_,rfl⟩|val _ d=>exact .inr ⟨_,rfl⟩
theorem uJ.rebase{m g k l:Hp}{c f:List Sl}(a:bK K F ρ σ H m c σ g)(A:uJ K k f σ l c g as vs):uJ K k f σ l ρ H as vs:=by refine⟨A.len,λj b v h1 p=>?_,A.dis⟩;have h:=A.one j b v h1 p;cases b with|dat d=>exact h|dM i=>exact h|tmp ds=>
   obtain⟨x,xs,q,r,s,t,u,q6⟩:=h;refine⟨x,xs,q,r,s,t,u,?_⟩;rcases q6 with q6|q6;.exact a.Aq x q6
   . by_cases ho:Own ρ σ x;.exact .inl ho
     .right;cases e:H x with|none=>rfl|some o=>rw[a.keep x o e ho]at q6;cases q6
theorem uJ.Rw{e c f g:Hp}{a b:List Sl}{r:R}(s1:bK K F ρ σ H e a σ c)(j:bW K e a σ c ρ σ H v r)(s2:bK K e a σ c f b σ g)(A:uJ K f b σ g a c as vs):uJ K f b σ g ρ H (vg r::as) (v::vs):=by
 have h1:wz K e a σ c ρ H v (vg r):=by cases r with|val d=>exact j|own ds=>exact j
 refine .cons (h1.later s2) (A.rebase s1) λds x o ev k es p l=>?_;cases r with|val d=>cases o|own q=>
   obtain⟨y,xs,m,s,w,B,t,C⟩:=j;rw[ev]at m;cases m;have h:=A.one k _ _ p l;obtain⟨z,G,u,_,_,_,_,w6⟩:=h;cases u;rcases w6 with w6|w6;.exact t w6
   .rw[s]at w6;cases w6
end
section
variable{K:PySem.W.Frag}{F F1 H H1:Hp}{ρ ρ1 ρ2:List Sl}{σ σ1:L2.St}
theorem Kz{s:Sl}(h:put ρ i s=some ρ1):∃s0,ρ[i]?=some s0/\Em s0=false/\ρ1=ρ.set i s:=by
 unfold put at h;split at h;.rename_i q;cases h;exact⟨_,q,rfl,rfl⟩
 .rename_i q;cases h;exact⟨_,q,rfl,rfl⟩
 .rename_i q;cases h;exact⟨_,q,rfl,rfl⟩
 .cases h
theorem bK.put{r:R}(s:bK K F ρ σ H F1 ρ1 σ1 H1)(y:bW K F1 ρ1 σ1 H1 ρ σ H v r)(h:HH.put ρ1 i (qY r)=some ρ2):bK K F ρ σ H F1 ρ2 (σ1.set i (some v)) H1:=by
 obtain⟨s0,h0,C,rfl⟩:=Kz h;have w:i<ρ1.length:=(gW h0).1;have m:i<σ1.length:=by rw[<-s.gs.len];exact w
 have f:∀{j:Nat}{a:Addr},j≠i->bJ (ρ1.set i (qY r)) (σ1.set i (some v)) j a->bJ ρ1 σ1 j a:=λ{j a}c⟨⟨t,ds,o,p⟩,g⟩=>by rw[gk c]at o g;exact⟨⟨t,ds,o,p⟩,g⟩
 have new:∀{a:Addr},bJ (ρ1.set i (qY r)) (σ1.set i (some v)) i a->¬ Own ρ1 σ1 a/\(Own ρ σ a\/H a=none):=λ{a}⟨⟨t,ds,o,p⟩,g⟩=>by rw[getElem?_set_self w]at o;rw[getElem?_set_self m]at g;cases o;cases g;cases r with|val d=>cases p|own es=>obtain⟨x,xs,L,G,I,J,M,N⟩:=y;cases L;exact⟨M,N⟩
 refine⟨⟨s.gs.sub,by simp[s.gs.len],λj b d e=>?_,λj t ds e z=>?_,λj k a h1 B=>?_⟩,s.cW,s.Ax,s.keep,λa⟨j,c⟩=>?_,by simp[s.len],λj t e l=>?_⟩
 . by_cases c:j=i;.subst c;rw[getElem?_set_self w]at e;cases r with|own es=>cases e|val d'=>cases e;exact⟨v,getElem?_set_self m,y⟩
   .rw[gk c]at e ⊢;exact s.gs.val j b d e
 . by_cases c:j=i;.subst c;rw[getElem?_set_self w]at e;cases r with|val d'=>cases e;cases z|own es=>cases e;cases z;obtain⟨x,xs,rfl,G,I,J,_⟩:=y;exact⟨x,_,getElem?_set_self m,G,I,xs,rfl,J⟩
   .rw[gk c]at e ⊢;exact s.gs.own j t ds e z
 . by_cases c:j=i
   . by_cases q:k=i;.rw[c,q]
     .subst c;exact absurd ⟨k,f q B⟩ (new h1).1
   . by_cases q:k=i;.subst q;exact absurd ⟨j,f c h1⟩ (new B).1
     .exact s.gs.dis j k a (f c h1) (f q B)
 . by_cases u:j=i;.subst u;exact(new c).2
   .exact s.Aq a ⟨j,f u c⟩
 . obtain⟨o,t1,p,g⟩:=s.lk j t e l;have c:j≠i:=by rintro rfl;rw[h0]at p;cases p;rw[g.Em l]at C;cases C
   exact⟨by rw[gk c];exact o,t1,by rw[gk c];exact p,g⟩
theorem GS.mut{x:Nat}{b:Bool}{ds es:List D}{a:Addr}{ys:List V}(g:GS K F ρ σ H)(e:ρ[x]?=some (.own b ds))(s:σ[x]?=some (some (.ref a)))(r:aD K F ys es):bK K F ρ σ H F (ρ.set x (.own b es)) σ (upd H a (.lst ys)):=by
 have u:x<ρ.length:=(gW e).1;have z:bJ ρ σ x a:=⟨⟨_,_,e,rfl⟩,s⟩;obtain⟨O,xs,h1,Q,B,U⟩:=g.oA x _ ds e rfl;rw[s]at h1;cases h1;have h:∀{j:Nat}{c:Addr},bJ (ρ.set x (.own b es)) σ j c->bJ ρ σ j c:=λ{j c}⟨⟨t,m,p,w⟩,q3⟩=>by
  by_cases f:j=x;.subst f;exact⟨⟨_,_,e,rfl⟩,q3⟩
  .rw[gk f]at p;exact⟨⟨t,m,p,w⟩,q3⟩
 refine⟨⟨λc o q=>?_,by simp[g.len],λj G d q=>?_,λj t m q y=>?_,λj k c p w=>g.dis j k c (h p) (h w)⟩,.refl _,λc n I=>absurd n I,λc o q n=>?_,λc⟨j,q⟩=>.inl ⟨j,h q⟩,by simp,λj t q l=>⟨rfl,?_⟩⟩
 . have:c≠a:=by rintro rfl;rw[B]at q;cases q
   rw[aG this];exact g.sub c o q
 . by_cases f:j=x;.subst f;rw[getElem?_set_self u]at q;cases q
   .rw[gk f]at q;exact g.val j G d q
 . by_cases f:j=x;.subst f;rw[getElem?_set_self u]at q;cases q;cases y;exact⟨a,_,s,bh,B,ys,rfl,r⟩
   . rw[gk f]at q;obtain⟨c,J,C,L,M,N⟩:=g.own j t m q y;have:c≠a:=by rintro rfl;exact f (g.dis j x c ⟨⟨t,m,q,y⟩,C⟩ z)
     exact⟨c,J,C,by rw[aG this];exact L,M,N⟩
 . have:c≠a:=by rintro rfl;exact n ⟨x,z⟩
   rw[aG this];exact q
 . by_cases f:j=x;.subst f;rw[e]at q;cases q;refine⟨_,getElem?_set_self u,?_⟩;cases b with|true=>exact .inl ⟨_,rfl⟩|false=>cases l
   .exact⟨t,by rw[gk f];exact q,.refl t⟩
theorem GS.lend{b:Bool}{ds:List D}(g:GS K F ρ σ H)(e:ρ[i]?=some (.own b ds)):GS K F (ρ.set i (.lent ds)) σ H:=by
 have o:i<ρ.length:=(gW e).1;have f:∀{j:Nat}{c:Addr},bJ (ρ.set i (.lent ds)) σ j c->bJ ρ σ j c:=λ{j c}⟨⟨t,l,h,m⟩,q3⟩=>by
  by_cases a:j=i;.subst a;exact⟨⟨_,_,e,rfl⟩,q3⟩
  .rw[gk a]at h;exact⟨⟨t,l,h,m⟩,q3⟩
 refine⟨g.sub,by simp[g.len],λj r d q=>?_,λj t l q p=>?_,λj k c h m=>g.dis j k c (f h) (f m)⟩
 . by_cases a:j=i;.subst a;rw[getElem?_set_self o]at q;cases q
   .rw[gk a]at q;exact g.val j r d q
 . by_cases a:j=i;.subst a;rw[getElem?_set_self o]at q;cases q;cases p;exact g.own j _ _ e rfl
   .rw[gk a]at q;exact g.own j t l q p
theorem bK.bj{b:Bool}{ds:List D}(g:GS K F ρ σ H)(e:ρ[i]?=some (.own b ds))(s:bK K F (ρ.set i (.lent ds)) σ H F1 ρ1 σ1 H1):bK K F ρ σ H F1 (ρ1.set i (.own b ds)) σ1 H1/\∀v r,bW K F1 ρ1 σ1 H1 (ρ.set i (.lent ds)) σ H v r->bW K F1 (ρ1.set i (.own b ds)) σ1 H1 ρ σ H v r:=by
 have I:i<ρ.length:=(gW e).1;have h1:(ρ.set i (.lent ds))[i]?=some (.lent ds):=getElem?_set_self I;obtain⟨J,L,B,M⟩:=s.lk i _ h1 rfl;cases(show L=.lent ds from M);have u:i<ρ1.length:=(gW B).1;have C:∀{j:Nat}{c:Addr},bJ (ρ.set i (.lent ds)) σ j c->bJ ρ σ j c:=λ{j c}⟨⟨t,y,f,p⟩,m⟩=>by
  by_cases a:j=i;.subst a;exact⟨⟨_,_,e,rfl⟩,m⟩
  .rw[gk a]at f;exact⟨⟨t,y,f,p⟩,m⟩
 have N:∀{c:Addr},Own ρ σ c->Own (ρ.set i (.lent ds)) σ c:=λ{c}⟨j,⟨t,y,f,p⟩,m⟩=>by
  by_cases a:j=i;.subst a;exact⟨j,⟨_,_,h1,rfl⟩,m⟩
  .exact⟨j,⟨t,y,by rw[gk a];exact f,p⟩,m⟩
 have z:∀{j:Nat}{c:Addr},bJ (ρ1.set i (.own b ds)) σ1 j c->bJ ρ1 σ1 j c:=λ{j c}⟨⟨t,y,f,p⟩,m⟩=>by
  by_cases a:j=i;.subst a;exact⟨⟨_,_,B,rfl⟩,m⟩
  .rw[gk a]at f;exact⟨⟨t,y,f,p⟩,m⟩
 have w:∀{c:Addr}{h:Hp},Own (ρ.set i (.lent ds)) σ c\/h c=none->Own ρ σ c\/h c=none:=λ{c h}q=>q.imp (λ⟨j,q⟩=>⟨j,C q⟩) id;have O:∀{c:Addr}{h:Hp},Own (ρ.set i (.lent ds)) σ c\/nt (h c)=none->Own ρ σ c\/nt (h c)=none:=λ{c h}q=>q.imp (λ⟨j,q⟩=>⟨j,C q⟩) id;refine⟨⟨⟨s.gs.sub,by simp[s.gs.len],λj Q d q=>?_,λj t y q G=>?_,λj k c f p=>s.gs.dis j k c (z f) (z p)⟩,s.cW,λc n U=>O (s.Ax c n U),λc o q n=>s.keep c o q λ⟨j,x⟩=>n ⟨j,C x⟩,λc⟨j,q⟩=>w (s.Aq c ⟨j,z q⟩),by simpa using s.len,λj t q l=>?_⟩,λv r h=>?_⟩
 . by_cases a:j=i;.subst a;rw[getElem?_set_self u]at q;cases q
   .rw[gk a]at q;exact s.gs.val j Q d q
 . by_cases a:j=i;.subst a;rw[getElem?_set_self u]at q;cases q;cases G;exact s.gs.own j _ _ B rfl
   .rw[gk a]at q;exact s.gs.own j t y q G
 . by_cases a:j=i;.subst a;rw[e]at q;cases q;refine⟨J,_,getElem?_set_self u,?_⟩;cases b with|true=>exact .inl ⟨_,rfl⟩|false=>cases l
   .obtain⟨W,t',X,Y⟩:=s.lk j t (by rw[gk a];exact q) l;exact⟨W,t',by rw[gk a];exact X,Y⟩
 .cases r with|val d=>exact h|own es=>obtain⟨x,xs,f,p,m,Z,q5,q6⟩:=h;exact⟨x,xs,f,p,m,Z,λ⟨j,q⟩=>q5 ⟨j,z q⟩,w q6⟩
theorem GS.give{ds:List D}(g:GS K F ρ σ H)(e:ρ[i]?=some (.own false ds)):∃v,σ[i]?=some (some v)/\bK K F ρ σ H F (ρ.set i .bG) σ H/\bW K F (ρ.set i .bG) σ H ρ σ H v (.own ds):=by
 have o:i<ρ.length:=(gW e).1;obtain⟨a,xs,h1,u,w,y⟩:=g.oA i _ ds e rfl;have f:∀{j:Nat}{c:Addr},bJ (ρ.set i .bG) σ j c->bJ ρ σ j c/\j≠i:=λ{j c}⟨⟨t,p,h,m⟩,q3⟩=>by
  by_cases b:j=i;.subst b;rw[getElem?_set_self o]at h;cases h;cases m
  .rw[gk b]at h;exact⟨⟨⟨t,p,h,m⟩,q3⟩,b⟩
 have r:bJ ρ σ i a:=⟨⟨_,_,e,rfl⟩,h1⟩;refine⟨.ref a,h1,⟨⟨g.sub,by simp[g.len],λj z d q=>?_,λj t p q s=>?_,λj k c h m=>g.dis j k c (f h).1 (f m).1⟩,.refl _,λc n B=>absurd n B,λ_ _ q _=>q,λc⟨j,q⟩=>.inl ⟨j,(f q).1⟩,by simp,λj t q l=>⟨rfl,?_⟩⟩,a,xs,rfl,u,w,y,λ⟨j,q⟩=>?_,.inl ⟨i,r⟩⟩
 . by_cases b:j=i;.subst b;rw[getElem?_set_self o]at q;cases q
   .rw[gk b]at q;exact g.val j z d q
 . by_cases b:j=i;.subst b;rw[getElem?_set_self o]at q;cases q;cases s
   .rw[gk b]at q;exact g.own j t p q s
 . by_cases b:j=i;.subst b;rw[e]at q;cases q;cases l
   .exact⟨t,by rw[gk b];exact q,.refl t⟩
 .exact(f q).2 (g.dis j i a (f q).1 r)
theorem GS.more{τ:List (Option V)}(g:GS K F ρ σ H)(w:τ.length=n):GS K F (ρ++replicate n .bG) (σ++τ) H:=by
 have get:∀{j:Nat}{t:Sl},(ρ++replicate n Sl.bG)[j]?=some t->t≠.bG->ρ[j]?=some t/\j<ρ.length:=λ{j t}q ne=>by
  by_cases h:j<ρ.length;.rw[getElem?_append_left h]at q;exact⟨q,h⟩
  . rw[getElem?_append_right (by omega),getElem?_replicate]at q;split at q;.cases q;exact absurd rfl ne
    .cases q
 have m:∀{j:Nat}{v:Option V},j<ρ.length->(σ[j]?=some v↔(σ++τ)[j]?=some v):=λ{j v}h=>by rw[getElem?_append_left (by rw[<-g.len];exact h)]
 have e:∀{j:Nat}{c:Addr},bJ (ρ++replicate n .bG) (σ++τ) j c->bJ ρ σ j c:=λ{j c}⟨⟨t,o,p,l⟩,q3⟩=>by obtain⟨h1,f⟩:=get p (by rintro rfl;cases l);exact⟨⟨t,o,h1,l⟩,(m f).mpr q3⟩
 refine⟨g.sub,by simp[g.len,w],λj b d q=>?_,λj t o q u=>?_,λj k c p l=>g.dis j k c (e p) (e l)⟩;.obtain⟨h1,f⟩:=get q (by simp);obtain⟨v,r,s⟩:=g.val j b d h1;exact⟨v,(m f).mp r,s⟩
 .obtain⟨h1,f⟩:=get q (by rintro rfl;cases u);obtain⟨a,xs,r,s⟩:=g.own j t o h1 u;exact⟨a,xs,(m f).mp r,s⟩
theorem bK.less{τ:List (Option V)}{m:Nat}(O:m=ρ.length)(g:GS K F ρ σ H)(hn:τ.length=n)(s:bK K F (ρ++replicate n .bG) (σ++τ) H F1 ρ1 σ1 H1):bK K F ρ σ H F1 (ρ1.take m) (σ1.take m) H1/\∀v r,bW K F1 ρ1 σ1 H1 (ρ++replicate n .bG) (σ++τ) H v r->bW K F1 (ρ1.take m) (σ1.take m) H1 ρ σ H v r:=by
 subst O;have Q:ρ.length<=ρ1.length:=by rw[s.len];simp
 have l2:ρ.length<=σ1.length:=by rw[<-s.gs.len];exact Q
 have B:∀{y:Type}{l:List y}{j:Nat}{x:y},(l.take ρ.length)[j]?=some x->l[j]?=some x/\j<ρ.length:=λ{y l j x}q=>by
  rw[getElem?_take]at q;split at q;.exact⟨q,by assumption⟩
  .cases q
 have G:∀{y:Type}{l:List y}{j:Nat}{x:y},j<ρ.length->l[j]?=some x->(l.take ρ.length)[j]?=some x:=λ{y l j x}f q=>by rw[getElem?_take,if_pos f];exact q
 have I:∀{c:Addr},Own (ρ++replicate n .bG) (σ++τ) c->Own ρ σ c:=λ{c}⟨j,⟨t,z,e,p⟩,u⟩=>by
  by_cases f:j<ρ.length;.rw[getElem?_append_left f]at e;rw[getElem?_append_left (by rw[<-g.len];exact f)]at u;exact⟨j,⟨t,z,e,p⟩,u⟩
  . rw[getElem?_append_right (by omega),getElem?_replicate]at e;split at e;.cases e;cases p
    .cases e
 have U:∀{c:Addr},Own ρ σ c->Own (ρ++replicate n .bG) (σ++τ) c:=λ{c}⟨j,⟨t,z,e,p⟩,u⟩=>by have f:j<ρ.length:=(gW e).1;exact⟨j,⟨t,z,by rw[getElem?_append_left f];exact e,p⟩,by rw[getElem?_append_left (by rw[<-g.len];exact f)];exact u⟩
 have C:∀{j:Nat}{c:Addr},bJ (ρ1.take ρ.length) (σ1.take ρ.length) j c->bJ ρ1 σ1 j c:=λ{j c}⟨⟨t,z,e,p⟩,u⟩=>⟨⟨t,z,(B e).1,p⟩,(B u).1⟩;have w:∀{c:Addr}{h:Hp},Own (ρ++replicate n .bG) (σ++τ) c\/h c=none->Own ρ σ c\/h c=none:=λ{c h}q=>q.imp I id;have W:∀{c:Addr}{h:Hp},Own (ρ++replicate n .bG) (σ++τ) c\/nt (h c)=none->Own ρ σ c\/nt (h c)=none:=λ{c h}q=>q.imp I id;refine⟨⟨⟨s.gs.sub,by simp only[length_take];omega,λj b d q=>?_,λj t z q X=>?_,λj k c e p=>s.gs.dis j k c (C e) (C p)⟩,s.cW,λc a b=>W (s.Ax c a b),λc o q n=>s.keep c o q λx=>n (I x),λc⟨j,q⟩=>w (s.Aq c ⟨j,C q⟩),by simp only[length_take];omega,λj t q l=>?_⟩,λv r h=>?_⟩;.obtain⟨h1,J⟩:=B q;obtain⟨v,L,M⟩:=s.gs.val j b d h1;exact⟨v,G J L,M⟩
 .obtain⟨h1,J⟩:=B q;obtain⟨a,xs,L,M⟩:=s.gs.own j t z h1 X;exact⟨a,xs,G J L,M⟩
 .have f:j<ρ.length:=(gW q).1;obtain⟨N,t',Y,Z⟩:=s.lk j t (by rw[getElem?_append_left f];exact q) l;rw[getElem?_append_left (by rw[<-g.len];exact f)]at N;refine⟨?_,t',G f Y,Z⟩;rw[getElem?_take,if_pos f];exact N
 .cases r with|val d=>exact h|own es=>obtain⟨x,xs,e,p,u,q4,q5,q6⟩:=h;exact⟨x,xs,e,p,u,q4,λ⟨j,q⟩=>q5 ⟨j,C q⟩,w q6⟩
end
section
variable{X:Cx}{c:Call}{n:Nat}{e a b d:Expr}{p pa pb pd:P}{pos:Pos}{es:List Expr}{ps:List P}
inductive XQ(K:PySem.W.Frag)(f:List Sl->Res (List Arg))(σ:L2.St)(H:Hp)(Q:List V->Hp->Prop):Prop where|mk(F:Hp)(ρ:List Sl)(as:List Arg)(ρ':List Sl)(g:GS K F ρ σ H)(e:f ρ=.ok as ρ')(k:∀vs F' H',bK K F ρ σ H F' ρ' σ H'->uJ K F' ρ' σ H' ρ H as vs->Q vs H')
def SG(X:Cx)(c:Call)(es:List Expr)(ps:List P):Prop:=PA X es (XQ X.K (qT c ps))
theorem aA:SG X c [] []:=uM fG λσ H Q⟨F,ρ,as,ρ',g,e,k⟩=>by rw[qT]at e;cases e;exact k [] F H (.refl g) .nil
theorem Fb(q:SX X c a pa)(hr:SG X c es ps)(hs:starEach (a::es) X.env=(false,eval a X.env)::starEach es X.env:=by rfl):SG X c (a::es) (pa::ps):=by cases hv:isVar pa with|none=>refine uM (cH q.ev hr hs) ?_;rintro σ H Q⟨F,ρ,as,ρ',g,e,k⟩;rw[qT,hv]at e;obtain⟨r,f,s,e⟩:=ak e;obtain⟨xs,h,j,e⟩:=ak e;cases e;refine⟨F,ρ,r,f,g,s,λv t C s1 u=>⟨t,f,xs,_,s1.gs,j,λvs l m s2 A=>k _ l m (s1.trans s2) (uJ.Rw s1 u s2 A)⟩⟩|some i=>refine uM (cH (q.var i hv) hr hs) ?_;rintro σ H Q⟨F,ρ,as,ρ',g,e,k⟩;rw[qT,hv]at e;obtain⟨x0,w,y,e⟩:=ak e;obtain⟨o,B⟩:=aJ y;subst B;obtain⟨xs,h,j,e⟩:=ak e;cases e;obtain⟨v,h1,_⟩:=g.pk o;exact⟨v,h1,F,ρ,xs,_,g,j,λvs l m s2 A=>k _ l m s2 (.cons h1 A λds x z=>by cases z)⟩
theorem Hz{k f:Nat}{t:Addr}{fd:FuncData}{j:List Str}{p':Pos}(J:gP X.prog X.w X.K X.mg X.base Bt k t fd j (Ey X.K j.length (c f)))(hr:eX k X.A)(L:Gl X x)(M:X.mg x=some (.ref t))(N:keepIn X.K (.ref t)=true)(O:Binds X.K fd j [])(U:SG X c (e::es) ps)(W:(e::es).length=j.length)(u:(x==("__debug__":Str))=false:=by decide)(he:starEach (e::es) X.env=(false,eval e X.env)::starEach es X.env:=by rfl)(hpl:(backTo pos (starEach es X.env)).any (·.1)=false:=by rfl)(y:ps.length=(e::es).length:=by rfl):SX X c (.Call (.Name x p') (e::es) [] pos) (.call f ps):=by
 refine⟨dZ (Gh (E:=E0) J hr L M N O .nil Ud U u he hpl) ?_,λi h=>by cases h⟩;rintro σ H Q⟨F,ρ,r,ρ',g,e,k⟩;rw[HH.E16]at e;obtain⟨as,z,G,e⟩:=ak e;unfold iB at e;split at e;.cases e
 . rename_i args m;split at e
   . rename_i r' l hc;cases e;refine⟨F,ρ,as,z,g,G,λvs Y Z s1 A=>?_⟩;have o:vs.length=j.length:=by
      have:∀{ps:List P}{ρ ρ':List Sl}{as:List Arg},qT c ps ρ=.ok as ρ'->as.length=ps.length:=by intro ps;induction ps with|nil=>intro ρ ρ' as h;rw[qT]at h;cases h;rfl|cons q j I=>
         intro ρ ρ' as h;rw[qT]at h;split at h;.obtain⟨_,_,_,h⟩:=ak h;obtain⟨xs,B,C,h⟩:=ak h;cases h;simp[I C]
         .obtain⟨_,_,_,h⟩:=ak h;obtain⟨xs,B,C,h⟩:=ak h;cases h;simp[I C]
      rw[<-A.len,this G,y,W]
     show Ey X.K j.length (c f) (vs++[]) Z Q E0;rw[append_nil];refine⟨o,Y,args,r,l,args_gs s1.gs A m,hc,λv F' ae H' s rr=>?_⟩;obtain⟨z1,z2⟩:=tH s1 A m s;exact k v F' H' z1 (z2 v r rr)
   .cases e
   .cases e
def Ub(K:PySem.W.Frag)(D:Ends)(h:Hp)(ρ':List Sl)(f:L2.St)(g:Hp)(ρ:List Sl)(σ:L2.St)(H:Hp)(j:Fl):Prop:=match j with|.next=>D.nx f g|.brk=>D.bk f g|.cont=>D.ct f g|.ret r=>∀v,bW K h ρ' f g ρ σ H v r->D.rt v g
inductive Uw(K:PySem.W.Frag)(f:List Sl->Res Fl)(D:Ends)(σ:L2.St)(H:Hp):Prop where|mk(F:Hp)(ρ:List Sl)(fl:Fl)(ρ':List Sl)(g:GS K F ρ σ H)(e:f ρ=.ok fl ρ')(k:∀F' σ' H',bK K F ρ σ H F' ρ' σ' H'->Ub K D F' ρ' σ' H' ρ σ H fl)
def SS(X:Cx)(c:Call)(n:Nat)(st:Stmt)(s:S):Prop:=PS X st (Uw X.K (ex c n s))
def SB(X:Cx)(c:Call)(n:Nat)(st:List Stmt)(s:List S):Prop:=mL X st (Uw X.K (bO c n s))
theorem dI{st:Stmt}{t t':TS}(h:PS X st t)(i:∀D σ H,t' D σ H->t D σ H):PS X st t':=λf s σ H D I q=>h f s σ H D I (i D σ H q)
theorem nH{st:List Stmt}{t t':TS}(h:mL X st t)(i:∀D σ H,t' D σ H->t D σ H):mL X st t':=λf s σ H D I q=>h f s σ H D I (i D σ H q)
theorem xs0{c:Call}:bO c n [] ρ=.ok .next ρ:=rfl
theorem xs1{c:Call}{s:S}{r:List S}:bO c n (s::r) ρ=(ex c n s ρ).bind λfl ρ=>match fl with|.next=>bO c n r ρ|fl=>.ok fl ρ:=rfl
theorem aq:SB X c n [] []:=nH yl λD σ H⟨F,ρ,fl,ρ',g,e,k⟩=>by rw[xs0]at e;cases e;exact k F σ H (.refl g)
theorem aQ{st:Stmt}{s:S}{f:List Stmt}{ss:List S}(h1:SS X c n st s)(o:SB X c n f ss):SB X c n (st::f) (s::ss):=by refine nH (uY h1 o) ?_;rintro D σ H⟨F,ρ,m,ρ',g,e,k⟩;rw[xs1]at e;obtain⟨f1,h,j,e⟩:=ak e;cases f1 with
 |next=>refine⟨F,ρ,.next,h,g,j,λt u B s1=>⟨t,h,m,ρ',s1.gs,e,λw l y s2=>?_⟩⟩;have q:=k w l y (s1.trans s2);cases m with|next=>exact q|brk=>exact q|cont=>exact q|ret r=>exact λv z=>q v (z.later s1)
 |brk=>cases e;exact⟨F,ρ,.brk,_,g,j,k⟩|cont=>cases e;exact⟨F,ρ,.cont,_,g,j,k⟩|ret r=>cases e;exact⟨F,ρ,.ret r,_,g,j,k⟩
theorem HJ(he:SX X c e p)(hs:swapsWith e none pos.line X.env=pure false:=by rfl):SS X c n (.Expr e pos) (.expr p):=by refine dI (rZ he.ev hs) ?_;rintro D σ H⟨F,ρ,m,ρ',g,e,k⟩;rw[HH.X5]at e;obtain⟨r,f,h,e⟩:=ak e;cases e;exact⟨F,ρ,r,_,g,h,λv j l s1 o=>k j σ l s1⟩
theorem T7{t1 g:TE}(h1:PE X e t1)(j:PE X e g):PE X e (λσ H Q=>t1 σ H Q\/g σ H Q):=λf s σ H Q I h=>h.elim (h1 f s σ H Q I) (j f s σ H Q I)
theorem Ku(he:SX X c e p):SS X c n (.Return (some e) pos) (.ret p):=by
 have plain:∀(D:Ends)(σ:L2.St)(H:Hp),(∃F ρ h ρ',GS X.K F ρ σ H/\((HH.ev c p ρ).bind λr ρ=>.ok (Fl.ret r) ρ)=.ok h ρ'/\∀l f j,bK X.K F ρ σ H l ρ' f j->(match h with|.next=>D.nx f j|.brk=>D.bk f j|.cont=>D.ct f j|.ret r=>∀v,bW X.K l ρ' f j ρ σ H v r->D.rt v j))->vN X.K (HH.ev c p) σ H D.rt:=λD σ H⟨F,ρ,h,ρ',g,e,k⟩=>by obtain⟨r,m,o,e⟩:=ak e;cases e;exact⟨F,ρ,r,_,g,o,λv s t s1 u=>k s σ t s1 v u⟩
 cases hv:isVar p with|none=>refine dI (wO he.ev) λD σ H⟨F,ρ,h,ρ',g,e,k⟩=>plain D σ H ⟨F,ρ,h,ρ',g,?_,k⟩;rw[HH.V8,hv]at e;exact e|some i=>--by the name itself:its own list is handed back,else its data
   have w:p=.var i:=by cases p<;>cases hv;rfl
   subst w;refine dI (wO (T7 (he.var i hv) he.ev)) ?_;rintro D σ H⟨F,ρ,h,ρ',g,e,k⟩;rw[HH.V8,hv]at e;dsimp only at e;split at e;.rename_i ds q;cases e;obtain⟨v,h1,y,z⟩:=g.give q;exact .inl ⟨v,h1,k F σ H y v z⟩
   .exact .inr (plain D σ H ⟨F,ρ,h,ρ',g,e,k⟩)
theorem bz{sa sb:List Stmt}{o s:List S}(hc:ST X c e p)(t:SB X c n sa o)(u:SB X c n sb s):SS X c n (.If e sa sb pos) (.ifs p o s):=by refine dI (JG hc t u) ?_;rintro D σ H⟨F,ρ,l,ρ',g,e,k⟩;rw[HH.Yp]at e;obtain⟨x,j,w,e⟩:=ak e;refine⟨F,ρ,x,j,g,w,λy z s1=>?_⟩;have go:∀{f:List Sl->Res Fl},f j=.ok l ρ'->Uw X.K f D σ z:=λ{f}h=>⟨y,j,l,ρ',s1.gs,h,λB m C s2=>by have q:=k B m C (s1.trans s2);cases l with|next=>exact q|brk=>exact q|cont=>exact q|ret r=>exact λv G=>q v (G.later s1)⟩;cases x with|true=>rw[if_pos rfl]at e;exact go e|false=>rw[if_neg Bool.false_ne_true]at e;exact go e
theorem rT{f:Pos}(l:X.N.Nodup)(m:X.N[i]?=some x)(o:Loc X.env.scope x)(he:SX X c e p)(hs:swapsWith e (some (.Name x f)) pos.line X.env=pure false:=by rfl)(q:X.fn x=true\/X.env.scope.names.lookup x=some .local:=by first|exact .inl rfl|exact .inr rfl|assumption):SS X c n (.Assign [.Name x f] e pos) (.asg i p):=by refine dI (Cp l m o he.ev hs q) ?_;rintro D σ H⟨F,ρ,C,ρ',g,e,k⟩;rw[HH.X6]at e;obtain⟨r,j,s,e⟩:=ak e;obtain⟨t,u,h,e⟩:=ak e;cases e;have w:=aJ h;clear h;obtain⟨h,G⟩:=w;exact⟨F,ρ,r,j,g,s,λv y z s1 B=>k y _ z (s1.put B h)⟩
end
end HH
end
section
namespace L2
open PySem PySem.Spec PyProof.Rows
variable{env:Env}{scope:Scope}{X:Cx}
noncomputable def tZ(X:Cx)(scope:Scope)(N':List Str)(cl:List (Str×Addr))(C:Addr)(s₀:Shared)(H₀:Hp)(ex:List Addr):Cx:={X with N:=N',s₀:=s₀,H₀:=H₀,env:=compEnvC scope cl C X.env,outer:=X.stack,stack:=X.stack,ex:=ex,fn:=λx=>scope.names.lookup x==some .cell,pn:=[],xe:=λ_ _=>False}
theorem wK(l:List (Str×NameKind)):∀(b:List (Str×Addr)),(∀n,(n,NameKind.free)∈l->∃c,env.cells.lookup n=some c)->(∀n c,b.lookup n=some c->env.cells.lookup n=some c)->∃ cl,(forIn l b (λ(x:Str × NameKind)(r:List (Str × Addr))=>(if(x.2==NameKind.free)=true then(do let a<-cellOf env x.1;pure (ForInStep.yield ((x.1,a)::r)))else pure (ForInStep.yield r):Sem (ForInStep (List (Str × Addr))))):Sem (List (Str × Addr)))=pure cl/\(∀n c,cl.lookup n=some c->env.cells.lookup n=some c)/\(∀n,((n,NameKind.free)∈l\/(b.lookup n).isSome)->(cl.lookup n).isSome):=by induction l with|nil=>intro b _ h;exact⟨b,rfl,h,λn hn=>by rcases hn with hn|hn;cases hn;exact hn⟩|cons y l j=>
   obtain⟨n,k⟩:=y;intro b f hc;rw[List.forIn_cons];by_cases g:k=.free
   . subst g;obtain⟨a,o⟩:=f n mem_cons_self;obtain⟨cl,e,h1,i⟩:=j ((n,a)::b) (λm hm=>f m (mem_cons_of_mem _ hm)) λm c hm=>by
      rw[lookup_cons]at hm;split at hm;.rename_i q;have q:=eq_of_beq q;subst q;cases hm;exact o
      .exact hc m c hm
     refine⟨cl,?_,h1,λm hm=>i m ?_⟩
     . rw[<-e];have:cellOf env n=pure a:=by unfold cellOf;rw[o]
       simp only[beq_self_eq_true,if_true,this];rfl
     . rcases hm with hm|hm
       . rcases mem_cons.mp hm with hm|hm;.cases hm;right;simp[lookup_cons]
         .exact .inl hm
       . right;rw[lookup_cons];split;.rfl
         .exact hm
   . obtain⟨cl,e,h1,i⟩:=j b (λm hm=>f m (mem_cons_of_mem _ hm)) hc;refine⟨cl,?_,h1,λm hm=>i m ?_⟩
     . rw[<-e];have:(k==NameKind.free)=false:=by simpa using g
       simp only[this,false_eq_true,if_false];rfl
     . rcases hm with hm|hm
       . rcases mem_cons.mp hm with hm|hm;.cases hm;exact absurd rfl g
         .exact .inl hm
       .exact .inr hm
theorem wM(a:∀n,(n,NameKind.free)∈scope.names->∃c,env.cells.lookup n=some c):∃cl,closureFor scope env=pure cl/\(∀n c,cl.lookup n=some c->env.cells.lookup n=some c)/\∀n,(n,NameKind.free)∈scope.names->(cl.lookup n).isSome:=by obtain⟨cl,e,h1,b⟩:=wK (env:=env) scope.names [] a (by simp);refine⟨cl,?_,h1,λn f=>b n (.inl f)⟩;unfold closureFor;exact(congrArg (λt=>t>>=λr=>pure r) e).trans rfl
theorem dg{env:Env}:∀(names:List (Str×NameKind))(x:Str),(names.map λ(n,k)=>if(k==NameKind.free&&env.scope.kind==.function&&env.kindOf n==some .cell)then(n,NameKind.cell)else(n,k)).lookup x=(names.lookup x).map λk=>if(k==NameKind.free&&env.scope.kind==.function&&env.kindOf x==some .cell)=true then NameKind.cell else k
 |[],x=>rfl|(n,k)::r,x=>by
   have a:=dg (env:=env) r x;show List.lookup x ((if(k==NameKind.free&&env.scope.kind==.function&&env.kindOf n==some .cell)=true then(n,NameKind.cell)else(n,k))::_)=_;by_cases hc:(k==NameKind.free&&env.scope.kind==.function&&env.kindOf n==some .cell)=true;.rw[if_pos hc,lookup_cons,lookup_cons];cases hx:x==n with|true=>have:=eq_of_beq hx;subst this;show some NameKind.cell=some (if _ then _ else _);rw[if_pos hc]|false=>exact a
   .rw[if_neg hc,lookup_cons,lookup_cons];cases hx:x==n with|true=>have:=eq_of_beq hx;subst this;show some k=some (if _ then _ else _);rw[if_neg hc]|false=>exact a
noncomputable def SN(N N':List Str)(a:Scope):Bool:=(N.zip N').all λp=>(p.1==p.2&&a.names.lookup p.2==some .free)||(a.names.lookup p.2!=some .local&&a.names.lookup p.2!=some .cell&&a.names.lookup p.2!=some .free)
structure eN(X:Cx)(scope:Scope)(N':List Str)(n:Nat):Prop where
 kind:scope.kind=.function
 cons:∀y∈scope.names,scope.names.lookup y.1=some y.2
 names:∀y∈scope.names,y.2=.local->scope.names.lookup y.1=some .local
 cap:∀y∈scope.names,y.2=.free->X.env.scope.names.lookup y.1=some .cell\/X.env.scope.names.lookup y.1=some .free
 len:N'.length=X.N.length+n
 same:SN X.N N' scope=true
theorem eN.get{N':List Str}{n:Nat}(c:eN X scope N' n){i:Nat}{x:Str}(g:i<X.N.length)(h:N'[i]?=some x)(a:FJ (relabel scope X.env) x):X.N[i]?=some x/\scope.names.lookup x=some .free:=by
 have hz:(X.N.zip N')[i]?=some (X.N[i],x):=by rw[List.getElem?_zip_eq_some];exact⟨by simp[g],h⟩
 have:=(all_eq_true.mp c.same) _ (mem_of_getElem? hz);simp only[or_eq_true,and_eq_true]at this;rcases this with⟨h1,b⟩|⟨⟨h1,b⟩,f⟩;.have h1:=eq_of_beq h1;have b:=eq_of_beq b;exact⟨by simp[g,h1],b⟩
 . exfalso;have h1:scope.names.lookup x≠some .local:=by simpa using h1
   have b:scope.names.lookup x≠some .cell:=by simpa using b
   have f:scope.names.lookup x≠some .free:=by simpa using f
   have e:=dg (env:=X.env) scope.names x;have a:(relabel scope X.env).names.lookup x=some .local\/(relabel scope X.env).names.lookup x=some .cell\/(relabel scope X.env).names.lookup x=some .free:=a;rw[show(relabel scope X.env).names.lookup x=_ from e]at a;cases q:scope.names.lookup x with|none=>rw[q]at a;simp at a|some k=>
     rw[q]at a h1 b f;have j:(k==NameKind.free)=false:=by cases k<;>first|rfl|exact absurd rfl f
     simp only[Option.map_some,j,Bool.false_and,false_eq_true,if_false,Option.some.injEq]at a;rcases a with rfl|rfl|rfl;.exact h1 rfl
     .exact b rfl
     .exact f rfl
structure CI(cl:List (Str×Addr))(z:Nat)(h:Heap)(acc:List (Str×Addr)):Prop where from':∀n c,acc.lookup n=some c->cl.lookup n=some c\/(z<=c/\h.IsCell c none)inj:∀n n' c,acc.lookup n=some c->acc.lookup n'=some c->n=n'
theorem BZ{cl:List (Str×Addr)}{z:Nat}(i:∀n c,cl.lookup n=some c->c<z):∀(names:List (Str×NameKind))(h:Heap)(f:List (Str×Addr)),z<=h.objs.size->CI cl z h f->CI cl z (pushCells h names) (cellsFrom h.objs.size names f)/\(∀n,(f.lookup n).isSome->((cellsFrom h.objs.size names f).lookup n).isSome)/\(∀n,((∃c,f.lookup n=some c/\z<=c)\/(n,NameKind.cell)∈names)->∃c,(cellsFrom h.objs.size names f).lookup n=some c/\z<=c)/\(∀n c,(n,NameKind.cell)∉names->(cellsFrom h.objs.size names f).lookup n=some c->f.lookup n=some c)
 |[],h,f,hz,x=>by
   refine⟨x,λ_ q=>q,λn q=>?_,λ_ _ _ q=>q⟩;rcases q with q|q;.exact q
   .cases q|(name,kind)::r,h,f,hz,x=>by
   unfold pushCells cellsFrom;by_cases l:kind=.cell
   . subst l;rw[if_pos (by rfl),if_pos (by rfl)];have p:CI cl z (h.push {cls:=.type "cell",data:=.cell none}) ((name,h.objs.size)::f):=by
      have lt:∀n c,f.lookup n=some c->c<h.objs.size:=λn c e=>by
       rcases x.from' n c e with q|q;.exact lt_of_lt_of_le (i n c q) hz
       .exact q.2.lt
      refine⟨λn c e=>?_,λn m c e j=>?_⟩
      . rw[lookup_cons]at e;split at e;.cases e;exact .inr ⟨hz,_,get?_push_size _ rfl,rfl⟩
        . rcases x.from' n c e with q|q;.exact .inl q
          .exact .inr ⟨q.1,q.2.keeps λb o e=>gG e⟩
      . rw[lookup_cons]at e j;split at e<;>split at j;.rename_i _ a _ b;rw[eq_of_beq a,eq_of_beq b]
        .cases e;exact absurd (lt m _ j) (lt_irrefl _)
        .cases j;exact absurd (lt n _ e) (lt_irrefl _)
        .exact x.inj n m c e j
     have g:=BZ i r (h.push {cls:=.type "cell",data:=.cell none}) ((name,h.objs.size)::f) (by rw[size_push];omega) p;rw[size_push]at g;refine⟨g.1,λn q=>g.2.1 n ?_,λn q=>g.2.2.1 n ?_,λn c q e=>?_⟩
     . rw[lookup_cons];split;.rfl
       .exact q
     . rcases q with⟨c,e,hc⟩|q
       . left;rw[lookup_cons];split;.exact⟨_,rfl,hz⟩
         .exact⟨c,e,hc⟩
       . rcases mem_cons.mp q with q|q;.cases q;left;exact⟨_,by simp[lookup_cons],hz⟩
         .exact .inr q
     . have:=g.2.2.2 n c (λz=>q (mem_cons_of_mem _ z)) e;rw[lookup_cons]at this;split at this;.rename_i a;exact absurd (by rw[eq_of_beq a];exact mem_cons_self) q
       .exact this
   . have k:(kind==NameKind.cell)=false:=by simpa using l
     rw[if_neg (by rw[k];decide),if_neg (by rw[k];decide)];have g:=BZ i r h f hz x;refine⟨g.1,g.2.1,λn q=>g.2.2.1 n ?_,λn c q e=>g.2.2.2 n c (λz=>q (mem_cons_of_mem _ z)) e⟩;rcases q with q|q;.exact .inl q
     . rcases mem_cons.mp q with q|q;.cases q;exact absurd rfl l
       .exact .inr q
structure CJ(X:Cx)(scope:Scope)(z:Nat)(h:Heap)(cs:List (Str×Addr)):Prop where
 from':∀n c,cs.lookup n=some c->X.env.cells.lookup n=some c\/(z<c/\h.IsCell c none)inj:∀n n' c,cs.lookup n=some c->cs.lookup n'=some c->n=n'
 has:∀n,(scope.names.lookup n=some .free\/scope.names.lookup n=some .cell)->∃c,cs.lookup n=some c
 fre:∀n c,scope.names.lookup n=some .free->cs.lookup n=some c->X.env.cells.lookup n=some c
 own:∀n c,scope.names.lookup n=some .cell->cs.lookup n=some c->z<c
theorem Ac{M:Model}{A:Around}{E:Value->Shared->Prop}{s:Shared}{N':List Str}{n:Nat}{cl:List (Str×Addr)}{Q:Env->Shared->Prop}(ok:eN X scope N' n)(h:∀n c,X.env.cells.lookup n=some c->c<s.heap.objs.size)(f:∀x y c,X.env.cells.lookup x=some c->X.env.cells.lookup y=some c->x=y)(a:∀n c,cl.lookup n=some c->X.env.cells.lookup n=some c)(m:∀n,(n,NameKind.free)∈scope.names->(cl.lookup n).isSome)(p:∀ k h',h'.Ns s.heap.objs.size (λ_=>none)->(∀ b o,s.heap.get? b=some o->h'.get? b=some o)->CJ X scope s.heap.objs.size h' k->Q {scope:=scope,locals:=s.heap.objs.size,globals:=X.env.globals,cells:=k,qual:=X.env.qual,func:=none,code:=X.env.code,frame:=X.env.frame,builtins:=X.env.builtins} {s with heap:=h'}):wpAny M A (newFunctionEnv scope X.env.globals cl [] X.env.qual none .none (some X.env)) Q E s:=by
 simp only[newFunctionEnv,Option.isSome_some,if_true];refine wpAny_bind (wpAny_alloc ?_);refine wpAny_bind (wpAny_layCells _ (λname kind cells=>by cases i:kind==NameKind.cell<;>simp[i]) _ _ _ _ ?_);have r:=BZ (cl:=cl) (z:=s.heap.objs.size+1) (λn c e=>Nat.lt_succ_of_lt (h n c (a n c e))) scope.names (s.heap.push {cls:=.type "dict",data:=.dict #[]}) cl (by rw[size_push];exact cD) ⟨λn c e=>.inl e,λn l c e g=>f n l c (a n c e) (a l c g)⟩;obtain⟨c1,c2,c3,c4⟩:=r;rw[show({s with heap:=s.heap.push {cls:=.type "dict",data:=.dict #[]}}:Shared).heap.objs.size=(s.heap.push {cls:=.type "dict",data:=.dict #[]}).objs.size from rfl];refine wpAny_bind ?_;rw[List.forIn_nil];refine wpAny_pure (wpAny_pure (p _ _ ((Heap.Ns.new s.heap (.type "dict")).keeps (pushCells_keeps _ _)) (λb o e=>pushCells_keeps _ _ b o (gG e)) ⟨λn c e=>?_,c1.inj,λn q=>?_,λn c q e=>?_,λn c q e=>?_⟩))
 . rcases c1.from' n c e with z|z;.exact .inl (a n c z)
   .exact .inr ⟨z.1,z.2⟩
 . rcases q with q|q;.exact Option.isSome_iff_exists.mp (c2 n (m n (PySem.mem_of_lookup q)))
   .obtain⟨c,e,_⟩:=c3 n (.inr (PySem.mem_of_lookup q));exact⟨c,e⟩
 .refine a n c (c4 n c (λz=>?_) e);have:=ok.cons _ z;rw[q]at this;cases this
 .obtain⟨t,g,j⟩:=c3 n (.inr (PySem.mem_of_lookup q));rw[e]at g;cases g;exact j
section
variable{X:Cx}{pins:List (Addr×Obj)}{σ:L2.St}{H:Hp}{s:Shared}{scope:Scope}{N':List Str}{n:Nat}{fp:List Addr}{cl:List (Str×Addr)}
theorem Bf{h1:Heap}{m:Str->Option Value}{t:Nat}{Z:List (Str×Addr)}(ok:eN X scope N' n)(I:Inv X pins σ H s)(N:∀b∈fp,mG X pins H b/\b<s.heap.objs.size)(w:CJ X scope s.heap.objs.size h1 Z)(hn:h1.Ns s.heap.objs.size m)(j:∀b u,s.heap.get? b=some u->h1.get? b=some u):Inv (tZ X scope N' Z s.heap.objs.size s H fp) [] (σ++replicate n none) H {s with heap:=h1,toks:=t}:=by
 have Vf:∀x,scope.names.lookup x=some .free->(relabel scope X.env).names.lookup x=some .cell\/(relabel scope X.env).names.lookup x=some .free:=λx h=>by
  have e:=dg (env:=X.env) scope.names x;rw[h]at e;have O:(relabel scope X.env).names.lookup x=_:=e;rw[O];simp only[Option.map_some];split;.exact .inl rfl
  .exact .inr rfl
 refine⟨⟨I.ok.mod,ok.kind,I.ok.glob,I.ok.blt,cD,λx y c h1 h2=>w.inj x y c h1 h2,λx z=>?_,λx c h e=>le_of_lt (w.own x c (eq_of_beq (show(scope.names.lookup x==some NameKind.cell)=true from h)) e),I.ok.hd,I.ok.frames,.inl rfl,λb C=>?_,I.bs,le_trans I.ok.DW I.sz,λb u e C=>?_,λb C Q=>?_,I.stack,I.mY⟩,rfl,I.bare,Un.kept j,⟨m,hn,λi x v e1 G hv=>?_⟩,λx c e=>?_,I.hok.fresh (cD),λx c e=>?_,λp hp=>(by cases hp),I.hok.kept j,?_⟩;.--a Vg name has its cell
   have z:(relabel scope X.env).names.lookup x=some .cell\/(relabel scope X.env).names.lookup x=some .free:=z;have e:=dg (env:=X.env) scope.names x;have O:(relabel scope X.env).names.lookup x=_:=e;rw[O]at z;refine w.has x ?_;cases q:scope.names.lookup x with|none=>rw[q]at z;simp at z|some k=>
     rw[q]at z;by_cases hk:k=.free;.rw[hk];exact .inl rfl
     . have g:(k==NameKind.free)=false:=by simpa using hk
       simp only[Option.map_some,g,Bool.false_and,false_eq_true,if_false,Option.some.injEq]at z;rcases z with rfl|rfl;.exact .inr rfl
       .exact absurd rfl hk
 . obtain⟨f,lt⟩:=N b C;refine⟨ne_of_lt lt,λx c e=>?_⟩;rcases w.from' x c e with e|e;.exact f.2.2.2.2.1 x c e
   .rintro rfl;exact absurd (Nat.lt_trans e.1 lt) (lt_irrefl _)
 . obtain⟨f,lt⟩:=N b C;rcases f.2.2.2.1 with h|h;.exact I.ok.vA b u e h
   .have this:b<X.base.objs.size:=lt_size e;exact absurd (lt_of_lt_of_le this (le_trans I.ok.DW h)) (lt_irrefl _)
 . obtain⟨f,lt⟩:=N b C;rcases mem_cons.mp (I.nP b Q)with h|h;.exact f.2.1 h
   .exact f.2.2.1 h
 .--the names
   have M:i<σ.length:=by
    by_cases M:i<σ.length;.exact M
    .rw[getElem?_append_right (by omega),getElem?_replicate]at G;split at G<;>cases G
   rw[getElem?_append_left M]at G;obtain⟨U,o⟩:=ok.get (by rw[<-I.len];exact M) e1 hv;have hk:=ok.cap (x,.free) (PySem.mem_of_lookup o) rfl;obtain⟨m0,ae,hl⟩:=I.loc;obtain⟨u,r,l⟩:=hl i x v U G (.inr hk);refine⟨u,r,.inr ⟨Vf x o,?_⟩⟩;rcases l with⟨g,_⟩|⟨_,c,hc,B⟩;.have g:X.env.scope.names.lookup x=some .local:=g;rcases hk with hk|hk<;>(rw[g]at hk;cases hk)
   .obtain⟨c',J⟩:=w.has x (.inl o);have:=w.fre x c' o J;rw[hc]at this;cases this;refine⟨c,J,?_⟩;obtain⟨L,W,Y⟩:=B;exact⟨L,j c L W,Y⟩
 . rcases w.from' x c e with e|e;.obtain⟨v,L,W,Y⟩:=I.cell x c e;exact⟨v,L,j c L W,Y⟩
   .exact⟨_,e.2⟩
 . rcases w.from' x c e with e|e;.exact I.eU x c e
   .exact I.hok.fresh (le_of_lt e.1)
 .show(σ++replicate n none).length=N'.length;rw[length_append,length_replicate,I.len,ok.len]
theorem rB{prog:Program}{w:World}{A:Around}{R:Result->Shared->Prop}{p a iter:Expr}{ifs:List Expr}{pos:Pos}{it q:Value}(I:Nat->Shared->Prop)(turn:∀ n s,I n s->wpAny (model prog w) A (pyNext it) (λr b=>match r with|none=>R (.ok .next) b|some v=>wpAny (model prog w) A (letOwnedTupleGo a it v) (λ_ b=>wpAny (model prog w) A (assign a env v) (λ_ j=>wpAny (model prog w) A (forIn ifs true λc r=>if r=true then do let ok<-isTrue c env (eval c env);pure (ForInStep.yield ok)else pure (ForInStep.yield r)) (λok g=>if ok=true then wpAny (model prog w) A (eval p env) (λx k=>wpAny (model prog w) A (call (.builtin "list.append") [q,x]) (λ_ l=>∃m,m<n/\I m l) (notedBy (model prog w) A env λe i=>R (.error e) i) k) (notedBy (model prog w) A env λe i=>R (.error e) i) g else ∃m,m<n/\I m g) (notedBy (model prog w) A env λe i=>R (.error e) i) j) (notedBy (model prog w) A env λe i=>R (.error e) i) b) (notedBy (model prog w) A env λe i=>R (.error e) i) b) (notedBy (model prog w) A env λe i=>R (.error e) i) s)(n:Nat){s:Shared}(h:I n s):codeAny (model prog w) A (.compLoop (.ListComp p [⟨a,iter,ifs,0⟩] scope pos) 0 it q env) R s:=by refine codeAny_loop rfl I (λn s z=>?_) n h;show wpAny _ A ((compTurn (.ListComp p [⟨a,iter,ifs,0⟩] scope pos) 0 it q env).onRaise (λx=>do noteFrame x env;theTreesLotGoes x)) _ _ s;refine wpAny_noted ?_;rw[compTurn_list];refine wpAny_bind (wpAny_standAt (wpAny_bind (wpAny_mono (turn n s z) (λr b f=>?_) λ_ _ h'=>h')));cases r with|none=>exact wpAny_pure f|some v=>refine wpAny_bind (wpAny_mono f (λ_ b f=>?_) λ_ _ h'=>h');refine wpAny_bind (wpAny_mono f (λ_ j t=>wpAny_bind (wpAny_mono t (λok g o=>?_) λ_ _ h'=>h')) λ_ _ h'=>h');cases ok with|false=>exact wpAny_pure ⟨rfl,o⟩|true=>exact wpAny_bind (wpAny_bind (wpAny_mono o (λx k u=>wpAny_bind (wpAny_mono u (λ_ l y=>wpAny_pure (wpAny_pure ⟨rfl,y⟩)) λ_ _ h'=>h')) λ_ _ h'=>h'))
def OJ(X:Cx)(ifs:List Expr)(t:TT):Prop:=∀(pins:List (Addr × Obj))(s:Shared)(σ:L2.St)(H:Hp)(Q:Bool->Hp->Prop),Inv X pins σ H s->t σ H Q->wpAny (model X.prog X.w) X.A (forIn ifs true λc r=>if r=true then do let ok<-isTrue c X.env (eval c X.env);pure (ForInStep.yield ok)else pure (ForInStep.yield r)) (TP X pins σ Q) X.xe s
theorem Gq:OJ X [] (λ_ H Q=>Q true H):=λpins s σ H Q I h=>wpAny_tests_nil ⟨H,I,h⟩
theorem Hc{c:Expr}{t:TT}(h:PT X c t):OJ X [c] t:=λpins s σ H Q I q=>wpAny_tests_one (h pins s σ H Q I q)
def IK(J:It)(g:TG)(tt:TT)(te:TE)(D:Addr)(Q:Hp->Prop)(W:Nat->Nat->List V->L2.St->Hp->Prop):Prop:=∀ i m ys σ H,W i m ys σ H->H D=some (.lst ys)/\((J.stop i H/\Q H)\/(J.go i H/\∀ x e,J.Il i H x e->g x σ e λa j=>tt a j λb f=>if b=true then te a f λy h=>h D=some (.lst ys)/\ys.length<sizeLine/\∃c,c<m/\W (i+1) c (ys++[y]) a (upd h D (.lst (ys++[y])))else ∃c,c<m/\W (i+1) c ys a f))
theorem qy{E:Value->Shared->Prop}{ag a iter:Expr}{ifs:List Expr}{pos:Pos}{it:Addr}{tn:Nat->Heap->Prop}{J:It}{g:TG}{tt:TT}{te:TE}{Q:Addr->Hp->Prop}{RR:Value->Addr->Result->Shared->Prop}(hc:X.calm=true)(ok:eN X scope N' n)(I:Inv X pins σ H s)(ba:∀n c,cl.lookup n=some c->X.env.cells.lookup n=some c)(xG:∀n,(n,NameKind.free)∈scope.names->(cl.lookup n).isSome)(T:Turn X.prog X.w X.K a J fp it tn)(h0:tn 0 s.heap)(hf:∀b∈fp,mG X pins H b)(hg:∀cl C s₀ H₀ ex,PG (tZ X scope N' cl C s₀ H₀ ex) a g)(ht:∀cl C s₀ H₀ ex,OJ (tZ X scope N' cl C s₀ H₀ ex) ifs tt)(he:∀cl C s₀ H₀ ex,PE (tZ X scope N' cl C s₀ H₀ ex) ag te)(hw:∀D,H D=none->∃W,(∃m,W 0 m [] (σ++replicate n none) (upd H D (.lst [])))/\IK J g tt te D (Q D) W)(bg:∀D C B l,Q D l->(∃m,B.heap.Ns C m)->mG X pins l C->Inv X pins σ l B->RR (.ref D) C (.ok .next) B):wpAny (model X.prog X.w) X.A (newList []) (λav aw=>wpAny (model X.prog X.w) X.A (newFunctionEnv scope X.env.globals cl [] X.env.qual none .none (some X.env)) (λai ax=>codeAny (model X.prog X.w) X.A (.compStart (.ListComp ag [⟨a,iter,ifs,0⟩] scope pos) 0 (.ref it) av {ai with scope:=relabel scope X.env}) (RR av ai.locals) ax) E aw) E s:=by
 refine wpAny_newObj_type (Ac ok (λx c e=>?lt) I.ok.inj ba xG (λcs M am hold bc=>?_));case lt=>obtain⟨v,z⟩:=I.cell x c e;exact lt_of_lt_of_le z.lt (by show _<=(s.heap.push _).objs.size;rw[size_push];exact le_succ _)
 dsimp only at am hold bc ⊢--the new list,tracked
 have I3:Inv X pins σ (upd H s.heap.objs.size (.lst [])) {s with heap:=s.heap.push {cls:=.type "list",data:=.seq ([]:List Value).toArray}}:=I.Nj (t':=s.toks) .nil (uI);generalize ap:({s with heap:=s.heap.push {cls:=.type "list",data:=.seq ([]:List Value).toArray}}:Shared)=s3 at I3;have bi:s3.heap.objs.size=s.heap.objs.size+1:=by rw[<-ap];exact size_push _ _
 have J1:s3.heap=s.heap.push {cls:=.type "list",data:=.seq ([]:List Value).toArray}:=by rw[<-ap]
 obtain⟨W,⟨m0,w0⟩,turn⟩:=hw s.heap.objs.size I.fresh;have ay:∀{h':Heap},(∀b o,s.heap.get? b=some o->h'.get? b=some o)->tn 0 h':=λk=>T.keep _ _ _ h0 λb j o e=>k b o e;have W0:∀b∈fp,mG X pins (upd H s.heap.objs.size (.lst [])) b/\b<s3.heap.objs.size:=λb j=>by obtain⟨o,e,_⟩:=T.obj 0 _ h0 b j;have lt:=lt_size e;obtain⟨f1,f2⟩:=hf b j;exact⟨⟨by rw[aG (ne_of_lt lt)];exact f1,f2⟩,by rw[bi];exact Nat.lt_succ_of_lt lt⟩
 rw[<-J1]at am hold bc ⊢;have I4:=Bf (t:=s3.toks) ok I3 W0 bc am hold;have Vh:∀b o,s.heap.get? b=some o->M.get? b=some o:=λb o e=>hold b o (by rw[J1];exact gG e);generalize U:tZ X scope N' cs s3.heap.objs.size s3 (upd H s.heap.objs.size (.lst [])) fp=G at I4;have hA:G.A=X.A:=by rw[<-U];rfl
 have N:G.prog=X.prog:=by rw[<-U];rfl
 have O:G.w=X.w:=by rw[<-U];rfl
 have aE:G.K=X.K:=by rw[<-U];rfl
 have Y:G.calm=true:=by rw[<-U];exact hc
 have W2:G.xe=λ_ _=>False:=by rw[<-U];rfl
 have aI:G.env=compEnvC scope cs s3.heap.objs.size X.env:=by rw[<-U];rfl
 have bn:PG G a g:=by rw[<-U];exact hg _ _ _ _ _
 have bo:OJ G ifs tt:=by rw[<-U];exact ht _ _ _ _ _
 have bp:PE G ag te:=by rw[<-U];exact he _ _ _ _ _
 have ff:∀{l:Hp}{b:Addr},b∈fp->l b=none->mG G [] l b:=λ{l b}j hn=>by
  obtain⟨f,lt⟩:=W0 b j;rw[<-U];refine⟨hn,ne_of_lt lt,λbq=>?_,.inl j,λx c e=>?_,λp hp=>by cases hp⟩
  . rcases mem_cons.mp (I3.nP b bq)with h|h;.exact f.2.1 h
    .exact f.2.2.1 h
  . rcases bc.from' x c e with e|e;.exact f.2.2.2.2.1 x c e
    .rintro rfl;exact absurd (Nat.lt_trans e.1 lt) (lt_irrefl _)--behind the block
 have fin:∀{L:L2.St}{l:Hp}{B:Shared},Inv G [] L l B->Q s.heap.objs.size l->RR (.ref s.heap.objs.size) s3.heap.objs.size (.ok .next) B:=λ{L l B}J' q=>by
  rw[<-U]at J';have hC:l s3.heap.objs.size=none:=J'.free;obtain⟨hh,gg,dd,br,bv⟩:=B;have bE:bv=s3.os:=J'.os;subst bE;refine bg _ _ _ l q (let⟨m,hm,_⟩:=J'.loc;⟨m,hm⟩) ?_ (I3.call (h':=hh) (g':=gg) (d':=dd) (t':=br) (ch:=fp) J'.base J'.hok J'.bare λb j=>?_);.exact I3.Cv (cD) hC
  .obtain⟨f,lt⟩:=W0 b j;exact⟨f.2.2.2.1,f.2.1,f.2.2.2.2.1,f.2.2.2.2.2⟩
 have ae:codeAny (model X.prog X.w) X.A (.compLoop (.ListComp ag [⟨a,iter,ifs,0⟩] scope pos) 0 (.ref it) (.ref s.heap.objs.size) G.env) (RR (.ref s.heap.objs.size) s3.heap.objs.size) {s3 with heap:=M,toks:=s3.toks}:=by
  refine rB (λk B=>∃i ys L l,Inv G [] L l B/\tn i B.heap/\(∀b∈fp,l b=none)/\W i k ys L l) (λk s5 hI=>?_) m0 ⟨0,[],_,_,I4,ay Vh,λb j=>(W0 b j).1.1,w0⟩;obtain⟨i,ys,ah,H5,I5,t5,f5,w5⟩:=hI;obtain⟨hD,ar⟩:=turn i k ys ah H5 w5;have W3:∀{Z:Value->Shared->Prop},∀(e:Value)(B:Shared),G.xe e B->Z e B:=λe B z=>by rw[W2]at z;exact False.elim z
  rcases ar with⟨stop,q⟩|⟨go,step⟩;.have z:=T.done G N O aE Y i [] s5 ah H5 (λ_ _=>False) I5 (λb j=>ff j (f5 b j)) t5 stop;rw[hA]at z;refine wpAny_mono z (?_) λ_ _ z=>False.elim z;rintro r s6⟨hr,I6⟩;subst hr;exact fin I6 q
  . have z:=T.item G N O aE Y i [] s5 ah H5 (λ_ _=>False) I5 (λb j=>ff j (f5 b j)) t5 go;rw[hA]at z;refine wpAny_mono z (?_) λ_ _ z=>False.elim z;rintro r s6⟨u,hr,z6⟩;subst hr;refine wpAny_mono z6 (?_) λ_ _ z=>False.elim z;rintro _ s7⟨x,H7,I7,r7,y7,t7,f7⟩;have bP:=I7.pinned (λb j=>ff j (f7 b j)) (T.obj _ _ t7)--what the pins keep
    have back:∀{L:L2.St}{l:Hp}{B:Shared},Inv G ([]++nR fp s7.heap) L l B->Inv G [] L l B/\tn (i+1) B.heap/\∀b∈fp,l b=none:=λ{L l B}J'=>by refine⟨J'.j8,T.keep _ _ _ t7 λb j o e=>(J'.pin (b,o) (mem_append_right _ (mem_append_right _ (gF j e)))).1,λb j=>?_⟩;obtain⟨o,e,_⟩:=T.obj _ _ t7 b j;exact(J'.pin (b,o) (mem_append_right _ (mem_append_right _ (gF j e)))).2.1
    have z7:=bn _ s7 ah H7 x u _ bP r7 (step x H7 y7);rw[hA,N,O]at z7;refine wpAny_mono z7 (?_) W3;rintro _ s8⟨af,H8,I8,q8⟩;have z8:=bo _ s8 af H8 _ I8 q8;rw[hA,N,O]at z8;refine wpAny_mono z8 (?_) W3;rintro b s9⟨H9,I9,q9⟩;cases b with|false=>rw[if_neg Bool.false_ne_true]at q9 ⊢;obtain⟨m',hm,w'⟩:=q9;obtain⟨b1,b2,b3⟩:=back I9;exact⟨m',hm,i+1,ys,af,H9,b1,b2,b3,w'⟩|true=>rw[if_pos rfl]at q9 ⊢;have z9:=bp _ s9 af H9 _ I9 q9;rw[hA,N,O]at z9;refine wpAny_mono z9 (?_) W3;rintro y U3⟨yv,aS,bS,bX,cb,aT,m',hm,w'⟩;have a8:=qj _ U3 af aS (.ref s.heap.objs.size) [yv] (.ref s.heap.objs.size) [y] (λv a9=>a9=upd aS s.heap.objs.size (.lst (ys++[yv]))) bS rfl (.cons bX .nil) ⟨_,ys,yv,rfl,rfl,cb,aT,rfl⟩;rw[hA,N,O]at a8;refine wpAny_mono a8 (?_) W3;rintro _ QX⟨_,a9,cc,_,cf⟩;subst cf;obtain⟨b1,b2,b3⟩:=back cc;exact⟨m',hm,i+1,ys++[yv],af,_,b1,b2,b3,w'⟩
 have e3:({s3 with heap:=M,toks:=s3.toks}:Shared)={s with heap:=M}:=by rw[<-ap]
 rw[aI,e3]at ae;exact codeAny_compStart_list ae (T.self _ 0 _ _ _ (ay Vh) ae)
end
section
variable{X:Cx}{elt target iter:Expr}{ifs:List Expr}{scope:Scope}{pos:Pos}{N':List Str}{n:Nat}{wi:TI}{g:TG}{tt:TT}{te:TE}
def yz(n:Nat)(wi:TI)(g:TG)(tt:TT)(te:TE):TE:=λa H Q=>wi a H λJ b=>∀D,b D=none->∃W,(∃m,W 0 m [] (a++replicate n none) (upd b D (.lst [])))/\IK J g tt te D (λc=>Q (.ref D) c) W
theorem jY{a:List (Addr×Obj)}{b:L2.St}{H:Hp}{s:Shared}(I:Inv X a b H s)(ok:eN X scope N' n):∃cl,closureFor scope X.env=pure cl/\(∀n c,cl.lookup n=some c->X.env.cells.lookup n=some c)/\∀n,(n,NameKind.free)∈scope.names->(cl.lookup n).isSome:=wM λm e=>I.ok.has m (ok.cap (m,.free) e rfl)
theorem Ft(hc:X.calm=true)(ok:eN X scope N' n)(t:PI X target iter wi)(u:∀cl C s₀ H₀ ex,PG (tZ X scope N' cl C s₀ H₀ ex) target g)(y:∀cl C s₀ H₀ ex,OJ (tZ X scope N' cl C s₀ H₀ ex) ifs tt)(he:∀cl C s₀ H₀ ex,PE (tZ X scope N' cl C s₀ H₀ ex) elt te)(hs:∀x,foldedSetIterable iter X.env x=pure x:=by intro _;rfl):PE X (.ListComp elt [⟨target,iter,ifs,0⟩] scope pos) (yz n wi g tt te):=by intro a s r H Q I h;obtain⟨cl,c,i,z⟩:=jY I ok;rw[eval_ListComp];refine wpAny_comprehension_free (use:=none) rfl hs c ok.kind ok.names (cJ (t a s r H _ I h) λv s1 h1=>cJ h1 λB s2 G=>?_);obtain⟨it,W,Y,J,Z,rfl,L,T,t0,f2,M⟩:=G;refine qy (Q:=λD j=>Q (.ref D) j) (RR:=λk C=>compPost (model X.prog X.w) X.A X.xe none (EP X a r Q) k C) hc ok L i z T t0 f2 u y he M λD C N j q l f O=>?_;obtain⟨m,l⟩:=l;refine⟨m,l,λh' p=>⟨.ref D,j,?_,rfl,q⟩⟩;exact O.turned (t':=N.toks) (λb o U e=>p.extBut b o U e) f.1 f.2.1 f.2.2.2.1 f.2.2.2.2.1 f.2.2.2.2.2
theorem Hx{i:Nat}{x:Str}{c j:Pos}(hc:X.calm=true)(Y:X.N.Nodup)(r:X.N[i]?=some x)(Z:Loc X.env.scope x)(ok:eN X scope N' n)(hi:PI X target iter wi)(hg:∀cl C s₀ H₀ ex,PG (tZ X scope N' cl C s₀ H₀ ex) target g)(ht:∀cl C s₀ H₀ ex,OJ (tZ X scope N' cl C s₀ H₀ ex) ifs tt)(he:∀cl C s₀ H₀ ex,PE (tZ X scope N' cl C s₀ H₀ ex) elt te)(t:swapsWith (.ListComp elt [⟨target,iter,ifs,0⟩] scope pos) (some (.Name x c)) j.line X.env=pure true)(hs:∀x,foldedSetIterable iter X.env x=pure x:=by intro _;rfl)(hf:X.fn x=true\/X.env.scope.names.lookup x=some .local:=by first|exact .inl rfl|exact .inr rfl|assumption):PS X (.Assign [.Name x c] (.ListComp elt [⟨target,iter,ifs,0⟩] scope pos) j) (Kp (yz n wi g tt te) (p6 i)):=by
 intro f s W H D I h;obtain⟨cl,k,u,xG⟩:=jY I ok;rw[exec_Assign_Name_used _ _ _ _ t];refine wpAny_bind (wpAny_standAt (wpAny_bind ?_));show wpAny _ X.A (do let _<-comprehension (.ListComp elt [⟨target,iter,ifs,0⟩] scope pos) scope X.env _ (newList []) false (eval iter X.env) (some (assign (.Name x c) X.env))) _ _ s;refine wpAny_bind (wpAny_mono (wpAny_comprehension_free (use:=some (assign (.Name x c) X.env)) (Q:=λ_ p=>SP X f D .next p) rfl hs k ok.kind ok.names (cJ (hi f s W H _ I h) λv s1 h1=>cJ h1 λae s2 h2=>?_)) (λ_ p hq=>wpAny_pure (wpAny_pure hq)) λ_ _ e=>e);obtain⟨it,fp,tn,J,H2,rfl,I2,T,t0,f2,hw⟩:=h2;refine qy (Q:=λDa y=>D.nx (W.set i (some (.ref Da))) y) (RR:=λB C=>compPost (model X.prog X.w) X.A X.xe (some (assign (.Name x c) X.env)) (λ_ p=>SP X f D .next p) B C) hc ok I2 u xG T t0 f2 hg ht he hw λDa C p y q G l I'=>?_;obtain⟨m,G⟩:=G;show wpAny _ X.A (assign (.Name x c) X.env (.ref Da)) _ _ _;refine wpAny_assign_Name (qe I' Y r Z (show RelV (.ref Da) (.ref Da)from rfl) (?_) hf);rintro L M⟨a,sb,ha⟩;have O:C≠a:=by
  rcases ha with rfl|ha;.exact l.2.1
  .exact λz=>l.2.2.2.2.1 x a ha z.symm
 refine⟨m,G.sameBut sb O,λh' U=>⟨_,y,?_,q⟩⟩;exact M.turned (t':=L.toks) (λb o hb e=>U.extBut b o hb e) l.1 l.2.1 l.2.2.2.1 l.2.2.2.2.1 l.2.2.2.2.2
def Ym(K:PySem.W.Frag)(c:TE):TI:=λe H R=>c e H λx b=>∃a,x=.ref a/\(((∃xs,dJ K b a xs)/\R (MN K a) b)\/((∃xs,gA K b a xs)/\R (Qd K a) b))
theorem CT{u l:Expr}{r:TE}(w:PE X l r):PI X u l (Ym X.K r):=by
 intro f s y H R I h;refine cJ (w f s y H _ I h) ?_;rintro v s1⟨x,t,c,r1,j⟩;obtain⟨a,e,j⟩:=j;subst e;cases r1;rcases j with⟨⟨xs,k⟩,q⟩|⟨⟨xs,k⟩,q⟩
 . obtain⟨i,z,p,hz⟩:=c.list k;refine wpAny_pyIter_list p.isList ?_;refine⟨s1.heap.objs.size,[s1.heap.objs.size],_,_,t,rfl,c.kept (t':=s1.toks) λb o e=>gG e,zm a _,⟨_,get?_push_size _ rfl,rfl,rfl⟩,λb m=>?_,q⟩;have e:b=s1.heap.objs.size:=by simpa using m
   subst e;exact c.Cv (cD) (c.hok.fresh (cD))
 . obtain⟨i,z,p,hz⟩:=c.tuple k;refine wpAny_pyIter_tuple (show s1.heap.IsTuple a i.toArray from p) ?_;refine⟨s1.heap.objs.size,[s1.heap.objs.size],_,_,t,rfl,c.kept (t':=s1.toks) λb o e=>gG e,vW a _,⟨_,get?_push_size _ rfl,rfl,rfl⟩,λb m=>?_,q⟩;have e:b=s1.heap.objs.size:=by simpa using m
   subst e;exact c.Cv (cD) (c.hok.fresh (cD))
end
end L2
end
section
namespace HH
open PySem L2 PySem.Spec PyProof.Rows
variable{v:V}{i m:Nat}{K:PySem.W.Frag}{F H:Hp}{ρ:List Sl}{σ:L2.St}{x:Str}{p':Pos}{is:List Nat}{s:Shared}{u':Value}
structure Walk(K:PySem.W.Frag)(F:Hp)(ρ:List Sl)(σ:L2.St)(H:Hp)(ul:List Sl->List Sl)(J:It)(ds:List D)(F1:Hp)(ρ1:List Sl)(H1:Hp):Prop where
 gs:GS K F1 ρ1 σ H1
 src:∀(n k:Nat)(F':Hp)(ρ':List Sl)(σ':L2.St)(H':Hp),bK K F1 (ρ1++replicate n .bG) (σ++replicate n none) H1 F' ρ' σ' H'->(∀d,ds[k]?=some d->J.go k H'/\∀x mJ,J.Il k H' x mJ->∃F'',Ext F' H' F'' mJ/\Rep K F'' x d)/\(ds.length<=k->J.stop k H')fin:∀F2 ρ2 σ2 H2,bK K F1 ρ1 σ H1 F2 ρ2 σ2 H2->bK K F ρ σ H F2 (ul ρ2) σ2 H2/\∀v r,bW K F2 ρ2 σ2 H2 ρ1 σ H1 v r->bW K F2 (ul ρ2) σ2 H2 ρ σ H v r
inductive tIt(K:PySem.W.Frag)(iv:Option Nat)(f:Ev)(σ:L2.St)(H:Hp)(R:It->Hp->Prop):Prop where|mk(F:Hp)(ρ:List Sl)(ds:List D)(ρ1:List Sl)(g:GS K F ρ σ H)(e:srcOf iv f ρ=.ok ds ρ1)(k:∀J F1 H1,Walk K F ρ σ H (bj ρ iv) J ds F1 ρ1 H1->R J H1)
section
variable{K:PySem.W.Frag}{F F1 H H1:Hp}{ρ ρ1:List Sl}{σ:L2.St}{ds:List D}{a:Addr}
theorem Gn{xs:List V}{f b:Hp}(g:gA K b a xs)(r:aD K f xs ds)(s:aM f b)(k:Nat):(∀d,ds[k]?=some d->(Qd K a).go k b/\∀x j,(Qd K a).Il k b x j->∃c,Ext f b c j/\Rep K c x d)/\(ds.length<=k->(Qd K a).stop k b):=by refine⟨λd hd=>?_,λh=>⟨xs,g,by rw[r.length];exact h⟩⟩;obtain⟨w,h1,l⟩:=r.get hd;refine⟨⟨xs,w,g,h1⟩,?_⟩;rintro x j⟨e,y⟩;subst e;have:=y xs g;rw[h1]at this;cases this;exact⟨f,.refl s,l⟩
theorem uv{xs:List V}{f b:Hp}(g:dJ K b a xs)(r:aD K f xs ds)(s:aM f b)(k:Nat):(∀d,ds[k]?=some d->(MN K a).go k b/\∀x j,(MN K a).Il k b x j->∃c,Ext f b c j/\Rep K c x d)/\(ds.length<=k->(MN K a).stop k b):=by refine⟨λd hd=>?_,λh=>⟨xs,g,by rw[r.length];exact h⟩⟩;obtain⟨w,h1,l⟩:=r.get hd;refine⟨⟨xs,w,g,h1⟩,?_⟩;rintro x j⟨e,y⟩;subst e;have:=y xs g;rw[h1]at this;cases this;exact⟨f,.refl s,l⟩
theorem tR{ul:List Sl->List Sl}{d:D}(s:bK K F ρ σ H F1 ρ1 σ H1)(r:Rep K F1 v d)(h:items d=some ds)(fin:∀f b c g,bK K F1 ρ1 σ H1 f b c g->bK K F ρ σ H f (ul b) c g/\∀v r,bW K f b c g ρ1 σ H1 v r->bW K f (ul b) c g ρ σ H v r):∃a,v=.ref a/\(((∃xs,dJ K H1 a xs)/\Walk K F ρ σ H ul (MN K a) ds F1 ρ1 H1)\/((∃xs,gA K H1 a xs)/\Walk K F ρ σ H ul (Qd K a) ds F1 ρ1 H1)):=by cases d with|tup p=>cases h;rw[Rep]at r;obtain⟨a,xs,rfl,h1,j⟩:=r;exact⟨a,rfl,.inr ⟨⟨xs,aM.gY s.gs.sub h1⟩,s.gs,λn k q l o t e=>Gn (aM.gY e.gs.sub (aM.gY e.cW h1)) (j.mono e.cW) e.gs.sub k,fin⟩⟩|lst p=>cases h;rw[Rep]at r;obtain⟨a,xs,rfl,h1,j⟩:=r;exact⟨a,rfl,.inl ⟨⟨xs,s.gs.sub.seq h1⟩,s.gs,λn k q l o t e=>uv (e.gs.sub.seq (e.cW.seq h1)) (j.mono e.cW) e.gs.sub k,fin⟩⟩|_=>cases h
theorem qi{ul:List Sl->List Sl}(g:GS K F ρ1 σ H)(e:ρ1[i]?=some (.lent ds))(fin:∀f b c h,bK K F ρ1 σ H f b c h->bK K F ρ σ H f (ul b) c h/\∀v r,bW K f b c h ρ1 σ H v r->bW K f (ul b) c h ρ σ H v r):∃a,σ[i]?=some (some (.ref a))/\(∃xs,dJ K H a xs)/\Walk K F ρ σ H ul (MN K a) ds F ρ1 H:=by obtain⟨a,xs,h1,q,G,I⟩:=g.oA i _ ds e rfl;have l:i<ρ1.length:=(gW e).1;refine⟨a,h1,⟨xs,dJ.of q⟩,g,λn k J u w L j=>?_,fin⟩;obtain⟨o,t,y,z⟩:=j.lk i _ (by rw[getElem?_append_left l];exact e) rfl;cases(show t=.lent ds from z);rw[getElem?_append_left (by rw[<-g.len];exact l),h1]at o;obtain⟨M,ys,p,B,N,C⟩:=j.gs.oA i _ ds y rfl;rw[o]at p;cases p;exact uv (dJ.of B) C j.gs.sub k
end
section
variable{X:Cx}{c:Call}{n:Nat}{e a b d tg:Expr}{p pa pb pd:P}{pos:Pos}
theorem uR{t t':TI}(h:PI X tg e t)(i:∀σ H R,t' σ H R->t σ H R):PI X tg e t':=λf s σ H R I q=>h f s σ H R I (i σ H R q)
def SI(X:Cx)(c:Call)(tg e:Expr)(p:P):Prop:=PI X tg e (tIt X.K (isVar p) (HH.ev c p))
theorem fJ(h:SX X c e p):SI X c tg e p:=by unfold SI;cases hv:isVar p with|none=>refine uR (CT h.ev) ?_;rintro σ H R⟨F,ρ,ds,u,g,e,k⟩;obtain⟨r,f,M,t⟩:=ak e;have y:=aJ t;clear t;obtain⟨t,B⟩:=y;subst B;refine⟨F,ρ,r,_,g,M,λv Y Z s C=>?_⟩;obtain⟨l,s2,_,N⟩:=s.fM C;obtain⟨a,G,I⟩:=tR (ul:=bj ρ none) s2 N t λF3 O Q H3 s3=>⟨s2.trans s3,λv r C=>C.later s2⟩;exact⟨a,G,I.imp (λ⟨z,w⟩=>⟨z,k _ _ _ w⟩) (λ⟨z,w⟩=>⟨z,k _ _ _ w⟩)⟩|some i=>
   refine uR (CT (h.var i hv)) ?_;rintro σ H R⟨F,ρ,ds,u,g,e,k⟩;unfold srcOf at e;dsimp only at e;split at e
   . rename_i b d q;have y:=aJ e;clear e;obtain⟨t,B⟩:=y;subst B;obtain⟨v,h1,U⟩:=g.val i b d q;have fin:∀l f j o,bK X.K F ρ σ H l f j o->bK X.K F ρ σ H l (bj ρ (some i) f) j o/\∀v r,bW X.K l f j o ρ σ H v r->bW X.K l (bj ρ (some i) f) j o ρ σ H v r:=λl f j o s=>by unfold bj;dsimp only;rw[q];exact⟨s,λ_ _ z=>z⟩
     obtain⟨a,G,I⟩:=tR (ul:=bj ρ (some i)) (.refl g) U t fin;exact⟨v,h1,a,G,I.imp (λ⟨z,w⟩=>⟨z,k _ _ _ w⟩) (λ⟨z,w⟩=>⟨z,k _ _ _ w⟩)⟩
   . rename_i b J q;cases e;have W:i<ρ.length:=(gW q).1;have fin:∀l f j o,bK X.K F (ρ.set i (.lent ds)) σ H l f j o->bK X.K F ρ σ H l (bj ρ (some i) f) j o/\∀v r,bW X.K l f j o (ρ.set i (.lent ds)) σ H v r->bW X.K l (bj ρ (some i) f) j o ρ σ H v r:=λl f j o s=>by unfold bj;dsimp only;rw[q];exact bK.bj g q s
     obtain⟨a,h1,L,w⟩:=qi (ul:=bj ρ (some i)) (g.lend q) (getElem?_set_self W) fin;exact⟨_,h1,a,rfl,.inl ⟨L,k _ _ _ w⟩⟩
   . rename_i J q;cases e;have fin:∀l f j o,bK X.K F ρ σ H l f j o->bK X.K F ρ σ H l (bj ρ (some i) f) j o/\∀v r,bW X.K l f j o ρ σ H v r->bW X.K l (bj ρ (some i) f) j o ρ σ H v r:=λl f j o s=>by unfold bj;dsimp only;rw[q];exact⟨s,λ_ _ z=>z⟩
     obtain⟨a,h1,L,w⟩:=qi (ul:=bj ρ (some i)) g q fin;exact⟨_,h1,a,rfl,.inl ⟨L,k _ _ _ w⟩⟩
   .cases e
theorem uD{g l:Hp}{f:List Sl}(s:bK K F ρ σ H g f σ l)(i j:Int):Walk K F ρ σ H (bj ρ none) (RB i (j-i).toNat) ((List.range (j-i).toNat).map λ(k:Nat)=>D.int (i+(k:Int))) g f l:=by
 refine⟨s.gs,λn k q t u L w=>⟨λd hd=>?_,λh=>?_⟩,λM y z N s3=>⟨s.trans s3,λv r B=>B.later s⟩⟩;.rw[getElem?_map]at hd;obtain⟨m,C,G⟩:=map_some hd;obtain⟨h1,o⟩:=gW C;rw[List.getElem_range]at o;subst o;subst G;rw[length_range]at h1;refine⟨h1,?_⟩;rintro x O⟨I,J⟩;subst I;subst J;exact⟨q,.refl w.gs.sub,cA _⟩
 .rw[length_map,length_range]at h;exact h
theorem mW(t:x="range")(u:Gl X x)(w:X.mg x=none)(y:SX X c a pa)(hs:starEach [a] X.env=[(false,eval a X.env)]:=by rfl):SI X c tg (.Call (.Name x p') [a] [] pos) (.xu (.con (.int 0)) pa):=by
 subst t;obtain⟨W,h1,z⟩:=y.gw;refine uR (zK u w (cH h1 fG hs) hs) ?_;rintro σ H R⟨F,ρ,ds,B,g,e,k⟩;obtain⟨r,C,q,h⟩:=ak e;have l:=aJ h;clear h;obtain⟨h,G⟩:=l;subst G;rw[HH.E21]at q;obtain⟨Y,I,J,f⟩:=ak q;have l:=aJ f;clear f;obtain⟨f,L⟩:=l;subst L;obtain⟨Z,M,N,o⟩:=ak J;cases o;obtain⟨i,f1,f⟩:=dC f;obtain⟨j,f2,f⟩:=dC f;obtain⟨⟨b1,b2,b3,b4⟩,f⟩:=bA f;have f1:i=0:=by cases f1;rfl
 subst f1;subst f;cases h;cases fV f2;refine z g N λv O Q s U=>⟨j,by rw[U.int],by omega,by omega,?_⟩;have:=uD s 0 j;rw[Int.sub_zero]at this;refine k _ O Q ?_;rw[Int.sub_zero];exact this
theorem GP(y:x="range")(z:Gl X x)(B:X.mg x=none)(C:SX X c a pa)(G:SX X c b pb)(hs:starEach [a,b] X.env=[(false,eval a X.env),(false,eval b X.env)]:=by rfl)(h:starEach [b] X.env=[(false,eval b X.env)]:=by rfl):SI X c tg (.Call (.Name x p') [a,b] [] pos) (.xu pa pb):=by subst y;obtain⟨Z,tb,h1,I,J⟩:=C.gR G;refine uR (zc z B (cH h1 (cH I fG h) (by rw[hs,h])) hs h) ?_;rintro σ H R⟨F,ρ,ds,L,g,e,k⟩;obtain⟨r,M,o,l⟩:=ak e;have q:=aJ l;clear l;obtain⟨l,N⟩:=q;subst N;rw[HH.E21]at o;obtain⟨xy,O,Q,f⟩:=ak o;have q:=aJ f;clear f;obtain⟨f,U⟩:=q;subst U;obtain⟨i,f1,f⟩:=dC f;obtain⟨j,f2,f⟩:=dC f;obtain⟨⟨b1,b2,b3,b4⟩,f⟩:=bA f;subst f;cases l;refine J g Q λv u W Y s t w=>⟨i,j,?_,by omega,k _ W Y (uD s i j)⟩;have o:=fV f1;have l:=fV f2;rw[o]at t;rw[l]at w;rw[t.int,w.int]
end
section
variable{X:Cx}{c:Call}{n:Nat}{e a b d tg iter:Expr}{p pa pb pd:P}{pos:Pos}{body:List Stmt}{ss:List S}
def Uk(K:PySem.W.Frag)(j:List Sl->D->Option (List Sl))(g:TG):Prop:=∀(x:V)(d:D)(F:Hp)(ρ f:List Sl)(σ:L2.St)(H:Hp)(Q:L2.St->Hp->Prop),GS K F ρ σ H->Rep K F x d->j ρ d=some f->(∀h,bK K F ρ σ H F f h H->Q h H)->g x σ H Q
theorem Hf(i:Nat):Uk K (λρ d=>put ρ i (.val false d)) (p6 i):=λx d F ρ f σ H Q g r h k=>k _ (bK.put (r:=.val d) (.refl g) r h)
theorem o4:∀{is:List Nat}{ds:List D}{ρ f:List Sl},putAll ρ is ds=some f->ds.length=is.length|[],[],_,_,_=>rfl|[],_::_,_,_,h=>by simp[putAll]at h|_::_,[],_,_,h=>by simp[putAll]at h|i::is,d::ds,ρ,f,h=>by rw[putAll]at h;obtain⟨g,k,j⟩:=dC h;simp[o4 j]
theorem Nk{g:TG}{one:Bool}(hp:PassesOwn (model X.prog X.w) X.A X.env X.xe)(hc:X.calm=true)(hi:SI X c tg iter p)(hg:PG X tg g)(ae:Uk X.K (λρ d=>di ρ is one d) g)(hb:SB X c n body ss)(hs:∀x,foldedSetIterable iter X.env x=pure x:=by intro _;rfl):SS X c n (.For tg iter body [] pos) (.gZ p is one ss):=by
 refine dI (Ma hp hc hi hg hb hs) ?_;rintro D σ H⟨F,ρ,fl,t,g0,e,k⟩;rw[HH.XF]at e;obtain⟨ds,o,e1,e⟩:=ak e;obtain⟨ag,I,e2,e⟩:=ak e;cases e;refine⟨F,ρ,ds,o,g0,e1,λJ U H1 w=>?_⟩;have src:∀(i:Nat)(W:Hp)(t:List Sl)(h:L2.St)(j:Hp),bK X.K U o σ H1 W t h j->(∀d,ds[i]?=some d->J.go i j/\∀x mJ,J.Il i j x mJ->∃L,Ext W j L mJ/\Rep X.K L x d)/\(ds.length<=i->J.stop i j):=λi W t h j s=>w.src 0 i W t h j (by simpa using s);refine⟨λi m q Y=>∃G f,bK X.K U o σ H1 G f q Y/\m=ds.length-i/\i<=ds.length/\gM is one (bO c n ss) (ds.drop i) f=.ok fl I,⟨_,U,o,.refl w.gs,rfl,uI,e2⟩,?_⟩;rintro i m q Y⟨G,f,Z,rfl,ah,l⟩;obtain⟨s1,s2⟩:=src i G f q Y Z;by_cases u:i<ds.length
 . right;have hd:ds[i]?=some ds[i]:=by simp[u]
   obtain⟨go,step⟩:=s1 _ hd;refine⟨go,λh j=>∃m',m'<ds.length-i/\∃G f,bK X.K U o σ H1 G f h j/\m'=ds.length-(i+1)/\i+1<=ds.length/\gM is one (bO c n ss) (ds.drop (i+1)) f=.ok fl I,λh j z=>z,λx j y=>?_⟩;obtain⟨F2,ext,rx⟩:=step x j y;have M:=Z.trans (ext.stp Z.gs);rw[drop_eq_getElem_cons u,gM]at l;cases hbd:di f is one ds[i]with|none=>rw[hbd]at l;cases l|some N=>rw[hbd]at l;obtain⟨O,B,eb,l⟩:=ak l;refine ae x _ F2 f N q j _ M.gs rx hbd λai sb=>?_;have C:=M.trans sb;refine⟨F2,N,O,B,C.gs,eb,λF4 Q H4 s4=>?_⟩;have W4:=C.trans s4;cases O with|next=>exact⟨_,by omega,F4,B,W4,rfl,u,l⟩|cont=>exact⟨_,by omega,F4,B,W4,rfl,u,l⟩|brk=>cases l;exact k F4 Q H4 (w.fin _ _ _ _ W4).1|ret r=>cases l;intro v rr;obtain⟨z1,z2⟩:=w.fin _ _ _ _ W4;exact k F4 Q H4 z1 v (z2 v r (rr.later C))
 . left;have af:ds.drop i=[]:=by rw[List.drop_eq_nil_iff];omega
   rw[af,gM]at l;cases l;exact⟨s2 (by omega),k G q Y (w.fin _ _ _ _ Z).1⟩
theorem zq(i:Nat):(λ(ρ:List Sl)(d:D)=>di ρ [i] true d)=λρ d=>put ρ i (.val false d):=by funext ρ d;rfl
theorem G9{f:Pos}(h:PassesOwn (model X.prog X.w) X.A X.env X.xe)(hc:X.calm=true)(j:X.N.Nodup)(g:X.N[i]?=some x)(k:Loc X.env.scope x)(l:SI X c (.Name x f) iter p)(o:SB X c n body ss)(hs:∀x,foldedSetIterable iter X.env x=pure x:=by intro _;rfl)(q:X.fn x=true\/X.env.scope.names.lookup x=some .local:=by first|exact .inl rfl|exact .inr rfl|assumption):SS X c n (.For (.Name x f) iter body [] pos) (.gZ p [i] true ss):=Nk h hc l (fj j g k q) (by rw[zq];exact Hf i) o hs
theorem qD(U:PassesOwn (model X.prog X.w) X.A X.env X.xe)(W:ST X c e p)(Y:SB X c n body ss):SS X c n (.While e body [] pos) (.whl p ss):=by refine dI (tD U W Y) ?_;rintro D σ H⟨F,ρ,G,o,g,e,k⟩;rw[HH.X14]at e;refine⟨λm j I=>∃q f,bK X.K F ρ σ H q f j I/\lC (dY (HH.ev c p)) (bO c n ss) m f=.ok G o,⟨n,F,ρ,.refl g,e⟩,?_⟩;rintro m j I⟨q,f,J,h⟩;cases m with|zero=>rw[lC]at h;cases h|succ m=>rw[lC]at h;obtain⟨b,t,Z,h⟩:=ak h;refine⟨q,f,b,t,J.gs,Z,λL H1 s1=>?_⟩;have s2:=J.trans s1;cases b with|false=>rw[if_neg Bool.false_ne_true]at h;cases h;exact k L j H1 s2|true=>rw[if_pos rfl]at h;obtain⟨u,l,eb,h⟩:=ak h;refine(show ∃N:L2.St->Hp->Prop,_/\_ from⟨λy M=>∃O,O<m+1/\∃q f,bK X.K F ρ σ H q f y M/\lC (dY (HH.ev c p)) (bO c n ss) O f=.ok G o,λy M z=>z,L,t,u,l,s2.gs,eb,λC B Q s4=>?_⟩);have s5:=s2.trans s4;cases u with|next=>exact⟨m,by omega,C,l,s5,h⟩|cont=>exact⟨m,by omega,C,l,s5,h⟩|brk=>cases h;exact k C B Q s5|ret r=>cases h;exact λv rr=>k C B Q s5 v (rr.later s2)
end
section
variable{X:Cx}{c:Call}{n:Nat}{e elt tg iter:Expr}{p ps pe:P}{pos:Pos}{scope:Scope}{N':List Str}{ifs:List Expr}
theorem O5{t t':TE}(h:PE X e t)(i:∀σ H Q,σ.length=X.N.length->t' σ H Q->t σ H Q):PE X e t':=λa s σ H Q I q=>h a s σ H Q I (i σ H Q I.len q)
theorem KC{st:Stmt}{t t':TS}(h:PS X st t)(i:∀D σ H,σ.length=X.N.length->t' D σ H->t D σ H):PS X st t':=λa s σ H D I q=>h a s σ H D I (i D σ H I.len q)
def pL(K:PySem.W.Frag)(m:Nat)(is:List Nat)(one:Bool)(g:TG):Prop:=∀(x:V)(d:D)(F:Hp)(ρ b:List Sl)(σ:L2.St)(H:Hp)(Q:L2.St->Hp->Prop),GS K F ρ σ H->Rep K F x d->di ρ is one d=some b->(∀a,bK K F ρ σ H F b a H->a.take m=σ.take m->Q a H)->g x σ H Q
theorem take_set{b:Type}{l:List b}{a:b}(h:m<=i):(l.set i a).take m=l.take m:=by rw[List.take_set_of_le h]
theorem iV(h:m<=i):pL K m [i] true (p6 i):=λx d F ρ a σ H Q g r b k=>k _ (bK.put (r:=.val d) (.refl g) r b) (take_set h)
def Ih(K:PySem.W.Frag)(m:Nat)(is:List Nat)(gs:Ek):Prop:=∀(xs:List V)(ds:List D)(F:Hp)(ρ b:List Sl)(σ:L2.St)(H:Hp)(Q:L2.St->Hp->Prop),GS K F ρ σ H->aD K F xs ds->putAll ρ is ds=some b->(∀a,bK K F ρ σ H F b a H->a.take m=σ.take m->Q a H)->gs xs σ H Q
theorem uV{gs:Ek}(j:m<=i)(l:Ih K m is gs):Ih K m (i::is) (Jy (p6 i) gs):=by intro xs ds F ρ a σ H Q g r h k;cases ds with|nil=>simp[putAll]at h|cons d ds=>obtain⟨v,vs,rfl,h1,o⟩:=r.cB;rw[putAll]at h;obtain⟨b,q,t⟩:=dC h;have s1:=bK.put (r:=.val d) (.refl g) h1 q;exact⟨v,vs,rfl,l vs ds F b a _ H _ s1.gs o t λf s2 z=>k f (s1.trans s2) (z.trans (take_set j))⟩
theorem Gi:Ih K m [] TQ:=by intro xs ds F ρ a σ H Q g r h k;cases ds with|nil=>rw[putAll]at h;cases h;exact⟨r.fX,k σ (.refl g) rfl⟩|cons d ds=>simp[putAll]at h
theorem Ge{gs:Ek}{l:Nat}(o:l=is.length)(h:Ih K m is gs):pL K m is false (RK K l gs):=by intro x d F ρ b σ H Q g r f k;cases d with|tup ds=>replace f:putAll ρ is ds=some b:=f;rw[Rep]at r;obtain⟨a,xs,rfl,h1,j⟩:=r;exact⟨a,xs,rfl,aM.gY g.sub h1,by rw[j.length,o4 f,o],h xs _ F ρ b σ H Q g j f k⟩|_=>cases f
def SQ(X:Cx)(c:Call)(ifs:List Expr)(t:Option P):Prop:=OJ X ifs (Jr X.K (wZ c t))
theorem mZ:SQ X c [] none:=λa s σ H Q I⟨F,ρ,k,ρ',g,e,q⟩=>by rw[wZ]at e;cases e;exact Gq a s σ H Q I (q F H (.refl g))
theorem xZ(h:ST X c e p):SQ X c [e] (some p):=λa s σ H Q I⟨F,ρ,k,ρ',g,e,q⟩=>by rw[wZ]at e;exact Hc h a s σ H Q I ⟨F,ρ,k,ρ',g,e,q⟩
theorem bK.Rt{j k:Hp}{f:List Sl}{g:L2.St}{Da:Addr}{o:HO}(s:bK K F ρ σ H j f g k)(h:H Da=none)(r:j Da=none)(ho:¬ Own f g Da):bK K F ρ σ H j f g (upd k Da o):=by
 refine⟨⟨λb u e=>?_,s.gs.len,s.gs.val,λi t ds e l=>?_,s.gs.dis⟩,s.cW,s.Ax,λb u e n=>?_,s.Aq,s.len,s.lk⟩
 . have:b≠Da:=by rintro rfl;rw[r]at e;cases e
   rw[aG this];exact s.gs.sub b u e
 . obtain⟨a,xs,q,w,y,z⟩:=s.gs.own i t ds e l;have:a≠Da:=by rintro rfl;exact ho ⟨i,⟨t,ds,e,l⟩,q⟩
   exact⟨a,xs,q,by rw[aG this];exact w,y,z⟩
 . have:b≠Da:=by rintro rfl;rw[h]at e;cases e
   rw[aG this];exact s.keep b u e n
theorem Cy{b r:List Sl}{ul:List Sl->List Sl}{ti:TI}{one:Bool}{u:List Sl->Res Bool}{el:Ev}{g:TG}{Q:VK}{ds xs:List D}(hm:σ.length=m)(ap:pL K m is one g)(ar:∀R:It->Hp->Prop,(∀J U Z,Walk K F ρ σ H ul J ds U b Z->R J Z)->ti σ H R)(ax:ds.length<=lim)(e2:turns is one u el ds [] (b++replicate n .bG)=.ok xs r)(k:∀v F' H',bK K F ρ σ H F' (ul (r.take b.length)) σ H'->bW K F' (ul (r.take b.length)) σ H' ρ σ H v (.own xs)->Q v H'):yz n ti g (Jr K u) (vN K el) σ H Q:=by
 refine ar _ λJ U Z w Da W=>?_;have av:b.length=σ.length:=w.gs.len;have gm:=w.gs.more (n:=n) (τ:=replicate n none) (by simp);have fD:U Da=none:=by cases q:U Da with|none=>rfl|some o=>rw[w.gs.sub Da o q]at W;cases W
 have nO:¬ Own (b++replicate n .bG) (σ++replicate n none) Da:=λ⟨i,⟨t,dt,q1,q2⟩,q3⟩=>by obtain⟨a,ys,z1,z2,_⟩:=gm.own i t dt q1 q2;rw[q3]at z1;cases z1;rw[W]at z2;cases z2
 refine⟨λi mm ys f I=>∃G h l,bK K U (b++replicate n .bG) (σ++replicate n none) Z G h f I/\f.take m=σ/\I Da=some (.lst ys)/\G Da=none/\¬ Own h f Da/\aD K G ys l/\l.length<=i/\mm=ds.length-i/\i<=ds.length/\turns is one u el (ds.drop i) l h=.ok xs r,⟨_,U,_,[],(bK.refl gm).Rt W fD nO,by rw[List.take_append_of_le_length (by omega),take_of_length_le (by omega)],bh,fD,nO,.nil,uI,rfl,uI,e2⟩,?_⟩;rintro i mm ys f I⟨G,h,l,si,L,hD,hF,hO,rs,ay,rfl,aE,j⟩;refine⟨hD,?_⟩--what stays of the new list through a step
 have stay:∀{M Y:Hp}{N:List Sl}{B:L2.St},bK K G h f I M N B Y->Y Da=some (.lst ys)/\M Da=none/\¬ Own N B Da:=λ{M Y N B}s=>by
  refine⟨s.keep Da _ hD hO,?_,λo=>?_⟩;.cases q:M Da with|none=>rfl|some o=>
      rcases s.Ax Da hF (by rw[q];simp)with z|z;.exact absurd z hO
      .exact(Bv hD z).elim
  . rcases s.Aq Da o with z|z;.exact hO z
    .rw[hD]at z;cases z
 obtain⟨s1,s2⟩:=w.src n i G h f I si;by_cases C:i<ds.length
 . right;have hd:ds[i]?=some ds[i]:=by simp[C]
   obtain⟨go,step⟩:=s1 _ hd;refine⟨go,λx Y y=>?_⟩;obtain⟨M,ext,rx⟩:=step x Y y;have t2:=ext.stp si.gs;rw[drop_eq_getElem_cons C,turns]at j;cases hbd:di h is one ds[i]with|none=>rw[hbd]at j;cases j|some ae=>rw[hbd]at j;obtain⟨bb,O,eb,j⟩:=ak j;refine ap x _ M h ae f Y _ t2.gs rx hbd λB sb af=>?_;have t3:=t2.trans sb;refine⟨M,ae,bb,O,t3.gs,eb,λF4 H4 s4=>?_⟩;have t4:=t3.trans s4;cases bb with|false=>rw[if_neg Bool.false_ne_true]at j;obtain⟨y1,y2,y3⟩:=stay t4;exact⟨_,by omega,F4,O,l,si.trans t4,af.trans L,y1,y2,y3,rs.mono t4.cW,by omega,rfl,C,j⟩|true=>
       rw[if_pos rfl]at j;obtain⟨re,ag,ee,j⟩:=ak j;refine(show vN K el B H4 _ from⟨F4,O,re,ag,t4.gs,ee,λv F5 H5 s5 rr=>?_⟩);obtain⟨F6,s6,_,rp⟩:=s5.fM rr;have t6:=t4.trans s6;obtain⟨y1,y2,y3⟩:=stay t6;have ah:ys.length<sizeLine:=by have h1:=rs.length;have h2:lim=sizeLine:=rfl;omega
       exact⟨y1,ah,_,by omega,F6,ag,l++[re.d],(si.trans t6).Rt W y2 y3,af.trans L,bh,y2,y3,(rs.mono t6.cW).append (.cons rp .nil),by simp;omega,rfl,C,j⟩
 . left;have aw:ds.drop i=[]:=by rw[List.drop_eq_nil_iff];omega
   rw[aw,turns]at j;cases j;refine⟨s2 (by omega),?_⟩;obtain⟨l1,l2⟩:=bK.less (m:=b.length) rfl w.gs (by simp) si;have ai:f.take b.length=σ:=by rw[av,hm];exact L
   rw[ai]at l1;have rr:bW K G r f I (b++replicate n .bG) (σ++replicate n none) Z (.ref Da) (.own xs):=⟨Da,ys,rfl,hD,hF,rs,hO,.inr W⟩;have am:=l2 _ _ rr;rw[ai]at am;obtain⟨z1,z2⟩:=w.fin _ _ _ _ l1;exact k _ G I z1 (z2 _ _ am)
theorem ym{q:Option Nat}{f:Ev}{one:Bool}{b:List Sl->Res Bool}{y:Ev}{g:TG}{Q:VK}{r:R}{j:List Sl}(B:σ.length=m)(t:pL K m is one g)(C:GS K F ρ σ H)(e:((srcOf q f ρ).bind λds a=>if ds.length<=lim then(turns is one b y ds [] (a++replicate n .bG)).bind λxs l=>Res.ok (R.own xs) (bj ρ q (l.take a.length))else .stuck)=.ok r j)(k:∀v z u,bK K F ρ σ H z j σ u->bW K z j σ u ρ σ H v r->Q v u):yz n (tIt K q f) g (Jr K b) (vN K y) σ H Q:=by
 obtain⟨ds,w,G,e⟩:=ak e;split at e;.rename_i o;obtain⟨xs,I,J,e⟩:=ak e;cases e;exact Cy B t (λR h=>⟨F,ρ,ds,w,C,G,h⟩) o J k
 .cases e
theorem mX{g:TG}{one:Bool}{t:Option P}(hc:X.calm=true)(ok:eN X scope N' n)(b:SI X c tg iter ps)(f:∀cl C s₀ H₀ ex,PG (tZ X scope N' cl C s₀ H₀ ex) tg g)(a:pL X.K X.N.length is one g)(j:∀cl C s₀ H₀ ex,SQ (tZ X scope N' cl C s₀ H₀ ex) c ifs t)(he:∀cl C s₀ H₀ ex,SX (tZ X scope N' cl C s₀ H₀ ex) c elt pe)(hs:∀x,foldedSetIterable iter X.env x=pure x:=by intro _;rfl):SX X c (.ListComp elt [⟨tg,iter,ifs,0⟩] scope pos) (.comp ps n is one t pe):=by refine⟨O5 (Ft (tt:=Jr X.K (wZ c t)) (te:=vN X.K (HH.ev c pe)) hc ok b f j (λcl C s₀ H₀ ex=>(he cl C s₀ H₀ ex).ev) hs) ?_,λi h=>by cases h⟩;rintro σ H Q l⟨F,ρ,r,o,q,e,k⟩;rw[HH.E20]at e;exact ym l a q e k
theorem yd{a b:Pos}{nn:Nat}{g:TG}{one:Bool}{t:Option P}(hc:X.calm=true)(q:X.N.Nodup)(h:X.N[i]?=some x)(u:Loc X.env.scope x)(ok:eN X scope N' n)(w:SI X c tg iter ps)(y:∀cl C s₀ H₀ ex,PG (tZ X scope N' cl C s₀ H₀ ex) tg g)(j:pL X.K X.N.length is one g)(z:∀cl C s₀ H₀ ex,SQ (tZ X scope N' cl C s₀ H₀ ex) c ifs t)(he:∀cl C s₀ H₀ ex,SX (tZ X scope N' cl C s₀ H₀ ex) c elt pe)(l:swapsWith (.ListComp elt [⟨tg,iter,ifs,0⟩] scope pos) (some (.Name x a)) b.line X.env=pure true:=by rfl)(hs:∀x,foldedSetIterable iter X.env x=pure x:=by intro _;rfl)(B:X.fn x=true\/X.env.scope.names.lookup x=some .local:=by first|exact .inl rfl|exact .inr rfl|assumption):SS X c nn (.Assign [.Name x a] (.ListComp elt [⟨tg,iter,ifs,0⟩] scope pos) b) (.asg i (.comp ps n is one t pe)):=by refine KC (Hx (tt:=Jr X.K (wZ c t)) (te:=vN X.K (HH.ev c pe)) hc q h u ok w y z (λcl C s₀ H₀ ex=>(he cl C s₀ H₀ ex).ev) l hs B) ?_;rintro D σ H G⟨F,ρ,Z,I,J,e,k⟩;rw[HH.X6]at e;obtain⟨r,L,o,e⟩:=ak e;obtain⟨M,O,f,e⟩:=ak e;cases e;have Q:=aJ f;clear f;obtain⟨f,e3⟩:=Q;rw[HH.E20]at o;exact ym G j J o λv U W s1 Y=>k U _ W (s1.put Y f)
end
section
variable{X:Cx}{c:Call}{n:Nat}{e a b d:Expr}{p pa pb pd:P}{pos:Pos}{es:List Expr}{ps:List P}
inductive Yb(K:PySem.W.Frag)(f:List D->Option R)(xs:List V)(H:Hp)(Q:VK):Prop where|mk(F:Hp)(ds:List D)(r:R)(sm:aM F H)(rs:aD K F xs ds)(he:f ds=some r)(k:∀v F' H',Ext F H F' H'->bQ K F' H' H v r->Q v H')
theorem JQ{E:Expr}{f:List D->Option R}{q:P}(o:∀{t},PA X es t->PE X E (Uc (Yb X.K f) t))(u:SA X c es ps)(y:∀ρ,HH.ev c q ρ=(evs c ps ρ).bind λds ρ=>lift (f ds) ρ)(z:isVar q=none):SX X c E q:=by refine⟨dZ (o u.1) ?_,λi h=>by rw[z]at h;cases h⟩;rintro σ H Q⟨F,ρ,r,B,g,e,k⟩;rw[y]at e;obtain⟨ds,l,C,j⟩:=ak e;have G:=aJ j;clear j;obtain⟨j,I⟩:=G;subst I;exact⟨F,ρ,ds,l,g,C,λvs J U s L=>⟨J,ds,r,s.gs.sub,L,j,λw M N x O=>k w M N (s.trans (x.stp s.gs)) (.later s (O.pF s.gs))⟩⟩
theorem Ju{xs:List V}{i j:Int}(h:aD K F xs [.int i,.int j]):xs=[.int i,.int j]:=by obtain⟨v,r,rfl,h1,g⟩:=h.cB;obtain⟨u,l,rfl,f,k⟩:=g.cB;rw[Rep]at h1 f;rw[h1,f,k.fX]
theorem inv2{f:Wc}{g:Int->Int->Int}{ds:List D}{r:R}(h0:blt f []=none)(h1:∀a,blt f [a]=none)(o:∀a b c l,blt f (a::b::c::l)=none)(q:∀a b,dR a=false->blt f [a,b]=none)(t:∀i b,dR b=false->blt f [.int i,b]=none)(u:∀i j,blt f [.int i,.int j]=some (.val (.int (g i j))))(he:blt f ds=some r):∃i j,ds=[.int i,.int j]/\r=.val (.int (g i j)):=by
 rcases ds with _|⟨a,_|⟨b,_|⟨c,l⟩⟩⟩;.rw[h0]at he;cases he
 .rw[h1]at he;cases he
 . by_cases h:dR a=true
   . obtain⟨i,rfl⟩:∃i,a=.int i:=by cases a<;>first|exact⟨_,rfl⟩|cases h
     by_cases k:dR b=true
     . obtain⟨j,rfl⟩:∃j,b=.int j:=by cases b<;>first|exact⟨_,rfl⟩|cases k
       rw[u]at he;cases he;exact⟨i,j,rfl,rfl⟩
     .rw[t i b (by simpa using k)]at he;cases he
   .rw[q a b (by simpa using h)]at he;cases he
 .rw[o]at he;cases he
theorem Nb(hc:X.calm=true):fP X (.builtin "min") (Yb X.K (blt .min2)):=by rintro f s σ H xs o Q I r⟨F,ds,r',q,t,he,k⟩;obtain⟨i,j,rfl,rfl⟩:=inv2 (g:=λi j=>if j<i then j else i) rfl (λa=>by cases a<;>rfl) (λa b c l=>by cases a<;>first|rfl|(cases b<;>rfl)) (λa b h=>by cases a<;>first|rfl|cases h) (λi b h=>by cases b<;>first|rfl|cases h) (λ_ _=>rfl) he;rw[Ju t]at r;exact zj hc f s σ H _ o Q I r ⟨_,_,rfl,bQ.cV q (cA _) k⟩
theorem Kr(hc:X.calm=true):fP X (.builtin "max") (Yb X.K (blt .max2)):=by rintro f s σ H xs o Q I r⟨F,ds,r',q,t,he,k⟩;obtain⟨i,j,rfl,rfl⟩:=inv2 (g:=λi j=>if i<j then j else i) rfl (λa=>by cases a<;>rfl) (λa b c l=>by cases a<;>first|rfl|(cases b<;>rfl)) (λa b h=>by cases a<;>first|rfl|cases h) (λi b h=>by cases b<;>first|rfl|cases h) (λ_ _=>rfl) he;rw[Ju t]at r;exact zg hc f s σ H _ o Q I r ⟨_,_,rfl,bQ.cV q (cA _) k⟩
theorem boot_min:bootBuiltins "min"=some (.builtin "min"):=by decide+kernel
theorem boot_max:bootBuiltins "max"=some (.builtin "max"):=by decide+kernel
theorem rF(f:x="min")(hc:X.calm=true)(g:Gl X x)(j:X.mg x=none)(k:SA X c [a,b] [pa,pb])(hs:starEach [a,b] X.env=(false,eval a X.env)::starEach [b] X.env:=by rfl)(hpl:(backTo pos (starEach [b] X.env)).any (·.1)=false:=by rfl):SX X c (.Call (.Name x p') [a,b] [] pos) (.blt .min2 [pa,pb]):=by subst f;exact JQ (λh=>fW (Nb hc) g j boot_min h (he:=hs) (hpl:=hpl)) k (λρ=>rfl) rfl
theorem xY(f:x="max")(hc:X.calm=true)(g:Gl X x)(j:X.mg x=none)(k:SA X c [a,b] [pa,pb])(hs:starEach [a,b] X.env=(false,eval a X.env)::starEach [b] X.env:=by rfl)(hpl:(backTo pos (starEach [b] X.env)).any (·.1)=false:=by rfl):SX X c (.Call (.Name x p') [a,b] [] pos) (.blt .max2 [pa,pb]):=by subst f;exact JQ (λh=>fW (Kr hc) g j boot_max h (he:=hs) (hpl:=hpl)) k (λρ=>rfl) rfl
end
section
variable{X:Cx}{c:Call}{n:Nat}{e a b d:Expr}{p pa pb pd:P}{pos:Pos}{es:List Expr}{ps:List P}
theorem yQ{ds:List D}(g:GS K F ρ σ H)(h:Kg ρ i=some ds):∃a xs,σ[i]?=some (some (V.ref a))/\dJ K H a xs:=by
 unfold Kg at h;split at h;.rename_i q;cases h;obtain⟨v,h1,f⟩:=g.pk q;obtain⟨a,xs,rfl,j,_⟩:=f.lst g.sub;exact⟨a,xs,h1,j⟩
 .cases h
theorem jL{k:Nat}{h f:Pos}(L:X.N[k]?=some x)(M:FJ X.env.scope x)(O:SX X c b pb)(he:SX X c e p)(Q:∀ v,assign (.Subscript (.Name x h) b f) X.env v=(do
  let l<-holding [v] (eval (.Name x h) X.env)let u<-holding [v,l] (eval b X.env)standAt f
  holding [v,l,u] (setItem l u v)release [v,l,u] []):=by intro _;rfl)(hs:swapsWithSole [.Subscript (.Name x h) b f] e pos.line X.env=pure false:=by rfl)(U:swappedStores [.Subscript (.Name x h) b f] e X.env=pure none:=by rfl)(h1:(assignEach [.Subscript (.Name x h) b f] X.env).map (·.2)=[assign (.Subscript (.Name x h) b f) X.env]:=by rfl)(hd:(x==("__debug__":Str))=false:=by decide)(w:(x==("__classdict__":Str))=false:=by decide):SS X c n (.Assign [.Subscript (.Name x h) b f] e pos) (.vC k pb p):=by
 obtain⟨ti,y,z⟩:=O.gw;refine dI (J8 he.ev (J9 (nF L M hd w) y set_list Q) hs U h1) ?_;rintro D σ H⟨F,ρ,fl,W,g,e,kk⟩;rw[HH.X8]at e;obtain⟨r,B,Y,e⟩:=ak e;obtain⟨x0,G,t,e⟩:=ak e;have Z:=aJ t;clear t;obtain⟨t,Ea⟩:=Z;subst Ea;obtain⟨dk,ae,e2,e⟩:=ak e;refine⟨F,ρ,r,B,g,Y,λv F1 H1 s1 rr=>?_⟩;obtain⟨F2,s2,_,rp⟩:=s1.fM rr;obtain⟨o,ho,_⟩:=s2.gs.pk t;refine⟨o,ho,z s2.gs e2 λvi F3 H3 s3 pi=>?_⟩;split at e
 . rename_i bb ds C q;split at e;.rename_i j hj;cases e;obtain⟨ad,xs,I,q2,q3,J⟩:=s3.gs.oA k _ ds q rfl;rw[ho]at I;cases I;refine⟨ad,xs,C,j,rfl,pi.int,q2,by rw[J.length];exact hj,?_⟩;exact kk F3 σ _ ((s2.trans s3).trans (s3.gs.mut q ho (J.set (rp.mono s3.cW) j)))
   .cases e
 .cases e
theorem bw{k:Nat}{l f cpos:Pos}(G:X.N[k]?=some x)(I:FJ X.env.scope x)(he:SX X c e p)(h:(f.endLine==cpos.line)=true:=by rfl)(hs:starEach [e] X.env=(false,eval e X.env)::starEach [] X.env:=by rfl)(j:attributeBase (.Name x l) "append" X.env (eval (.Name x l) X.env)=eval (.Name x l) X.env:=by rfl)(o:((backTo cpos (starEach [e] X.env)).all (λx=>!x.1)&&(backToKw cpos (keywordEach [] X.env)).all (λx=>x.1.isSome)&&decide ([e].length+([]:List Keyword).length+(if([]:List Keyword).isEmpty then 0 else 1)<30))=true:=by rfl)(u:swapsWith (.Call (.Attribute (.Name x l) "append" f) [e] [] cpos) none pos.line X.env=pure false:=by rfl)(hd:(x==("__debug__":Str))=false:=by decide)(w:(x==("__classdict__":Str))=false:=by decide):SS X c n (.Expr (.Call (.Attribute (.Name x l) "append" f) [e] [] cpos) pos) (.app k p):=by
 refine dI (rZ (Jj plainAttrs_list PySem.F.slot_list_append PySem.F.type_list_append qj (nF G I hd w) (cH he.ev fG hs) j o h hs) u) ?_;rintro D σ H⟨F,ρ,fl,J,g,e,kk⟩;rw[HH.X9]at e;obtain⟨d0,L,t,e⟩:=ak e;have M:=aJ t;clear t;obtain⟨t,O⟩:=M;subst O;obtain⟨r,y,Q,e⟩:=ak e;obtain⟨a,xs,h1,U⟩:=yQ g t;refine⟨.ref a,h1,.inl ⟨rfl,xs,U⟩,F,ρ,r,y,g,Q,λv F1 H1 s1 W=>?_⟩;obtain⟨Y,s2,_,Z⟩:=s1.fM W;split at e
 . rename_i bb ds q;split at e;.rename_i z;cases e;obtain⟨ad,ys,B,q2,q3,C⟩:=s2.gs.oA k _ ds q rfl;rw[h1]at B;cases B;exact⟨_,ys,v,rfl,rfl,q2,by rw[C.length];exact z,kk Y σ _ (s2.trans (s2.gs.mut q h1 (C.append (.cons Z .nil))))⟩
   .cases e
 .cases e
theorem Lx{j:Nat}{y:Str}{l o pt:Pos}{kt k2 Pa}(hc:X.calm=true)(C:X.N.Nodup)(G:X.N[i]?=some x)(I:X.N[j]?=some y)(q:i≠j)(J:X.env.scope.names.lookup x=some .local)(L:X.env.scope.names.lookup y=some .local)(M:SX X c a pa)(O:SX X c b pb)(Q:swappedStores [.Tuple [.Name x l,.Name y o] kt pt] (.Tuple [a,b] k2 Pa) X.env=pure (some [x,y]):=by rfl)(hs:swapsWithSole [.Tuple [.Name x l,.Name y o] kt pt] (.Tuple [a,b] k2 Pa) pos.line X.env=pure false:=by rfl)(h1:starEach [a,b] X.env=(false,eval a X.env)::starEach [b] X.env:=by rfl)(U:starEach [b] X.env=(false,eval b X.env)::starEach [] X.env:=by rfl):SS X c n (.Assign [.Tuple [.Name x l,.Name y o] kt pt] (.Tuple [a,b] k2 Pa) pos) (.par i j pa pb):=by refine dI (L2.LQ hc C G I q J L (cH M.ev (cH O.ev fG U) h1) Q hs) ?_;rintro D σ H⟨F,ρ,fl,W,g,e,k⟩;rw[HH.X7]at e;obtain⟨r,f,Y,e⟩:=ak e;obtain⟨B,t,Z,e⟩:=ak e;obtain⟨ae,af,h,e⟩:=ak e;cases e;have zz:=aJ h;clear h;obtain⟨h,e4⟩:=zz;obtain⟨ag,e5,e6⟩:=dC h;refine⟨F,ρ,r,f,g,Y,λv F1 H1 s1 rr=>?_⟩;obtain⟨F2,s2,_,rp⟩:=s1.fM rr;refine⟨F2,f,B,t,s2.gs,Z,λu F3 H3 s3 w=>?_⟩;obtain⟨F4,s4,_,z⟩:=s3.fM w;refine⟨v,u,rfl,?_⟩;have t4:=s2.trans s4;have t5:=t4.put (r:=.val r.d) (v:=v) (rp.mono s4.cW) e5;exact k F4 _ H3 (t5.put (r:=.val B.d) (v:=u) z e6)
end
section
variable{K:PySem.W.Frag}
theorem iG:∀{xs ys:List D},xs.length≠ys.length->du xs ys=false|[],[],h=>absurd rfl h|[],_::_,_=>by simp[du]|_::_,[],_=>by simp[du]|x::xs,y::ys,h=>by rw[du,iG (xs:=xs) (ys:=ys) (by simpa using h),Bool.and_false]
theorem eH:∀{xs ys:List D},xs.length=ys.length->du xs ys=(List.range xs.length).all λj=>gq (xs.getD j .non) (ys.getD j .non)|[],[],_=>by rw[du];rfl|[],_::_,h=>by simp at h|_::_,[],h=>by simp at h|x::xs,y::ys,h=>by rw[du,eH (xs:=xs) (ys:=ys) (by simpa using h),length_cons,List.range_succ_eq_map,all_cons,List.all_map];rfl
mutual
theorem km:∀d:D,gq d d=true|.non=>rfl|.bl _=>by exact beq_self_eq_true _|.int _=>by exact beq_self_eq_true _|.str _=>by exact beq_self_eq_true _|.tup ds=>by exact jc ds|.lst ds=>by exact jc ds|.dm _=>by exact decide_eq_true rfl|.dv a ds=>by show(decide (a=a)&&du ds ds)=true;rw[jc ds];simp
theorem jc:∀ds:List D,du ds ds=true|[]=>by rw[du]|d::ds=>by rw[du,km d,jc ds];rfl
end
theorem dw{d e:D}(b:flat d=true)(h1:Rep K F v d)(a:Rep K F v e):d=e:=by cases d with
 |tup _=>cases b|lst _=>cases b|dm _=>cases b|dv _ _=>cases b|non=>rw[Rep]at h1;subst h1;cases e with|non=>rfl|tup _=>rw[Rep]at a;obtain⟨_,_,q,_⟩:=a;cases q|lst _=>rw[Rep]at a;obtain⟨_,_,q,_⟩:=a;cases q|dm _=>rw[Rep]at a;obtain⟨_,_,q,_⟩:=a;cases q|dv _ _=>rw[Rep]at a;obtain⟨_,_,_,q,_⟩:=a;cases q|_=>rw[Rep]at a;cases a
 |bl k=>rw[Rep]at h1;subst h1;cases e with|bl _=>rw[Rep]at a;cases a;rfl|tup _=>rw[Rep]at a;obtain⟨_,_,q,_⟩:=a;cases q|lst _=>rw[Rep]at a;obtain⟨_,_,q,_⟩:=a;cases q|dm _=>rw[Rep]at a;obtain⟨_,_,q,_⟩:=a;cases q|dv _ _=>rw[Rep]at a;obtain⟨_,_,_,q,_⟩:=a;cases q|_=>rw[Rep]at a;cases a
 |int k=>rw[Rep]at h1;subst h1;cases e with|int _=>rw[Rep]at a;cases a;rfl|tup _=>rw[Rep]at a;obtain⟨_,_,q,_⟩:=a;cases q|lst _=>rw[Rep]at a;obtain⟨_,_,q,_⟩:=a;cases q|dm _=>rw[Rep]at a;obtain⟨_,_,q,_⟩:=a;cases q|dv _ _=>rw[Rep]at a;obtain⟨_,_,_,q,_⟩:=a;cases q|_=>rw[Rep]at a;cases a
 |str k=>rw[Rep]at h1;subst h1;cases e with|str _=>rw[Rep]at a;cases a;rfl|tup _=>rw[Rep]at a;obtain⟨_,_,q,_⟩:=a;cases q|lst _=>rw[Rep]at a;obtain⟨_,_,q,_⟩:=a;cases q|dm _=>rw[Rep]at a;obtain⟨_,_,q,_⟩:=a;cases q|dv _ _=>rw[Rep]at a;obtain⟨_,_,_,q,_⟩:=a;cases q|_=>rw[Rep]at a;cases a
theorem Gf{X:Cx}{B:List (Addr×Obj)}(I:L2.Inv X B σ H s)(l:aM F H):∀n:Nat,(∀d:D,bV n d=true->∀(v:V)(e:D),Rep X.K F v d->Rep X.K F v e->d=e):=by
 have Y:∀{a:Addr}{xs ys:List V},gA X.K F a xs->dJ X.K F a ys->False:=λ{a xs ys}h1 b=>by obtain⟨_,_,⟨o,p,t,_⟩,_⟩:=I.tuple (aM.gY l h1);obtain⟨_,_,C,_⟩:=I.list (l.seq b);obtain⟨M,g,j,_⟩:=C.isList;rw[p]at g;cases g;rw[t]at j;exact absurd j (by decide)
 have dd:∀{a:Addr}{f:Dc},Rep X.K F (.ref a) (.dm f)->∃o,s.heap.get? a=some o/\o.cls=.type "dict":=λ{a f}h=>by rw[Rep]at h;obtain⟨G,_,q,N⟩:=h;cases q;exact Ob I (l _ _ N)
 have Z:∀{a:Addr}{xs:List V}{f:Dc},gA X.K F a xs->Rep X.K F (.ref a) (.dm f)->False:=λ{a xs f}h1 b=>by obtain⟨_,_,⟨o,p,t,_⟩,_⟩:=I.tuple (aM.gY l h1);obtain⟨M,g,j⟩:=dd b;rw[p]at g;cases g;rw[t]at j;exact absurd j (by decide)
 have ld:∀{a:Addr}{xs:List V}{f:Dc},dJ X.K F a xs->Rep X.K F (.ref a) (.dm f)->False:=λ{a xs f}h1 b=>by obtain⟨_,_,C,_⟩:=I.list (l.seq h1);obtain⟨o,p,t,_⟩:=C.isList;obtain⟨M,g,j⟩:=dd b;rw[p]at g;cases g;rw[t]at j;exact absurd j (by decide)
 have J:∀{a:Addr}{w:List Int}{c:List D},Rep X.K F (.ref a) (.dv w c)->∃o,s.heap.get? a=some o/\o.cls=.type "dict":=λ{a w c}h=>by rw[Rep]at h;obtain⟨G,_,_,q,N,_⟩:=h;cases q;exact Ow I (l _ _ N)
 have O:∀{a:Addr}{xs:List V}{w:List Int}{c:List D},gA X.K F a xs->Rep X.K F (.ref a) (.dv w c)->False:=λ{a xs w c}h1 b=>by obtain⟨_,_,⟨o,p,t,_⟩,_⟩:=I.tuple (aM.gY l h1);obtain⟨M,g,j⟩:=J b;rw[p]at g;cases g;rw[t]at j;exact absurd j (by decide)
 have Q:∀{a:Addr}{xs:List V}{w:List Int}{c:List D},dJ X.K F a xs->Rep X.K F (.ref a) (.dv w c)->False:=λ{a xs w c}h1 b=>by obtain⟨_,_,C,_⟩:=I.list (l.seq h1);obtain⟨o,p,t,_⟩:=C.isList;obtain⟨M,g,j⟩:=J b;rw[p]at g;cases g;rw[t]at j;exact absurd j (by decide)
 intro n;induction n with
 |zero=>intro d hd v e h1 b;cases d with|tup _=>simp[bV]at hd|lst _=>simp[bV]at hd|dm _=>simp[bV]at hd|dv _ _=>simp[bV]at hd|non=>exact dw rfl h1 b|bl k=>exact dw rfl h1 b|int k=>exact dw rfl h1 b|str k=>exact dw rfl h1 b
 |succ n ih=>
   have all:∀{xs:List V}{ds c:List D},ds.all (bV n)=true->aD X.K F xs ds->aD X.K F xs c->ds=c:=λ{xs ds}=>by induction ds generalizing xs with|nil=>intro c _ h1 b;rw[h1.fX]at b;have:=b.length;exact(List.eq_nil_of_length_eq_zero this.symm).symm|cons d ds U=>intro c y h1 b;rw[all_cons,and_eq_true]at y;obtain⟨v,r,rfl,p,t⟩:=h1.cB;cases c with|nil=>cases b.fX|cons e c=>obtain⟨v',r',q0,g,j⟩:=b.cB;cases q0;rw[ih d y.1 v e p g,U y.2 t j]
   intro d hd v e h1 b;cases d with
   |dm _=>simp[bV]at hd|dv _ _=>simp[bV]at hd|tup ds=>
     have y:ds.all (bV n)=true:=by simpa[bV]using hd
     rw[Rep]at h1;obtain⟨a,xs,rfl,u,W⟩:=h1;cases e with|tup c=>rw[Rep]at b;obtain⟨G,ys,q,z,L⟩:=b;cases q;have:=I.lQ (aM.gY l u) (aM.gY l z);subst this;rw[all y W L]|lst c=>rw[Rep]at b;obtain⟨G,ys,q,z,L⟩:=b;cases q;exact(Y u z).elim|dm _=>exact(Z u b).elim|dv _ _=>exact(O u b).elim|_=>rw[Rep]at b;cases b
   |lst ds=>
     have y:ds.all (bV n)=true:=by simpa[bV]using hd
     rw[Rep]at h1;obtain⟨a,xs,rfl,u,W⟩:=h1;cases e with|lst c=>rw[Rep]at b;obtain⟨G,ys,q,z,L⟩:=b;cases q;have:=I.o5 (l.seq u) (l.seq z);subst this;rw[all y W L]|tup c=>rw[Rep]at b;obtain⟨G,ys,q,z,L⟩:=b;cases q;exact(Y z u).elim|dm _=>exact(ld u b).elim|dv _ _=>exact(Q u b).elim|_=>rw[Rep]at b;cases b
   |non=>exact dw rfl h1 b|bl k=>exact dw rfl h1 b|int k=>exact dw rfl h1 b|str k=>exact dw rfl h1 b
theorem yu{A:Around}{d e:D}{u:V}{c:Value}(hd:flat d=true)(he:flat e=true)(h1:Rep K F v d)(a:Rep K F u e)(r1:RelV v c)(b:RelV u u'):SeqAt.EqAt A s c u' (gq d e):=by cases d with
 |tup _=>cases hd|lst _=>cases hd|dm _=>cases hd|dv _ _=>cases hd|non=>rw[Rep]at h1;subst h1;cases(show c=.none from r1);cases e with|tup _=>cases he|lst _=>cases he|dm _=>cases he|dv _ _=>cases he|non=>rw[Rep]at a;subst a;cases(show u'=.none from b);exact SeqAt.EqAt.same _|bl _=>rw[Rep]at a;subst a;cases(show u'=.bool _ from b);exact none_bool _|int _=>rw[Rep]at a;subst a;obtain⟨t,rfl⟩:=b;exact none_int _ _|str _=>rw[Rep]at a;subst a;obtain⟨t,rfl⟩:=b;exact none_str _ _
 |bl _=>rw[Rep]at h1;subst h1;cases(show c=.bool _ from r1);cases e with|tup _=>cases he|lst _=>cases he|dm _=>cases he|dv _ _=>cases he|non=>rw[Rep]at a;subst a;cases(show u'=.none from b);exact bool_none _|bl _=>rw[Rep]at a;subst a;cases(show u'=.bool _ from b);exact bool_bool _ _|int _=>rw[Rep]at a;subst a;obtain⟨t,rfl⟩:=b;exact bool_int _ _ _|str _=>rw[Rep]at a;subst a;obtain⟨t,rfl⟩:=b;exact bool_str _ _ _
 |int _=>rw[Rep]at h1;subst h1;obtain⟨t0,rfl⟩:=r1;cases e with|tup _=>cases he|lst _=>cases he|dm _=>cases he|dv _ _=>cases he|non=>rw[Rep]at a;subst a;cases(show u'=.none from b);exact int_none _ _|bl _=>rw[Rep]at a;subst a;cases(show u'=.bool _ from b);exact int_bool _ _ _|int _=>rw[Rep]at a;subst a;obtain⟨t,rfl⟩:=b;exact int_int _ _ _ _|str _=>rw[Rep]at a;subst a;obtain⟨t,rfl⟩:=b;exact int_str _ _ _ _
 |str _=>rw[Rep]at h1;subst h1;obtain⟨t0,rfl⟩:=r1;cases e with|tup _=>cases he|lst _=>cases he|dm _=>cases he|dv _ _=>cases he|non=>rw[Rep]at a;subst a;cases(show u'=.none from b);exact str_none _ _|bl _=>rw[Rep]at a;subst a;cases(show u'=.bool _ from b);exact str_bool _ _ _|int _=>rw[Rep]at a;subst a;obtain⟨t,rfl⟩:=b;exact str_int _ _ _ _|str _=>rw[Rep]at a;subst a;obtain⟨t,rfl⟩:=b;exact str_str _ _ _ _
theorem jV{A:Around}{ds:List D}{e:D}{u:V}{a:Addr}{h:Array Value}(b:s.heap.IsTuple a h)(c:A.units<cLine)(he:flat e=true)(f:Rep K F u e)(g:RelV u u'):SeqAt.EqAt A s (.ref a) u' (gq (.tup ds) e)/\SeqAt.EqAt A s u' (.ref a) (gq e (.tup ds)):=by cases e with|tup _=>cases he|lst _=>cases he|dm _=>cases he|dv _ _=>cases he|non=>rw[Rep]at f;subst f;cases(show u'=.none from g);exact⟨SeqAt.EqAt.tuple_none b c,SeqAt.EqAt.none_tuple b c⟩|bl _=>rw[Rep]at f;subst f;cases(show u'=.bool _ from g);exact⟨SeqAt.EqAt.tuple_bool _ b c,SeqAt.EqAt.bool_tuple _ b c⟩|int _=>rw[Rep]at f;subst f;obtain⟨t,rfl⟩:=g;exact⟨SeqAt.EqAt.tuple_int _ _ b c,SeqAt.EqAt.int_tuple _ _ b c⟩|str _=>rw[Rep]at f;subst f;obtain⟨t,rfl⟩:=g;exact⟨SeqAt.EqAt.tuple_str _ _ b c,SeqAt.EqAt.str_tuple _ _ b c⟩
theorem kE{A:Around}{ds:List D}{e:D}{u:V}{a:Addr}{h:Array Value}(b:s.heap.IsList a h)(c:A.units<cLine)(he:flat e=true)(f:Rep K F u e)(g:RelV u u'):SeqAt.EqAt A s (.ref a) u' (gq (.lst ds) e)/\SeqAt.EqAt A s u' (.ref a) (gq e (.lst ds)):=by cases e with|tup _=>cases he|lst _=>cases he|dm _=>cases he|dv _ _=>cases he|non=>rw[Rep]at f;subst f;cases(show u'=.none from g);exact⟨SeqAt.EqAt.list_none b c,SeqAt.EqAt.none_list b c⟩|bl _=>rw[Rep]at f;subst f;cases(show u'=.bool _ from g);exact⟨SeqAt.EqAt.list_bool _ b c,SeqAt.EqAt.bool_list _ b c⟩|int _=>rw[Rep]at f;subst f;obtain⟨t,rfl⟩:=g;exact⟨SeqAt.EqAt.list_int _ _ b c,SeqAt.EqAt.int_list _ _ b c⟩|str _=>rw[Rep]at f;subst f;obtain⟨t,rfl⟩:=g;exact⟨SeqAt.EqAt.list_str _ _ b c,SeqAt.EqAt.str_list _ _ b c⟩
theorem tV{n:Nat}{d:D}(h:bV n d=true)(h0:n=0):flat d=true:=by subst h0;cases d<;>first|rfl|simp[bV]at h
theorem Xu{X:Cx}{M:List (Addr×Obj)}(I:L2.Inv X M σ H s)(B:aM F H):∀(n:Nat)(A:Around),A.units+n<cLine->∀(d e:D),bV n d=true->bV n e=true->∀(v u:V)(N u':Value),Rep X.K F v d->Rep X.K F u e->RelV v N->RelV u u'->SeqAt.EqAt A s N u' (gq d e):=by intro n;induction n with|zero=>intro A hu d e hd he v u N u' h1 g r1 h;exact yu (tV hd rfl) (tV he rfl) h1 g r1 h|succ n ih=>
   intro A hu d e hd he v u N u' h1 g r1 h;have c:A.units<cLine:=by omega
   have U:A.in1.units+n<cLine:=by show A.units+1+n<cLine;omega--items by place
   have O:∀{xs ys:List V}{w ws:List Value}{ds f:List D}{j:Nat}(k1:j<w.toArray.size)(k2:j<ws.toArray.size),ds.all (bV n)=true->f.all (bV n)=true->Vals xs w->Vals ys ws->aD X.K F xs ds->aD X.K F ys f->SeqAt.EqAt A.in1 s w.toArray[j] ws.toArray[j] (gq (ds.getD j .non) (f.getD j .non)):=λ{xs ys w ws ds f j}k1 k2 a1 a2 L o k l=>by
    have k1:j<w.length:=by simpa using k1
    have k2:j<ws.length:=by simpa using k2
    have C:j<ds.length:=by rw[<-k.length,L.length];exact k1
    have l2:j<f.length:=by rw[<-l.length,o.length];exact k2
    obtain⟨x,g1,g2⟩:=k.get (show ds[j]?=some ds[j]by simp[C]);obtain⟨y,g3,g4⟩:=l.get (show f[j]?=some f[j]by simp[l2]);obtain⟨x',g5,g6⟩:=L.get g1;obtain⟨y',g7,g8⟩:=o.get g3;have e1:w.toArray[j]=x':=by have:=(gW g5).2;simpa using this
    have e2:ws.toArray[j]=y':=by have:=(gW g7).2;simpa using this
    have e3:ds.getD j .non=ds[j]:=by simp[List.getD,C]
    have e4:f.getD j .non=f[j]:=by simp[List.getD,l2]
    rw[e1,e2,e3,e4];exact ih A.in1 U _ _ (all_eq_true.mp a1 _ (getElem_mem C)) (all_eq_true.mp a2 _ (getElem_mem l2)) x y x' y' g2 g4 g6 g8--the same object
   have same:∀{a:Addr},v=.ref a->u=.ref a->SeqAt.EqAt A s N u' (gq d e):=λ{a}q1 q2=>by subst q1;subst q2;have:=Gf I B (n+1) d hd _ e h1 g;subst this;rw[km];cases r1;cases h;exact SeqAt.EqAt.same _
   cases d with
   |dm _=>simp[bV]at hd|dv _ _=>simp[bV]at hd|tup ds=>
     have W:ds.all (bV n)=true:=by simpa[bV]using hd
     have p:=h1;rw[Rep]at p;obtain⟨a,xs,rfl,Y,Q⟩:=p;cases r1;obtain⟨w,L,k,_⟩:=I.tuple (aM.gY B Y)
     cases e with|dm _=>simp[bV]at he|dv _ _=>simp[bV]at he|tup f=>
       have Z:f.all (bV n)=true:=by simpa[bV]using he
       have q:=g;rw[Rep]at q;obtain⟨b,ys,rfl,r,G⟩:=q;by_cases t:a=b;.subst t;exact same rfl rfl
       . cases h;obtain⟨ws,o,l,_⟩:=I.tuple (aM.gY B r);refine .of_refs t ?_;have z:=SeqAt.RcAt.tuples (A:=A) (e:=λj=>gq (ds.getD j .non) (f.getD j .non)) k l c λj k1 k2=>O k1 k2 W Z L o Q G;have C:w.toArray.size=ds.length:=by rw[size_toArray,<-L.length,Q.length]
         have l2:ws.toArray.size=f.length:=by rw[size_toArray,<-o.length,G.length]
         rw[C,l2]at z;have e0:gq (.tup ds) (.tup f)=((List.range (min ds.length f.length)).all (λj=>gq (ds.getD j .non) (f.getD j .non))&&ds.length==f.length):=by
          rw[pqt];by_cases J:ds.length=f.length;.rw[eH J,J];simp
          . rw[iG J];have:(ds.length==f.length)=false:=by simpa using J
            rw[this,Bool.and_false]
         rw[e0];exact z|lst f=>rw[Rep]at g;obtain⟨b,ys,rfl,r,G⟩:=g;cases h;obtain⟨ws,o,l,_⟩:=I.list (B.seq r);exact SeqAt.EqAt.tuple_list k l.isList c|non=>exact(jV k c rfl g h).1|bl _=>exact(jV k c rfl g h).1|int _=>exact(jV k c rfl g h).1|str _=>exact(jV k c rfl g h).1
   |lst ds=>
     have W:ds.all (bV n)=true:=by simpa[bV]using hd
     have p:=h1;rw[Rep]at p
     obtain⟨a,xs,rfl,Y,Q⟩:=p;cases r1;obtain⟨w,L,k,_⟩:=I.list (B.seq Y);cases e with|dm _=>simp[bV]at he|dv _ _=>simp[bV]at he|lst f=>
       have Z:f.all (bV n)=true:=by simpa[bV]using he
       have q:=g;rw[Rep]at q;obtain⟨b,ys,rfl,r,G⟩:=q;by_cases t:a=b;.subst t;exact same rfl rfl
       . cases h;obtain⟨ws,o,l,_⟩:=I.list (B.seq r);refine .of_refs t ?_;have C:w.toArray.size=ds.length:=by rw[size_toArray,<-L.length,Q.length]
         have l2:ws.toArray.size=f.length:=by rw[size_toArray,<-o.length,G.length]
         rw[Vt];by_cases J:ds.length=f.length;.have z:=SeqAt.RcAt.lists (A:=A) (e:=λj=>gq (ds.getD j .non) (f.getD j .non)) k.isList l.isList (by rw[C,l2,J]) c λj k1 k2=>O k1 k2 W Z L o Q G;rw[C]at z;rw[eH J];exact z
         .rw[iG J];exact lists_lengths k.isList l.isList (by rw[C,l2];simpa using J) c|tup f=>rw[Rep]at g;obtain⟨b,ys,rfl,r,G⟩:=g;cases h;obtain⟨ws,o,l,_⟩:=I.tuple (aM.gY B r);exact SeqAt.EqAt.list_tuple k.isList l c|non=>exact(kE k.isList c rfl g h).1|bl _=>exact(kE k.isList c rfl g h).1|int _=>exact(kE k.isList c rfl g h).1|str _=>exact(kE k.isList c rfl g h).1
   |non|bl _|int _|str _=>cases e with|dm _=>simp[bV]at he|dv _ _=>simp[bV]at he|tup f=>rw[Rep]at g;obtain⟨b,ys,rfl,r,G⟩:=g;cases h;obtain⟨ws,o,l,_⟩:=I.tuple (aM.gY B r);exact(jV l c rfl h1 r1).2|lst f=>rw[Rep]at g;obtain⟨b,ys,rfl,r,G⟩:=g;cases h;obtain⟨ws,o,l,_⟩:=I.list (B.seq r);exact(kE l.isList c rfl h1 r1).2|_=>exact yu rfl rfl h1 g r1 h
end
section
variable{X:Cx}{pins:List (Addr×Obj)}{σ:L2.St}{H F:Hp}{s:Shared}{A:Around}
abbrev RC(A:Around)(s:Shared)(v u:Value)(k:Bool):Prop:=SeqAt.RcAt A s v u k/\SeqAt.RcNeAt A s v u (!k)
inductive Top(X:Cx)(F H:Hp)(s:Shared):Value->D->Prop where|non:Top X F H s .none .non|bl(b:Bool):Top X F H s (.bool b) (.bl b)|int(i:Int)(t:Tok):Top X F H s (.int i t) (.int i)|str(x:Str)(t:Tok):Top X F H s (.str x t) (.str x)|tup{a:Addr}{us:List Value}{xs:List V}{ds:List D}(ht:s.heap.IsTuple a us.toArray)(hv:Vals xs us)(hr:aD X.K F xs ds):Top X F H s (.ref a) (.tup ds)|lst{a:Addr}{us:List Value}{xs:List V}{ds:List D}(ht:s.heap.IsList a us.toArray)(hv:Vals xs us)(hr:aD X.K F xs ds):Top X F H s (.ref a) (.lst ds)
theorem qX(I:L2.Inv X pins σ H s)(g:aM F H){j:Value}{d:D}(hd:bV 8 d=true)(h:cU X.K F H v d)(r:RelV v j):Top X F H s j d:=by cases d with|dm _=>simp[bV]at hd|dv _ _=>simp[bV]at hd|non=>rw[h.non]at r;cases r;exact .non|bl b=>rw[h.bl]at r;cases r;exact .bl b|int i=>rw[h.int]at r;obtain⟨t,rfl⟩:=r;exact .int i t|str x=>rw[h.str]at r;obtain⟨t,rfl⟩:=r;exact .str x t|tup ds=>obtain⟨a,xs,rfl,h1,c,_⟩:=h.tup g;cases r;obtain⟨k,e,f,_⟩:=I.tuple h1;exact .tup f e c|lst ds=>obtain⟨a,xs,rfl,h1,c⟩:=h.lst g;cases r;obtain⟨k,e,f,_⟩:=I.list h1;exact .lst f.isList e c
theorem Us(I:L2.Inv X pins σ H s)(Y:aM F H){n:Nat}(hu:A.units+(n+1)<cLine){d e:D}(hd:bV (n+1) d=true)(he:bV (n+1) e=true){L:Value}(h1:Top X F H s L d)(w:Top X F H s u' e):RC A s L u' (gq d e):=by
 have c:A.units<cLine:=by omega
 have J:A.in1.units+n<cLine:=by show A.units+1+n<cLine;omega
 have r:∀{xs ys:List V}{q ws:List Value}{ds g:List D}{j:Nat}(k1:j<q.toArray.size)(k2:j<ws.toArray.size),ds.all (bV n)=true->g.all (bV n)=true->Vals xs q->Vals ys ws->aD X.K F xs ds->aD X.K F ys g->SeqAt.EqAt A.in1 s q.toArray[j] ws.toArray[j] (gq (ds.getD j .non) (g.getD j .non)):=λ{xs ys q ws ds g j}k1 k2 Z a2 M N O Q=>by
  have k1:j<q.length:=by simpa using k1
  have k2:j<ws.length:=by simpa using k2
  have o:j<ds.length:=by rw[<-O.length,M.length];exact k1
  have l2:j<g.length:=by rw[<-Q.length,N.length];exact k2
  obtain⟨x,g1,g2⟩:=O.get (show ds[j]?=some ds[j]by simp[o]);obtain⟨y,g3,g4⟩:=Q.get (show g[j]?=some g[j]by simp[l2]);obtain⟨U,g5,g6⟩:=M.get g1;obtain⟨W,g7,g8⟩:=N.get g3;have e1:q.toArray[j]=U:=by have:=(gW g5).2;simpa using this
  have e2:ws.toArray[j]=W:=by have:=(gW g7).2;simpa using this
  have e3:ds.getD j .non=ds[j]:=by simp[List.getD,o]
  have e4:g.getD j .non=g[j]:=by simp[List.getD,l2]
  rw[e1,e2,e3,e4];exact Xu I Y n A.in1 J _ _ (all_eq_true.mp Z _ (getElem_mem o)) (all_eq_true.mp a2 _ (getElem_mem l2)) x y U W g2 g4 g6 g8
 cases h1 with
 |non=>cases w with|non=>exact⟨SeqAt.RcAt.none_none,SeqAt.RcNeAt.none_none⟩|bl b=>exact⟨SeqAt.RcAt.none_bool _,SeqAt.RcNeAt.none_bool _⟩|int i t=>exact⟨SeqAt.RcAt.none_int _ _,SeqAt.RcNeAt.none_int _ _⟩|str i t=>exact⟨SeqAt.RcAt.none_str _ _,SeqAt.RcNeAt.none_str _ _⟩|tup f _ _=>exact⟨SeqAt.RcAt.none_tuple f c,SeqAt.RcNeAt.none_tuple f c⟩|lst f _ _=>exact⟨SeqAt.RcAt.none_list f c,SeqAt.RcNeAt.none_list f c⟩
 |bl b0=>cases w with|non=>exact⟨SeqAt.RcAt.bool_none _,SeqAt.RcNeAt.bool_none _⟩|bl b=>exact⟨SeqAt.RcAt.bool_bool _ _,SeqAt.RcNeAt.bool_bool _ _⟩|int i t=>exact⟨SeqAt.RcAt.bool_int _ _ _,SeqAt.RcNeAt.bool_int _ _ _⟩|str i t=>exact⟨SeqAt.RcAt.bool_str _ _ _,SeqAt.RcNeAt.bool_str _ _ _⟩|tup f _ _=>exact⟨SeqAt.RcAt.bool_tuple _ f c,SeqAt.RcNeAt.bool_tuple _ f c⟩|lst f _ _=>exact⟨SeqAt.RcAt.bool_list _ f c,SeqAt.RcNeAt.bool_list _ f c⟩
 |int i0 t0=>cases w with|non=>exact⟨SeqAt.RcAt.int_none _ _,SeqAt.RcNeAt.int_none _ _⟩|bl b=>exact⟨SeqAt.RcAt.int_bool _ _ _,SeqAt.RcNeAt.int_bool _ _ _⟩|int i t=>exact⟨SeqAt.RcAt.int_int _ _ _ _,SeqAt.RcNeAt.int_int _ _ _ _⟩|str i t=>exact⟨SeqAt.RcAt.int_str _ _ _ _,SeqAt.RcNeAt.int_str _ _ _ _⟩|tup f _ _=>exact⟨SeqAt.RcAt.int_tuple _ _ f c,SeqAt.RcNeAt.int_tuple _ _ f c⟩|lst f _ _=>exact⟨SeqAt.RcAt.int_list _ _ f c,int_list _ _ f c⟩
 |str i0 t0=>cases w with|non=>exact⟨SeqAt.RcAt.str_none _ _,SeqAt.RcNeAt.str_none _ _⟩|bl b=>exact⟨SeqAt.RcAt.str_bool _ _ _,SeqAt.RcNeAt.str_bool _ _ _⟩|int i t=>exact⟨SeqAt.RcAt.str_int _ _ _ _,SeqAt.RcNeAt.str_int _ _ _ _⟩|str i t=>exact⟨SeqAt.RcAt.str_str _ _ _ _,SeqAt.RcNeAt.str_str _ _ _ _⟩|tup f _ _=>exact⟨SeqAt.RcAt.str_tuple _ _ f c,SeqAt.RcNeAt.str_tuple _ _ f c⟩|lst f _ _=>exact⟨SeqAt.RcAt.str_list _ _ f c,str_list _ _ f c⟩
 |@tup a q xs ds f u hr=>
   have z:ds.all (bV n)=true:=by simpa[bV]using hd
   cases w with|non=>exact⟨SeqAt.RcAt.tuple_none f c,SeqAt.RcNeAt.tuple_none f c⟩|bl b=>exact⟨SeqAt.RcAt.tuple_bool _ f c,SeqAt.RcNeAt.tuple_bool _ f c⟩|int i t=>exact⟨SeqAt.RcAt.tuple_int _ _ f c,SeqAt.RcNeAt.tuple_int _ _ f c⟩|str i t=>exact⟨SeqAt.RcAt.tuple_str _ _ f c,SeqAt.RcNeAt.tuple_str _ _ f c⟩|lst l _ _=>exact⟨SeqAt.RcAt.tuple_list f l c,SeqAt.RcNeAt.tuple_list f l c⟩|@tup b ws ys g l h k=>
     have B:g.all (bV n)=true:=by simpa[bV]using he
     have o:q.toArray.size=ds.length:=by rw[size_toArray,<-u.length,hr.length]
     have l2:ws.toArray.size=g.length:=by rw[size_toArray,<-h.length,k.length]
     have C:=SeqAt.RcAt.tuples (A:=A) (e:=λj=>gq (ds.getD j .non) (g.getD j .non)) f l c λj k1 k2=>r k1 k2 z B u h hr k;have G:=SeqAt.RcNeAt.tuples (A:=A) (e:=λj=>gq (ds.getD j .non) (g.getD j .non)) f l c λj k1 k2=>r k1 k2 z B u h hr k;rw[o,l2]at C G;have e0:gq (.tup ds) (.tup g)=((List.range (min ds.length g.length)).all (λj=>gq (ds.getD j .non) (g.getD j .non))&&ds.length==g.length):=by
      rw[pqt];by_cases p:ds.length=g.length;.rw[eH p,p];simp
      . rw[iG p];have:(ds.length==g.length)=false:=by simpa using p
        rw[this,Bool.and_false]
     rw[e0];exact⟨C,G⟩
 |@lst a q xs ds f u hr=>
   have z:ds.all (bV n)=true:=by simpa[bV]using hd
   cases w with|non=>exact⟨SeqAt.RcAt.list_none f c,SeqAt.RcNeAt.list_none f c⟩|bl b=>exact⟨SeqAt.RcAt.list_bool _ f c,SeqAt.RcNeAt.list_bool _ f c⟩|int i t=>exact⟨SeqAt.RcAt.list_int _ _ f c,list_int _ _ f c⟩|str i t=>exact⟨SeqAt.RcAt.list_str _ _ f c,list_str _ _ f c⟩|tup l _ _=>exact⟨SeqAt.RcAt.list_tuple f l c,SeqAt.RcNeAt.list_tuple f l c⟩|@lst b ws ys g l h k=>
     have B:g.all (bV n)=true:=by simpa[bV]using he
     have o:q.toArray.size=ds.length:=by rw[size_toArray,<-u.length,hr.length]
     have l2:ws.toArray.size=g.length:=by rw[size_toArray,<-h.length,k.length]
     rw[Vt];by_cases p:ds.length=g.length;.have C:=SeqAt.RcAt.lists (A:=A) (e:=λj=>gq (ds.getD j .non) (g.getD j .non)) f l (by rw[o,l2,p]) c λj k1 k2=>r k1 k2 z B u h hr k;have G:=SeqAt.RcNeAt.lists (A:=A) (e:=λj=>gq (ds.getD j .non) (g.getD j .non)) f l (by rw[o,l2,p]) c λj k1 k2=>r k1 k2 z B u h hr k;rw[o]at C G;rw[eH p];exact⟨C,G⟩
     .rw[iG p];exact⟨lists_lengths f l (by rw[o,l2];simpa using p) c,SeqAt.RcNeAt.lists_lengths f l (by rw[o,l2];simpa using p) c⟩
theorem cC(c:X.A.units+8<cLine):dH X (compareOp .Eq) (rD X.K (lF .eq)):=by rintro pins s σ H x y v u Q I f g⟨F,d,e,r,a,h,j,he,k⟩;obtain⟨t,b,l⟩:=map_some (show(wW d e).map _=some r from he);subst l;unfold wW at b;obtain⟨hd,b⟩:=bA b;rw[and_eq_true]at hd;subst b;exact(Us I a (n:=7) c hd.1 hd.2 (qX I a hd.1 h f) (qX I a hd.2 j g)).1 _ _ _ _ ⟨.bl _,H,I,rfl,bQ.cV a (iy _) k⟩
theorem jB(c:X.A.units+8<cLine):dH X (compareOp .NotEq) (rD X.K (lF .ne)):=by rintro pins s σ H x y v u Q I f g⟨F,d,e,r,a,h,j,he,k⟩;obtain⟨t,b,l⟩:=map_some (show(qO d e).map _=some r from he);subst l;unfold qO at b;obtain⟨hd,b⟩:=bA b;rw[and_eq_true]at hd;subst b;exact(Us I a (n:=7) c hd.1 hd.2 (qX I a hd.1 h f) (qX I a hd.2 j g)).2 _ _ _ _ ⟨.bl _,H,I,rfl,bQ.cV a (iy _) k⟩
end
section
variable{Pg:Program}{w:World}{K:PySem.W.Frag}{mg:Str->Option Value}{base:Heap}
theorem Rx{qual:Str}{st:Stmt}{f:Addr}{fd:FuncData}{N ps:List Str}{k n:Nat}{c:Call}{d:Fd}(G:il K x qual st f fd)(S:aN N ps (au st))(h1:d.np=ps.length)(u:d.nn=N.length)(I:∀(cdv:Value)(A:Around)(outer:List Env)(s:Shared)(H:Hp)(E:XK),eX k (A.deeper (envOfC qual (au st) s.heap.objs.size f cdv))->SB (lL Bt Pg w K mg base N qual (au st) f cdv A outer s H E).S8 c n (cQ st) d.body):gP Pg w K mg base Bt (k+1) f fd ps (Ey K ps.length (λargs=>enter c n d args)):=by
 refine G.ok S (λvs H Q E h=>h.1) λcdv A outer s H vs Q E hr h=>?_;obtain⟨y,F,args,r,o,g,e,q⟩:=h;refine⟨_,I cdv A outer s H E hr,?_⟩;replace e:enter c n d args=.ok r o:=e;unfold enter at e;split at e
 . rename_i hc;obtain⟨c1,c2⟩:=hc;have J:=g.more (n:=d.nn-d.np) (τ:=replicate (N.length-vs.length) none) (by simp[h1,u,y]);have p:args.length=d.np:=c1;have go:∀{t:Fl}{a:List Sl},bO c n d.body (args++replicate (d.nn-d.np) .bG)=.ok t a->(∀l b j,bK K F (args++replicate (d.nn-d.np) .bG) (start N vs) H l a b j->(match t with|.next=>Q .non j|.brk=>False|.cont=>False|.ret r=>∀v,bW K l a b j (args++replicate (d.nn-d.np) .bG) (start N vs) H v r->Q v j))->Uw K (bO c n d.body) {nx:=λ_ j=>Q .non j,rt:=Q} (start N vs) H:=λ{t a}z k=>⟨F,_,t,a,J,z,λl b j s=>by have:=k l b j s;cases t<;>exact this⟩;split at e;.rename_i a z;cases e;refine go z λl b j s=>?_;obtain⟨B,C⟩:=bK.less (m:=d.np) p.symm g (by simp[h1,u,y]) s;exact q .non l _ j B (show Rep K l _ _ from Ce)
   .rename_i r' a z;cases e;refine go z λl b j s v L=>?_;obtain⟨B,C⟩:=bK.less (m:=d.np) p.symm g (by simp[h1,u,y]) s;exact q v l _ j B (C v r L)
   .split at e<;>cases e
 .cases e
structure aZ(Pg:Program)(w:World)(K:PySem.W.Frag)(mg:Str->Option Value)(base:Heap)(k:Nat)(c:Call)(i:Nat)(x:Str)(np:Nat):Prop where ex:∃fa fd qs,gP Pg w K mg base Bt k fa fd qs (Ey K qs.length (c i))/\mg x=some (.ref fa)/\keepIn K (.ref fa)=true/\Binds K fd qs []/\qs.length=np
end
section
variable{X:Cx}{c:Call}{n k:Nat}{e a b:Expr}{es:List Expr}{p pa pb:P}{ps:List P}{pos:Pos}
theorem sv(i:Nat)(g:X.N[i]?=some x:=by rfl)(h:FJ X.env.scope x:=by first|exact Or.inl rfl|exact Or.inr (Or.inl rfl)|exact Or.inr (Or.inr rfl))(hd:(x==("__debug__":Str))=false:=by rfl)(f:(x==("__classdict__":Str))=false:=by rfl):SX X c (.Name x pos) (.var i):=Lr g h hd f
theorem dj{np:Nat}(C:aZ X.prog X.w X.K X.mg X.base k c i x np)(hr:eX k X.A)(h:SG X c (e::es) ps)(j:Gl X x:=by rfl)(l:(e::es).length=np:=by rfl)(f:(x==("__debug__":Str))=false:=by rfl)(he:starEach (e::es) X.env=(false,eval e X.env)::starEach es X.env:=by rfl)(hpl:(backTo pos (starEach es X.env)).any (·.1)=false:=by rfl)(g:ps.length=(e::es).length:=by rfl):SX X c (.Call (.Name x p') (e::es) [] pos) (.call i ps):=by obtain⟨u,fd,y,h1,o,q,r,t⟩:=C.ex;exact Hz h1 hr j o q r h (l.trans t.symm) f he hpl g
noncomputable def Jp(names outer:List (Str×NameKind))(N N':List Str)(n:Nat):Bool:=(names.all λy=>names.lookup y.1==some y.2)&&(names.all λy=>y.2!=.local||names.lookup y.1==some .local)&&(names.all λy=>y.2!=.free||outer.lookup y.1==some .cell||outer.lookup y.1==some .free)&&N'.length==N.length+n&&((N.zip N').all λp=>(p.1==p.2&&names.lookup p.2==some .free)||(names.lookup p.2!=some .local&&names.lookup p.2!=some .cell&&names.lookup p.2!=some .free))
theorem QB{scope:Scope}{N':List Str}(g:scope.kind=.function)(h:Jp scope.names X.env.scope.names X.N N' n=true):eN X scope N' n:=by
 unfold Jp at h;simp only[and_eq_true]at h;obtain⟨⟨⟨⟨h1,j⟩,l⟩,o⟩,q⟩:=h;refine⟨g,λy f=>eq_of_beq (all_eq_true.mp h1 y f),λy f e=>?_,λy f e=>?_,by simpa using o,q⟩;.have:=all_eq_true.mp j y f;rw[e]at this;simpa using this
 . have:=all_eq_true.mp l y f;rw[e]at this;simp only[or_eq_true]at this;rcases this with(z|z)|z;.cases z
   .exact .inl (eq_of_beq z)
   .exact .inr (eq_of_beq z)
theorem aO{A:Around}(h:eX k A):A.units+8<cLine:=by have:=h.un;omega
end
end HH
end
section
namespace PySem
open AutoSeq1(wpAny_loadPart')
section
variable{prog:Program}{w:World}{A:Around}{E:Value->Shared->Prop}{s:Shared}
theorem jN{it l:Addr}{i:Nat}{items:Array Value}{x:Value}{Q:Value->Shared->Prop}(a:s.heap.IsTupleIter it l i)(e:s.heap.IsTuple l items)(f:items[i]?=some x)(g:∀h',h'.IsTupleIter it l (i+1)->SameBut it s.heap h'->Q x {s with heap:=h'}):wpAny (model prog w) A (nextOf (.ref it)) Q E s:=by obtain⟨o,ho,hc,hd⟩:=id a;obtain⟨h,b,_,nl,c⟩:=e;unfold nextOf;refine wpAny_bind (wpAny_callSpecial?_slot (name:=Str.ofString "__next__") a.typeIs F.slot_tuple_iterator_next (wpAny_call_entry F.slot_tuple_iterator_next a.typeIs F.entry_tuple_iterator_next ?_ (F.args_tuple_iterator_next_1 _)));show wpAny _ _ (field (.ref it) 0>>=_) _ _ s;refine wpAny_bind (wpAny_field ho hd (x:=.ref l) rfl ?_);show wpAny _ _ (if(Value.ref l==Value.none)=true then _ else _) _ _ s;rw[if_neg (show ¬((Value.ref l==Value.none)=true)from Bool.false_ne_true)];show wpAny _ _ (field (.ref it) 1>>=_) _ _ s;refine wpAny_bind (wpAny_field ho hd (x:=.int i 0) rfl ?_);show wpAny _ _ (seqItems? (.ref l)>>=_) _ _ s;refine wpAny_bind (wpAny_seqItems b c ?_);simp only[toNat_natCast,f];refine wpAny_bind (wpAny_setField ho hd (by simp) (wpAny_pure ⟨x,rfl,wpAny_pure (g _ ?_ (Heap.SameBut.update ..))⟩));exact⟨_,get?_update_self _ ho (Obj.isFreed_of_fields (Obj.data_mapFields hd _)),(Obj.cls_mapFields ..).trans hc,by rw[Obj.data_mapFields hd];simp[rawInt]⟩
theorem fY{it l:Addr}{i:Nat}{items:Array Value}{Q:Value->Shared->Prop}(hh:A.handled=none)(b:s.heap.IsTupleIter it l i)(g:s.heap.IsTuple l items)(h:items[i]?=none)(j:∀h' e,Heap.ExtBut it s.heap h'->(∃o,h'.get? e=some o/\o.cls=.type "StopIteration")->E (.ref e) {s with heap:=h'}):wpAny (model prog w) A (nextOf (.ref it)) Q E s:=by
 obtain⟨o,ho,hc,hd⟩:=id b;obtain⟨k,c,_,nl,f⟩:=g;unfold nextOf;refine wpAny_bind (wpAny_callSpecial?_slot (name:=Str.ofString "__next__") b.typeIs F.slot_tuple_iterator_next (wpAny_call_entry F.slot_tuple_iterator_next b.typeIs F.entry_tuple_iterator_next ?_ (F.args_tuple_iterator_next_1 _)));show wpAny _ _ (field (.ref it) 0>>=_) _ _ s;refine wpAny_bind (wpAny_field ho hd (x:=.ref l) rfl ?_);show wpAny _ _ (if(Value.ref l==Value.none)=true then _ else _) _ _ s;rw[if_neg (show ¬((Value.ref l==Value.none)=true)from Bool.false_ne_true)];show wpAny _ _ (field (.ref it) 1>>=_) _ _ s;refine wpAny_bind (wpAny_field ho hd (x:=.int i 0) rfl ?_);show wpAny _ _ (seqItems? (.ref l)>>=_) _ _ s;refine wpAny_bind (wpAny_seqItems c f ?_);simp only[toNat_natCast,h];refine wpAny_bind (wpAny_rule (wpAny_bind (wpAny_setField ho hd (by simp) ?_)));show wpAny _ _ (newExc (.type "StopIteration") []>>=_) _ _ _;refine wpAny_bind ?_;simp only[newExc,newTuple];refine wpAny_bind (wpAny_newObj_type ?_ (by size_fits));refine wpAny_bind (m:=firstArgMember _ _) (wpAny_of_eq (a:=Value.none) (by first|rfl|(simp only[firstArgMember];rfl)) ?_);refine wpAny_newObj_type ?_ (by size_fits);simp only[raiseNew];refine wpAny_bind (wpAny_handled ?_);first|rw[show A.in1.handled=none from hh]|rw[hh]
 refine wpAny_bind (wpAny_pure (wpAny_throw ?_));exact j _ _ (((Heap.SameBut.update ..).extBut.push _).push _) ⟨_,get?_push_size _ rfl,rfl⟩
end
theorem iU(l:Addr)(items:Array Value)(n:Nat)(b:Option Addr)(i:Array (Option Value)):Meets (Builtin.«enumerate.__new__» ⟨[.type "enumerate",.ref l],[]⟩) (λ_ R s=>s.heap.get? l=some {cls:=.type "tuple",dict:=b,data:=.seq items n,slots:=i}/\R (.ok (.ret (.ref (s.heap.push {cls:=.type "tuple_iterator",data:=.fields #[.ref l,.int 0 0]}).objs.size))) {s with heap:=(s.heap.push {cls:=.type "tuple_iterator",data:=.fields #[.ref l,.int 0 0]}).push {cls:=.type "enumerate",data:=.fields #[.none,.bool false,.ref s.heap.objs.size,rawInt 0,.none,.none]}}):=.of_wp λprog w A R s h=>by
  obtain⟨j,g,d,k,os⟩:=s;obtain⟨a,h⟩:=h;have f:=sub_enumerate;have e:Heap.IsTuple (Shared.heap ⟨j,g,d,k,os⟩) l items:=⟨_,a,rfl,n,rfl⟩;wp_walk using wpAny_loadPart' a;refine wpAny_stack_any λst=>wpAny_pure ?_;split
  . rename_i c _ _ _ _ _;cases(c==Value.type "enumerate");.wp_walk using wpAny_loadPart' a,wpAny_pyIter_tuple e;exact⟨_,rfl,h⟩
    .wp_walk using wpAny_loadPart' a,wpAny_pyIter_tuple e;exact⟨_,rfl,h⟩
  .wp_walk using wpAny_loadPart' a,wpAny_pyIter_tuple e;exact⟨_,rfl,h⟩
section
variable{prog:Program}{w:World}{A:Around}{E:Value->Shared->Prop}{s:Shared}
theorem iz{l:Addr}{items:Array Value}{Q:Value->Shared->Prop}(e:s.heap.IsTuple l items)(h:∀ h',IsEnum h' (s.heap.objs.size+1) s.heap.objs.size 0 .none->h'.IsTupleIter s.heap.objs.size l 0->h'.objs.size=s.heap.objs.size+2->(∀b o,s.heap.get? b=some o->h'.get? b=some o)->Q (.ref (s.heap.objs.size+1)) {s with heap:=h'}):wpAny (model prog w) A (call (.type "enumerate") [.ref l]) Q E s:=by
 obtain⟨⟨c,a,f,g⟩,i,hc,n,hd⟩:=e;replace hc:c=.type "tuple":=hc;replace hd:f=.seq items n:=hd;subst hc hd;refine callType_new F.called_enumerate (by decide) (F.typeCall_enumerate_1 _) (F.newCall_enumerate_1 _) (λobj=>F.args_object_init_2 obj _) F.entry_enumerate_new (iU l items n a g) ⟨i,?_⟩;have hz:(s.heap.push {cls:=.type "tuple_iterator",data:=.fields #[.ref l,.int 0 0]}).objs.size=s.heap.objs.size+1:=size_push ..;show _/\_;rw[hz];have he:IsEnum ((s.heap.push {cls:=.type "tuple_iterator",data:=.fields #[.ref l,.int 0 0]}).push {cls:=.type "enumerate",data:=.fields #[.none,.bool false,.ref s.heap.objs.size,rawInt 0,.none,.none]}) (s.heap.objs.size+1) s.heap.objs.size 0 .none:=by have:=get?_push_size (s.heap.push {cls:=.type "tuple_iterator",data:=.fields #[.ref l,.int 0 0]}) (o:={cls:=.type "enumerate",data:=.fields #[.none,.bool false,.ref s.heap.objs.size,rawInt 0,.none,.none]}) rfl;rw[hz]at this;exact this
 refine⟨⟨_,he,rfl⟩,h _ he ⟨_,gG (get?_push_size _ rfl),rfl,rfl⟩ (by rw[size_push,hz]) λb o x=>gG (gG x)⟩
end
end PySem
end
section
namespace L2
open PySem PySem.Spec PyProof.Rows
variable{prog:Program}{w:World}
section
variable{X:Cx}{pins:List (Addr×Obj)}{σ:L2.St}{H:Hp}{s:Shared}
theorem Inv.DK{ch:List Addr}{h':Heap}{o:HO}{t':Nat}(I:Inv X pins σ H s)(k:∀b u,b∉ch->s.heap.get? b=some u->h'.get? b=some u)(j:∀b∈ch,∃u,h'.get? b=some u)(g:∀b∈ch,mG X pins H b)(new:cI X.prog X.w (upd H s.heap.objs.size o) h' s.heap.objs.size o):Inv X pins σ (upd H s.heap.objs.size o) {s with heap:=h',toks:=t'}:=by
 have fr:H s.heap.objs.size=none:=I.hok.fresh (cD);have i:∀b u,H b=some u->b∉ch:=λb u e a=>by rw[(g b a).1]at e;cases e
 have h:∀b u,H b=some u->upd H s.heap.objs.size o b=some u:=λb u e=>by
  have:b≠s.heap.objs.size:=by rintro rfl;rw[fr]at e;cases e
  rw[aG this];exact e
 refine I.call (g':=s.gens) (d':=s.drawn) (ch:=ch) ⟨λb u e n _ f=>k b u f e,λb u e n _ f=>⟨u.slots,k b u f e⟩,λb u e n f=>?_,λb u e f=>⟨u,k b u f e⟩,λb xs e=>h b _ e,λb l u e=>h b _ e,λb ps e=>⟨#[],by rw[h b _ e];simp⟩⟩ ?_ I.bare λb a=>⟨(g b a).2.2.2.1,(g b a).2.1,(g b a).2.2.2.2.1,(g b a).2.2.2.2.2⟩;.have:b≠s.heap.objs.size:=ne_of_lt (lt_size e);rw[aG this];exact n
 . intro b u e;by_cases a:b=s.heap.objs.size;.subst a;rw[bh]at e;cases e;exact new
   . rw[aG a]at e;refine(I.hok b u e).stay (λc v hc q=>k c v ?_ q) (λc q=>h c _ q) λc xs q=>h c _ q;rcases hc with rfl|hc;.exact i _ _ e
     .exact i _ _ hc
end
noncomputable def wD(K:PySem.W.Frag)(a:Addr):It:=⟨λi H=>∃xs x,dJ K H a xs/\xs[i]?=some x,λi H x b=>∃T v,H T=none/\x=.ref T/\b=upd H T (.tup [.int (i:Int),v])/\∀xs,dJ K H a xs->xs[i]?=some v,λi H=>∃xs,dJ K H a xs/\xs.length<=i⟩
theorem O3{A:Around}(hh:A.handled=none)(it l:Addr)(c:l≠it)(items:Array Value):Draws prog w A it [it,l] items.size (λi v=>items[i]?=some v) (λi h=>h.IsListIter it l i/\h.IsList l items)where
 live:=λ_ _ st=>let⟨o,ho,_⟩:=st.1;⟨o,ho⟩;frame:=λ_ _ _ st e=>⟨(let⟨o,ho,r⟩:=st.1;⟨o,e it (by simp) o ho,r⟩),(let⟨o,ho,r⟩:=st.2;⟨o,e l (by simp) o ho,r⟩)⟩;item:=λi s Q E f st g=>by refine wpAny_nextOf_list_item st.1 st.2 (x:=items[i]) (by simp[f]) λh' a b=>?_;exact g _ h' s.toks (by simp[f]) ⟨a,(let⟨o,ho,r⟩:=st.2;⟨o,b.extBut l o c ho,r⟩)⟩ b
 done:=λs Q E st j=>wpAny_nextOf_list_end hh st.1 st.2 (by simp) j
theorem zG{A:Around}(hh:A.handled=none)(it l:Addr)(items:Array Value)(n:Nat)(b:items.size<=n):Draws prog w A it [it,l] n (λ_ _=>True) (λi h=>i=n/\h.IsListIter it l i/\h.IsList l items)where live:=λ_ _ st=>let⟨o,ho,_⟩:=st.2.1;⟨o,ho⟩;frame:=λ_ _ _ st a=>⟨st.1,(let⟨o,ho,r⟩:=st.2.1;⟨o,a it (by simp) o ho,r⟩),(let⟨o,ho,r⟩:=st.2.2;⟨o,a l (by simp) o ho,r⟩)⟩;item:=λi s Q E c st f=>absurd st.1 (ne_of_lt c);done:=λs Q E st e=>wpAny_nextOf_list_end hh st.2.1 st.2.2 (by simp;exact b) e
theorem zY{P:Program}{K:PySem.W.Frag}{p:List Expr}{x1}{tp:Pos}(a it e:Addr)(m:e≠it):Turn P w K (.Tuple p x1 tp) (wD K a) [e,it] e (λi h=>(∃g,IsEnum h e it (i:Int) g)/\h.IsListIter it a i)where
 mem:=by simp
 obj:=λi h st b hb=>by
  obtain⟨⟨g,h1⟩,o,j,J,h4⟩:=st;rcases mem_cons.mp hb with rfl|hb;.exact⟨_,h1,λv z=>by cases z⟩
  . have:b=it:=by simpa using hb
    subst this;exact⟨o,j,λv z=>by rw[h4]at z;cases z⟩
 keep:=λi h h' st k=>by obtain⟨⟨g,h1⟩,o,j,J⟩:=st;exact⟨⟨g,k e (by simp) _ h1⟩,o,k it (by simp) _ j,J⟩
 item:=λX Z hw hK hc i t s σ H E I L st go=>by
  subst Z hw hK;obtain⟨⟨g,he⟩,l⟩:=st;obtain⟨xs,x,M,B⟩:=go;obtain⟨c,N,pl,hz⟩:=I.list M;have O:s.heap.IsList a c.toArray:=pl.isList;obtain⟨oa,U,n,_⟩:=id O;have ae:e≠a:=by rintro rfl;rw[he]at U;cases U;exact absurd (show Value.type "enumerate"=Value.type _ from n) (by decide)
  have af:a≠it:=by rintro rfl;obtain⟨o,j,J,_⟩:=id l;rw[j]at U;cases U;rw[J]at n;exact absurd n (by decide)
  have ag:i<c.toArray.size:=by rw[size_toArray,<-N.length];exact(gW B).1
  refine wpAny_pyNext_enum_itemD (O3 (show X.A.in1.handled=none from I.ok.hd hc) it a af c.toArray) he ⟨l,O⟩ ag m (by simp[m,ae]) λy h' tk Y ah C ht ax kp=>?_;refine⟨_,rfl,wpAny_letOwnedTupleGo_enum ah λG Eb sb=>?_⟩;obtain⟨u,ai,am⟩:=N.get B;have ap:y=u:=by
   have Y:c[i]?=some y:=by simpa using Y
   rw[ai]at Y;cases Y;rfl
  subst ap;have hT:∀b∈[e,it],b≠s.heap.objs.size:=λb hb=>by
   rcases mem_cons.mp hb with rfl|hb;.exact ne_of_lt (lt_size he)
   . have:b=it:=by simpa using hb
     subst this;obtain⟨o,j,_⟩:=id l;exact ne_of_lt (lt_size j)
  have ar:s.heap.objs.size≠e:=(hT e (by simp)).symm;have av:∀b o,b∉[e,it]->s.heap.get? b=some o->G.get? b=some o:=λb o hb q=>by have h1:b≠e:=λz=>hb (by simp[z]);have j:b≠it:=λz=>hb (by simp[z]);exact sb.extBut b o h1 (kp b o h1 j q)
  have vG:G.get? s.heap.objs.size=some {cls:=.type "tuple",data:=.seq #[.int i tk,y]}:=sb.extBut _ _ ar ht;refine⟨.ref s.heap.objs.size,upd H s.heap.objs.size (.tup [.int (i:Int),x]),?_,rfl,⟨_,x,I.fresh,rfl,rfl,λys aw=>?_⟩,⟨⟨_,Eb⟩,?_⟩,λb hb=>?_⟩
  . refine I.DK (ch:=[e,it]) (t':=tk+1) av (λb hb=>?_) (λb hb=>(L b hb)) ⟨(by show 2<=sizeLine;decide),[.int i tk,y],.cons ⟨_,rfl⟩ (.cons am .nil),⟨_,vG,rfl,_,rfl⟩⟩;rcases mem_cons.mp hb with rfl|hb;.exact⟨_,Eb⟩
    . have:b=it:=by simpa using hb
      subst this;obtain⟨o,j,_⟩:=id C.1;exact⟨o,sb.extBut _ _ (Ne.symm m) j⟩
  .rw[I.o5 aw M];exact B
  .obtain⟨o,j,r⟩:=C.1;exact⟨o,sb.extBut _ _ (Ne.symm m) j,r⟩
  .rw[aG (hT b hb)];exact(L b hb).1
 done:=λX Z hw hK hc i t s σ H E I L st stop=>by subst Z hw hK;obtain⟨⟨g,he⟩,l⟩:=st;obtain⟨xs,M,B⟩:=stop;obtain⟨c,N,pl,hz⟩:=I.list M;have O:s.heap.IsList a c.toArray:=pl.isList;refine wpAny_pyNext_enum_endD (zG (show X.A.in1.handled=none from I.ok.hd hc) it a c.toArray i (by rw[size_toArray,<-N.length];exact B)) he ⟨rfl,l,O⟩ λh' hs=>⟨rfl,?_⟩;have f:=L it (by simp);exact I.turned (t':=s.toks) (λb o hb q=>hs b o hb q) f.1 f.2.1 f.2.2.2.1 f.2.2.2.2.1 f.2.2.2.2.2
 self:=λA i s Q E st q=>wpAny_pyIter_enum st.1.choose_spec q
noncomputable def wA(K:PySem.W.Frag)(a:Addr):It:=⟨λi H=>∃xs x,gA K H a xs/\xs[i]?=some x,λi H x b=>∃T v,H T=none/\x=.ref T/\b=upd H T (.tup [.int (i:Int),v])/\∀xs,gA K H a xs->xs[i]?=some v,λi H=>∃xs,gA K H a xs/\xs.length<=i⟩
theorem K1{A:Around}(hh:A.handled=none)(it l:Addr)(c:l≠it)(items:Array Value):Draws prog w A it [it,l] items.size (λi v=>items[i]?=some v) (λi h=>h.IsTupleIter it l i/\h.IsTuple l items)where
 live:=λ_ _ st=>let⟨o,ho,_⟩:=st.1;⟨o,ho⟩;frame:=λ_ _ _ st e=>⟨(let⟨o,ho,r⟩:=st.1;⟨o,e it (by simp) o ho,r⟩),(let⟨o,ho,r⟩:=st.2;⟨o,e l (by simp) o ho,r⟩)⟩;item:=λi s Q E f st g=>by refine jN st.1 st.2 (x:=items[i]) (by simp[f]) λh' a b=>?_;exact g _ h' s.toks (by simp[f]) ⟨a,(let⟨o,ho,r⟩:=st.2;⟨o,b.extBut l o c ho,r⟩)⟩ b
 done:=λs Q E st j=>fY hh st.1 st.2 (by simp) j
theorem zR{A:Around}(hh:A.handled=none)(it l:Addr)(items:Array Value)(n:Nat)(b:items.size<=n):Draws prog w A it [it,l] n (λ_ _=>True) (λi h=>i=n/\h.IsTupleIter it l i/\h.IsTuple l items)where live:=λ_ _ st=>let⟨o,ho,_⟩:=st.2.1;⟨o,ho⟩;frame:=λ_ _ _ st a=>⟨st.1,(let⟨o,ho,r⟩:=st.2.1;⟨o,a it (by simp) o ho,r⟩),(let⟨o,ho,r⟩:=st.2.2;⟨o,a l (by simp) o ho,r⟩)⟩;item:=λi s Q E c st f=>absurd st.1 (ne_of_lt c);done:=λs Q E st e=>fY hh st.2.1 st.2.2 (by simp;exact b) e
theorem zx{P:Program}{K:PySem.W.Frag}{p:List Expr}{x1}{tp:Pos}(a it e:Addr)(m:e≠it):Turn P w K (.Tuple p x1 tp) (wA K a) [e,it] e (λi h=>(∃g,IsEnum h e it (i:Int) g)/\h.IsTupleIter it a i)where
 mem:=by simp
 obj:=λi h st b hb=>by
  obtain⟨⟨g,h1⟩,o,j,J,h4⟩:=st;rcases mem_cons.mp hb with rfl|hb;.exact⟨_,h1,λv z=>by cases z⟩
  . have:b=it:=by simpa using hb
    subst this;exact⟨o,j,λv z=>by rw[h4]at z;cases z⟩
 keep:=λi h h' st k=>by obtain⟨⟨g,h1⟩,o,j,J⟩:=st;exact⟨⟨g,k e (by simp) _ h1⟩,o,k it (by simp) _ j,J⟩
 item:=λX Z hw hK hc i t s σ H E I L st go=>by
  subst Z hw hK;obtain⟨⟨g,he⟩,l⟩:=st;obtain⟨xs,x,M,B⟩:=go;obtain⟨c,N,pl,hz⟩:=I.tuple M;have O:s.heap.IsTuple a c.toArray:=pl;obtain⟨oa,U,n,_⟩:=id O;have ae:e≠a:=by rintro rfl;rw[he]at U;cases U;exact absurd (show Value.type "enumerate"=Value.type _ from n) (by decide)
  have af:a≠it:=by rintro rfl;obtain⟨o,j,J,_⟩:=id l;rw[j]at U;cases U;rw[J]at n;exact absurd n (by decide)
  have ag:i<c.toArray.size:=by rw[size_toArray,<-N.length];exact(gW B).1
  refine wpAny_pyNext_enum_itemD (K1 (show X.A.in1.handled=none from I.ok.hd hc) it a af c.toArray) he ⟨l,O⟩ ag m (by simp[m,ae]) λy h' tk Y ah C ht ax kp=>?_;refine⟨_,rfl,wpAny_letOwnedTupleGo_enum ah λG Eb sb=>?_⟩;obtain⟨u,ai,am⟩:=N.get B;have ap:y=u:=by
   have Y:c[i]?=some y:=by simpa using Y
   rw[ai]at Y;cases Y;rfl
  subst ap;have hT:∀b∈[e,it],b≠s.heap.objs.size:=λb hb=>by
   rcases mem_cons.mp hb with rfl|hb;.exact ne_of_lt (lt_size he)
   . have:b=it:=by simpa using hb
     subst this;obtain⟨o,j,_⟩:=id l;exact ne_of_lt (lt_size j)
  have ar:s.heap.objs.size≠e:=(hT e (by simp)).symm;have av:∀b o,b∉[e,it]->s.heap.get? b=some o->G.get? b=some o:=λb o hb q=>by have h1:b≠e:=λz=>hb (by simp[z]);have j:b≠it:=λz=>hb (by simp[z]);exact sb.extBut b o h1 (kp b o h1 j q)
  have vG:G.get? s.heap.objs.size=some {cls:=.type "tuple",data:=.seq #[.int i tk,y]}:=sb.extBut _ _ ar ht;refine⟨.ref s.heap.objs.size,upd H s.heap.objs.size (.tup [.int (i:Int),x]),?_,rfl,⟨_,x,I.fresh,rfl,rfl,λys aw=>?_⟩,⟨⟨_,Eb⟩,?_⟩,λb hb=>?_⟩
  . refine I.DK (ch:=[e,it]) (t':=tk+1) av (λb hb=>?_) (λb hb=>(L b hb)) ⟨(by show 2<=sizeLine;decide),[.int i tk,y],.cons ⟨_,rfl⟩ (.cons am .nil),⟨_,vG,rfl,_,rfl⟩⟩;rcases mem_cons.mp hb with rfl|hb;.exact⟨_,Eb⟩
    . have:b=it:=by simpa using hb
      subst this;obtain⟨o,j,_⟩:=id C.1;exact⟨o,sb.extBut _ _ (Ne.symm m) j⟩
  .rw[I.lQ aw M];exact B
  .obtain⟨o,j,r⟩:=C.1;exact⟨o,sb.extBut _ _ (Ne.symm m) j,r⟩
  .rw[aG (hT b hb)];exact(L b hb).1
 done:=λX Z hw hK hc i t s σ H E I L st stop=>by subst Z hw hK;obtain⟨⟨g,he⟩,l⟩:=st;obtain⟨xs,M,B⟩:=stop;obtain⟨c,N,pl,hz⟩:=I.tuple M;have O:s.heap.IsTuple a c.toArray:=pl;refine wpAny_pyNext_enum_endD (zR (show X.A.in1.handled=none from I.ok.hd hc) it a c.toArray i (by rw[size_toArray,<-N.length];exact B)) he ⟨rfl,l,O⟩ λh' hs=>⟨rfl,?_⟩;have f:=L it (by simp);exact I.turned (t':=s.toks) (λb o hb q=>hs b o hb q) f.1 f.2.1 f.2.2.2.1 f.2.2.2.2.1 f.2.2.2.2.2
 self:=λA i s Q E st q=>wpAny_pyIter_enum st.1.choose_spec q
section
variable{X:Cx}{elts:List Expr}{x1:Nat}{tp:Pos}
def Xx(K:PySem.W.Frag)(c:TE):TI:=λe H R=>c e H λx b=>∃a,x=.ref a/\(((∃xs,dJ K b a xs)/\R (wD K a) b)\/((∃xs,gA K b a xs)/\R (wA K a) b))
theorem boot_enumerate:bootBuiltins "enumerate"=some (.type "enumerate"):=by decide+kernel
theorem M3{a:Expr}{y:TE}{p pos:Pos}(B:Gl X "enumerate")(C:X.mg "enumerate"=none)(G:PE X a y)(hs:starEach [a] X.env=[(false,eval a X.env)]:=by rfl):PI X (.Tuple elts x1 tp) (.Call (.Name "enumerate" p) [a] [] pos) (Xx X.K y):=by
 intro e s z H R I h;refine Call_ (iM I B C boot_enumerate (PyProof.Rows.callWith_type1 (cJ ((cH G fG hs) pos e s z H (λvs c=>match vs with|[x]=>∃a,x=.ref a/\(((∃xs,dJ X.K c a xs)/\R (wD X.K a) c)\/((∃xs,gA X.K c a xs)/\R (wA X.K a) c))|_=>False) I h) ?_) hs rfl));rintro N s1⟨vs,c,f,r1,j⟩
 . obtain⟨ad,q,k⟩:∃ad,(((∃xs,dJ X.K c ad xs)/\R (wD X.K ad) c)\/((∃xs,gA X.K c ad xs)/\R (wA X.K ad) c))/\vs=[.ref ad]:=by cases vs with|nil=>cases j|cons x r=>cases r with|nil=>obtain⟨ad,rfl,q⟩:=j;exact⟨ad,q,rfl⟩|cons _ _=>cases j
   subst k;obtain⟨u,rfl,L⟩:=r1.one;cases L;have fin:∀(h':Heap)(i:Nat->Heap->Prop)(J:It),Turn X.prog X.w X.K (.Tuple elts x1 tp) J [s1.heap.objs.size+1,s1.heap.objs.size] (s1.heap.objs.size+1) i->i 0 h'->IsEnum h' (s1.heap.objs.size+1) s1.heap.objs.size 0 .none->(∀b o,s1.heap.get? b=some o->h'.get? b=some o)->R J c->wpAny (model X.prog X.w) X.A (pyIter (.ref (s1.heap.objs.size+1))) (PIE X e z (.Tuple elts x1 tp) R) X.xe {s1 with heap:=h'}:=λh' i J T t0 he kp q=>by
    refine wpAny_pyIter_enum he ⟨_,_,i,J,c,rfl,f.kept (t':=s1.toks) kp,T,t0,λb hb=>?_,q⟩;have g:s1.heap.objs.size<=b:=by
     rcases mem_cons.mp hb with rfl|hb;.exact le_succ _
     . have:b=s1.heap.objs.size:=by simpa using hb
       rw[this];exact cD
    exact f.Cv g (f.hok.fresh g)
   rcases q with⟨⟨xs,l⟩,q⟩|⟨⟨xs,l⟩,q⟩;.obtain⟨m,M,n,hz⟩:=f.list l;exact call_enumerate_list n.isList λh' he t v kp=>fin h' _ _ (zY ad s1.heap.objs.size (s1.heap.objs.size+1) (Nat.succ_ne_self _)) ⟨⟨_,he⟩,t⟩ he kp q
   .obtain⟨m,M,n,hz⟩:=f.tuple l;exact iz n λh' he t v kp=>fin h' _ _ (zx ad s1.heap.objs.size (s1.heap.objs.size+1) (Nat.succ_ne_self _)) ⟨⟨_,he⟩,t⟩ he kp q
end
end L2
namespace HH
open PySem L2 PySem.Spec PyProof.Rows
section
variable{K:PySem.W.Frag}{F F1 H H1:Hp}{ρ ρ1:List Sl}{σ:L2.St}{ds:List D}{a:Addr}
theorem uN{c e:Hp}{T:Addr}{v w:V}{d1 d2:D}(g:aM c e)(h:e T=none)(r1:Rep K c v d1)(i:Rep K c w d2):∃b,Ext c e b (upd e T (.tup [v,w]))/\Rep K b (.ref T) (.tup [d1,d2]):=zf (Q:=λv f=>∃b,Ext c e b f/\Rep K b v (.tup [d1,d2])) g (.cons r1 (.cons i .nil)) h λv b f x j=>⟨b,x,j⟩
theorem Dp{xs:List V}{e b:Hp}(f:dJ K b a xs)(r:aD K e xs ds)(s:aM e b)(k:Nat):(∀d,(ds.mapIdx λi d=>D.tup [.int (i:Int),d])[k]?=some d->(wD K a).go k b/\∀x g,(wD K a).Il k b x g->∃c,Ext e b c g/\Rep K c x d)/\((ds.mapIdx λi d=>D.tup [.int (i:Int),d]).length<=k->(wD K a).stop k b):=by refine⟨λd hd=>?_,λh=>⟨xs,f,by rw[r.length];simpa using h⟩⟩;rw[List.getElem?_mapIdx]at hd;obtain⟨d0,j,l⟩:=map_some hd;subst l;obtain⟨w,h1,m⟩:=r.get j;refine⟨⟨xs,w,f,h1⟩,?_⟩;rintro x g⟨T,v,n,o,p,y⟩;subst o;subst p;have:=y xs f;rw[h1]at this;cases this;exact uN s n (cA _) m
theorem Bj{xs:List V}{e b:Hp}(f:gA K b a xs)(r:aD K e xs ds)(s:aM e b)(k:Nat):(∀d,(ds.mapIdx λi d=>D.tup [.int (i:Int),d])[k]?=some d->(wA K a).go k b/\∀x g,(wA K a).Il k b x g->∃c,Ext e b c g/\Rep K c x d)/\((ds.mapIdx λi d=>D.tup [.int (i:Int),d]).length<=k->(wA K a).stop k b):=by refine⟨λd hd=>?_,λh=>⟨xs,f,by rw[r.length];simpa using h⟩⟩;rw[List.getElem?_mapIdx]at hd;obtain⟨d0,j,l⟩:=map_some hd;subst l;obtain⟨w,h1,m⟩:=r.get j;refine⟨⟨xs,w,f,h1⟩,?_⟩;rintro x g⟨T,v,n,o,p,y⟩;subst o;subst p;have:=y xs f;rw[h1]at this;cases this;exact uN s n (cA _) m
end
section
variable{X:Cx}{c:Call}{e a:Expr}{pa:P}{pos:Pos}{elts:List Expr}{x1:Nat}{tp:Pos}
theorem Oe{x:Str}{p':Pos}(B:x="enumerate")(C:Gl X x)(G:X.mg x=none)(I:SX X c a pa)(hs:starEach [a] X.env=[(false,eval a X.env)]:=by rfl):SI X c (.Tuple elts x1 tp) (.Call (.Name x p') [a] [] pos) (.Vc pa):=by subst B;refine uR (M3 C G I.ev hs) ?_;rintro W H R⟨F,ρ,ds,J,g,e,k⟩;obtain⟨r,L,w,j⟩:=ak e;have m:=aJ j;clear j;obtain⟨j,M⟩:=m;subst M;rw[HH.E22]at w;obtain⟨r0,h,N,l⟩:=ak w;have m:=aJ l;clear l;obtain⟨l,O⟩:=m;subst O;obtain⟨Y,f1,f2⟩:=map_some l;subst f2;cases j;refine⟨F,ρ,r0,_,g,N,λv y z s i=>?_⟩;obtain⟨Z,s2,_,f⟩:=s.fM i;cases hd:r0.d with|tup o=>rw[hd]at f1 f;cases f1;rw[Rep]at f;obtain⟨ad,xs,rfl,h1,p⟩:=f;exact⟨ad,rfl,.inr ⟨⟨xs,aM.gY s2.gs.sub h1⟩,k _ _ _ ⟨s2.gs,λn k y q t z b=>Bj (aM.gY b.gs.sub (aM.gY b.cW h1)) (p.mono b.cW) b.gs.sub k,λQ h u U s3=>⟨s2.trans s3,λv r i=>i.later s2⟩⟩⟩⟩|lst o=>rw[hd]at f1 f;cases f1;rw[Rep]at f;obtain⟨ad,xs,rfl,h1,p⟩:=f;exact⟨ad,rfl,.inl ⟨⟨xs,s2.gs.sub.seq h1⟩,k _ _ _ ⟨s2.gs,λn k y q t z b=>Dp (b.gs.sub.seq (b.cW.seq h1)) (p.mono b.cW) b.gs.sub k,λQ h u U s3=>⟨s2.trans s3,λv r i=>i.later s2⟩⟩⟩⟩|_=>rw[hd]at f1;cases f1
end
end HH
end
section
namespace L2
open PySem PySem.Spec PyProof.Rows
end L2
namespace HH
open PySem L2 PySem.Spec PyProof.Rows
structure bL(K:PySem.W.Frag)(x:Str)(st:Stmt):Prop where ex:∃f fd,PySem.W.nsIn K mainGlobals x=some (some (.ref f))/\il K x x st f fd
section
variable{Pg:Program}{w:World}{K:PySem.W.Frag}{mg:Str->Option Value}{base h:Heap}
theorem Lk{x:Str}{st:Stmt}{f:Addr}{g:Value}{i j:Option Addr}{b:Array (Option Value)}{kV e pm cdv ct:Value}(a:PySem.W.nsIn K mainGlobals x=some (some (.ref f)))(l:K.lookup f=some ⟨g,i,.func (PySem.W.fnOf x x (dO st) (cQ st) (au st) .none kV e pm j cdv ct),b⟩)(c:PySem.W.codeIn K cdv x=true)(k:keepIn K (.ref f)=true):bL K x st:=⟨_,_,a,Np l c k⟩
theorem cu{Γ:Tab}{wl i np:Nat}{x:Str}{st:Stmt}{ps:List Str}(X:K.In h)(G:h.Ns mainGlobals mg)(D:bL K x st)(j:ps.length=np)(k:∀(kV g pm:Value)(l:Option Addr)(cdv ct:Value)(c:List Value),c.length=ps.length->bindArgs (PySem.W.fnOf x x (dO st) (cQ st) (au st) .none kV g pm l cdv ct) ⟨c,[]⟩=pure (ps.zip c)):aZ Pg w K mg base 0 (run Γ wl 0) i x np:=by obtain⟨f,fd,a,F⟩:=D.ex;exact⟨f,fd,ps,⟨λvs H Q E s=>s.1,λA outer s H args c vs Q E hr e b v sp=>by obtain⟨_,F,as,r,m,_,z,_⟩:=sp;cases z⟩,mg_of X G a,F.kp,F.binds k,j⟩
theorem cj{Γ:Tab}{wl n i np:Nat}{x:Str}{st:Stmt}{ps:List Str}{d:Fd}(X:K.In h)(G:h.Ns mainGlobals mg)(D:bL K x st)(j:ps.length=np)(b:Γ i=some d)(k:∀(kV c pm:Value)(l:Option Addr)(cdv ct:Value)(g:List Value),g.length=ps.length->bindArgs (PySem.W.fnOf x x (dO st) (cQ st) (au st) .none kV c pm l cdv ct) ⟨g,[]⟩=pure (ps.zip g))(ok:∀f fd,il K x x st f fd->gP Pg w K mg base Bt (n+1) f fd ps (Ey K np (λargs=>enter (run Γ wl n) wl d args))):aZ Pg w K mg base (n+1) (run Γ wl (n+1)) i x np:=by
 obtain⟨f,fd,a,F⟩:=D.ex;refine⟨f,fd,ps,?_,mg_of X G a,F.kp,F.binds k,j⟩;have e:run Γ wl (n+1) i=λargs=>enter (run Γ wl n) wl d args:=by funext args;show(match Γ i with|some d=>enter (run Γ wl n) wl d args|none=>.stuck)=_;rw[b]
 rw[e,j];exact ok f fd F
theorem p7{F:Hp}:∀ns:List Int,aD K F (ns.map V.int) (ns.map D.int)|[]=>.nil|n::ns=>.cons (cA n) (p7 ns)
theorem Af{H:Hp}{a:Addr}{ns:List Int}{g:List Sl->Res R}{as:List Sl}(l:dJ K H a (ns.map V.int))(hr:g [.val false (.lst (ns.map D.int))]=.ok (.val (.bl true)) as):Ey K 1 g [.ref a] H (λv _=>v=.bl true) λ_ _ _=>False:=by
 refine⟨rfl,H,_,_,as,⟨.refl _,rfl,λi b d e=>?_,λi s ds e k=>?_,λi j c h=>?_⟩,hr,λv m n o s f=>?_⟩;.match i,e with|0,e=>cases e;refine⟨.ref a,rfl,?_⟩;rw[Rep];exact⟨a,_,rfl,l,p7 ns⟩|i+1,e=>simp at e
 .match i,e with|0,e=>cases e;cases k|i+1,e=>simp at e
 .obtain⟨⟨s,ds,e,k⟩,_⟩:=h;match i,e with|0,e=>cases e;cases k|i+1,e=>simp at e
 .have f:Rep K m v (.bl true):=f;rw[Rep]at f;exact f
end
end HH
end
section
namespace HH
open PySem
variable{n:Nat}{c:Call}{ρ:List Sl}{is:List Nat}
def Res.sat{b:Type}(Q:b->List Sl->Prop)(x:Res b):Prop:=match x with|.ok a ρ=>Q a ρ|.exc _ _=>False|.stuck=>False
section
variable{α β:Type}{Q Q':α->List Sl->Prop}
@[simp]theorem Lp{a:α}{ρ:List Sl}:(Res.ok a ρ).sat Q=Q a ρ:=rfl
@[simp]theorem Wb{k:Nat}{ρ:List Sl}:(Res.exc k ρ:Res α).sat Q=False:=rfl
@[simp]theorem Qf:(Res.stuck:Res α).sat Q=False:=rfl
theorem bU{x:Res β}{f:β->List Sl->Res α}:(x.bind f).sat Q=x.sat λa ρ=>(f a ρ).sat Q:=by cases x<;>rfl
@[simp]theorem Wj{p:Prop}[Decidable p]{x y:Res α}:(if p then x else y).sat Q=((p->x.sat Q)/\(¬ p->y.sat Q)):=by by_cases h:p<;>simp[h]
@[simp]theorem Es{a:α}{ρ:List Sl}:(lift (some a) ρ).sat Q=Q a ρ:=rfl
@[simp]theorem Eg{ρ:List Sl}:(lift (none:Option α) ρ).sat Q=False:=rfl
@[simp]theorem HB{p:Prop}[Decidable p]{a:α}{ρ:List Sl}:(lift (if p then some a else none) ρ).sat Q=(p/\Q a ρ):=by by_cases h:p<;>simp[h]
theorem Res.sat.imp{x:Res α}(h:x.sat Q)(k:∀a ρ,Q a ρ->Q' a ρ):x.sat Q':=by cases x with|ok a ρ=>exact k a ρ h|exc _ _=>exact h|stuck=>exact h
theorem sat_iff{x:Res α}:x.sat Q↔∃a ρ,x=.ok a ρ/\Q a ρ:=by cases x with|ok a ρ=>exact⟨λh=>⟨a,ρ,rfl,h⟩,λ⟨_,_,e,h⟩=>by cases e;exact h⟩|exc _ _=>exact⟨λh=>h.elim,λ⟨_,_,e,_⟩=>by cases e⟩|stuck=>exact⟨λh=>h.elim,λ⟨_,_,e,_⟩=>by cases e⟩
end
noncomputable def fr:Sl->Bool|.bG=>true|.val b _=>!b|.own b _=>!b|.lent _=>false|.sJ _=>false|.sO _=>false|.hold _=>false
@[simp]theorem Y5:fr .bG=true:=rfl
@[simp]theorem Yi{b:Bool}{d:D}:fr (.val b d)=!b:=rfl
@[simp]theorem Yq{b:Bool}{d:List D}:fr (.own b d)=!b:=rfl
@[simp]theorem Wu{d:List D}:fr (.lent d)=false:=rfl
theorem Mg(ρ:List Sl)(i:Nat)(s:Sl):put ρ i s=match ρ[i]?with|some t=>if fr t=true then some (ρ.set i s)else none|none=>none:=by unfold put;cases h:ρ[i]?with|none=>rfl|some t=>cases t with|bG=>rfl|val b d=>cases b<;>rfl|own b d=>cases b<;>rfl|lent d=>rfl|sJ m=>rfl|sO m=>rfl|hold m=>rfl
theorem iR{Γ:Tab}{w i:Nat}{d:Fd}{args:List Sl}(h:Γ i=some d):run Γ w (n+1) i args=enter (run Γ w n) w d args:=by rw[run,h]
noncomputable def fin(np:Nat):Fl->List Sl->Option (R×List Sl)|.next,ρ=>some (.val .non,ρ.take np)|.ret r,ρ=>some (r,ρ.take np)|_,_=>none
def eQ(np:Nat)(Q:R->List Sl->Prop)(a:Fl)(ρ:List Sl):Prop:=match a with|.next=>Q (.val .non) (ρ.take np)|.ret r=>Q r (ρ.take np)|_=>False
def sQ(c:Call)(n:Nat)(r:List S)(Q:Fl->List Sl->Prop)(fl:Fl)(ρ:List Sl):Prop:=match fl with|.next=>(bO c n r ρ).sat Q|fl=>Q fl ρ
def fQ(J:List Sl->Prop)(Q:Fl->List Sl->Prop)(a:Fl)(ρ:List Sl):Prop:=match a with|.next=>J ρ|.cont=>J ρ|.brk=>Q .next ρ|.ret v=>Q (.ret v) ρ
section
variable{np:Nat}{Q:R->List Sl->Prop}{ρ:List Sl}{v:R}{c:Call}{n:Nat}{r:List S}{Q':Fl->List Sl->Prop}{J:List Sl->Prop}
@[simp]theorem VP:eQ np Q .next ρ=Q (.val .non) (ρ.take np):=rfl
@[simp]theorem Xo:eQ np Q (.ret v) ρ=Q v (ρ.take np):=rfl
@[simp]theorem Yv:eQ np Q .brk ρ=False:=rfl
@[simp]theorem VF:eQ np Q .cont ρ=False:=rfl
@[simp]theorem Ws:sQ c n r Q' .next ρ=(bO c n r ρ).sat Q':=rfl
@[simp]theorem Xv:sQ c n r Q' (.ret v) ρ=Q' (.ret v) ρ:=rfl
@[simp]theorem Yk:sQ c n r Q' .brk ρ=Q' .brk ρ:=rfl
@[simp]theorem Wh:sQ c n r Q' .cont ρ=Q' .cont ρ:=rfl
@[simp]theorem Wg:fQ J Q' .next ρ=J ρ:=rfl
@[simp]theorem Ww:fQ J Q' .cont ρ=J ρ:=rfl
@[simp]theorem Zk:fQ J Q' .brk ρ=Q' .next ρ:=rfl
@[simp]theorem Zv:fQ J Q' (.ret v) ρ=Q' (.ret v) ρ:=rfl
end
theorem Ad{d:Fd}{args:List Sl}{Q:R->List Sl->Prop}(a:args.length=d.np)(hd:d.np<=d.nn)(h:(bO c n d.body (args++replicate (d.nn-d.np) .bG)).sat (eQ d.np Q)):(enter c n d args).sat Q:=by unfold enter;rw[if_pos ⟨a,hd⟩];revert h;cases bO c n d.body (args++replicate (d.nn-d.np) .bG)with|stuck=>exact λh=>False.elim h|exc _ _=>exact λh=>False.elim h|ok b ρ=>cases b<;>first|exact id|exact λh=>False.elim h
theorem aU{Γ:Tab}{w i:Nat}{d:Fd}{args:List Sl}{Q:R->List Sl->Prop}(a:Γ i=some d)(b:args.length=d.np)(hd:d.np<=d.nn)(h:(bO (run Γ w n) w d.body (args++replicate (d.nn-d.np) .bG)).sat (eQ d.np Q)):(run Γ w (n+1) i args).sat Q:=by rw[iR a];exact Ad b hd h
theorem ao{s:S}{r:List S}{Q:Fl->List Sl->Prop}(h:(ex c n s ρ).sat (sQ c n r Q)):(bO c n (s::r) ρ).sat Q:=by rw[xs1,bU];refine h.imp λa b q=>?_;cases a<;>exact q
theorem zb{s:S}{r:List S}{Q:Fl->List Sl->Prop}(h:(ex c n s ρ).sat (sQ c n r Q)):sQ c n (s::r) Q .next ρ:=ao h
@[simp]theorem Vv{c:Call}{n:Nat}{ρ:List Sl}{Q:Fl->List Sl->Prop}:(bO c n [] ρ).sat Q=Q .next ρ:=by rw[xs0];rfl
theorem jd{s:S}{r:List S}{Q:Fl->List Sl->Prop}(M:List Sl->Prop)(h:(ex c n s ρ).sat λb a=>b=.next/\M a)(k:∀a,M a->(bO c n r a).sat Q):(bO c n (s::r) ρ).sat Q:=ao (h.imp λb a⟨e,q⟩=>by subst e;exact k a q)
theorem cO{is:List Nat}{one:Bool}{body:List Sl->Res Fl}(J:List D->List Sl->Prop){Q:Fl->List Sl->Prop}(b:∀d r ρ,J (d::r) ρ->∃a,di ρ is one d=some a/\(body a).sat (fQ (J r) Q))(f:∀ρ,J [] ρ->Q .next ρ):∀{ds:List D}{ρ:List Sl},J ds ρ->(gM is one body ds ρ).sat Q|[],ρ,j=>f ρ j|d::r,ρ,j=>by obtain⟨a,e,h⟩:=b d r ρ j;rw[gM,e];show((body a).bind _).sat Q;rw[bU];refine h.imp λg i q=>?_;cases g with|next=>exact cO J b f q|cont=>exact cO J b f q|brk=>exact q|ret v=>exact q
theorem jf{is:List Nat}{one:Bool}{a:List Sl->Res Bool}{p:Ev}(J:List Sl->Prop)(g:D->Option D){Q:List D->List Sl->Prop}:∀{ds f:List D}{ρ:List Sl},J ρ->(∀ d,d ∈ ds->∀ ρ,J ρ->∃ i,di ρ is one d=some i/\(a i).sat λb l=>if b=true then(p l).sat λr s=>g d=some r.d/\J s else g d=none/\J l)->(∀ ρ,J ρ->Q (f++ds.filterMap g) ρ)->(turns is one a p ds f ρ).sat Q|[],f,ρ,j,h,k=>by rw[turns];simpa using k ρ j|d::r,f,ρ,j,h,k=>by obtain⟨i,e,h1⟩:=h d (by simp) ρ j;rw[turns,e];show((a i).bind _).sat Q;rw[bU];refine h1.imp λb l q=>?_;cases b with|true=>rw[if_pos rfl]at q;rw[if_pos rfl,bU];refine q.imp λx s⟨u,j3⟩=>?_;refine jf J g j3 (λd' m=>h d' (by simp[m])) λo t=>?_;have:=k o t;rw[filterMap_cons,u]at this;rw[append_assoc];exact this|false=>rw[if_neg (by simp)]at q;rw[if_neg (by simp)];refine jf J g q.2 (λd' m=>h d' (by simp[m])) λo t=>?_;have:=k o t;rw[filterMap_cons,q.1]at this;exact this
theorem vP{one:Bool}{b:Ev}(J:List Sl->Prop)(g:D->D){Q:List D->List Sl->Prop}{ds:List D}(j:J ρ)(h:∀d,d∈ds->∀ρ,J ρ->∃a,di ρ is one d=some a/\(b a).sat λr f=>g d=r.d/\J f)(k:∀ρ,J ρ->Q (ds.map g) ρ):(turns is one (wZ c none) b ds [] ρ).sat Q:=jf J (λd=>some (g d)) j (λd hd ρ j=>by obtain⟨a,e,h1⟩:=h d hd ρ j;refine⟨a,e,?_⟩;rw[wZ,Lp,if_pos rfl];exact h1.imp λr f q=>⟨by rw[q.1],q.2⟩) λρ j=>by simpa using k ρ j
section
variable{ρ l:List Sl}{a:Sl}{i j:Int}{k m:Nat}{b b':Bool}{s:Str}{d:D}{ds es:List D}{e f:Ev}{x:Option Sl}{c:Call}
@[simp]theorem Ks:cz .int .non=false:=rfl
@[simp]theorem Qw:cz .int (.bl b)=true:=rfl
@[simp]theorem K4:cz .int (.int i)=true:=rfl
@[simp]theorem Oj:cz .int (.str s)=false:=rfl
@[simp]theorem K3:cz .int (.tup ds)=false:=rfl
@[simp]theorem Oa:cz .int (.lst ds)=false:=rfl
@[simp]theorem Jz:cz .bool .non=false:=rfl
@[simp]theorem Mu:cz .bool (.bl b)=true:=rfl
@[simp]theorem JN:cz .bool (.int i)=false:=rfl
@[simp]theorem JR:cz .bool (.str s)=false:=rfl
@[simp]theorem Jg:cz .bool (.tup ds)=false:=rfl
@[simp]theorem Jd:cz .bool (.lst ds)=false:=rfl
@[simp]theorem KZ:cz .str .non=false:=rfl
@[simp]theorem PN:cz .str (.bl b)=false:=rfl
@[simp]theorem Oi:cz .str (.int i)=false:=rfl
@[simp]theorem Kq:cz .str (.str s)=true:=rfl
@[simp]theorem LC:cz .str (.tup ds)=false:=rfl
@[simp]theorem Nu:cz .str (.lst ds)=false:=rfl
@[simp]theorem Fj:cz .tuple .non=false:=rfl
@[simp]theorem IV:cz .tuple (.bl b)=false:=rfl
@[simp]theorem Ig:cz .tuple (.int i)=false:=rfl
@[simp]theorem FN:cz .tuple (.str s)=false:=rfl
@[simp]theorem HY:cz .tuple (.tup ds)=true:=rfl
@[simp]theorem Ib:cz .tuple (.lst ds)=false:=rfl
@[simp]theorem JK:cz .list .non=false:=rfl
@[simp]theorem OD:cz .list (.bl b)=false:=rfl
@[simp]theorem Jt:cz .list (.int i)=false:=rfl
@[simp]theorem JX:cz .list (.str s)=false:=rfl
@[simp]theorem Js:cz .list (.tup ds)=false:=rfl
@[simp]theorem Jl:cz .list (.lst ds)=true:=rfl
@[simp]theorem Jv:cz .none .non=true:=rfl
@[simp]theorem Nr:cz .none (.bl b)=false:=rfl
@[simp]theorem Jk:cz .none (.int i)=false:=rfl
@[simp]theorem JW:cz .none (.str s)=false:=rfl
@[simp]theorem Jm:cz .none (.tup ds)=false:=rfl
@[simp]theorem Je:cz .none (.lst ds)=false:=rfl
@[simp]theorem QG:gf .non=true:=rfl
@[simp]theorem Sd:gf (.bl b)=false:=rfl
@[simp]theorem Py:gf (.int i)=false:=rfl
@[simp]theorem Qu:gf (.str s)=false:=rfl
@[simp]theorem QV:gf (.tup ds)=false:=rfl
@[simp]theorem QD:gf (.lst ds)=false:=rfl
@[simp]theorem T3:flat .non=true:=rfl
@[simp]theorem VL:flat (.bl b)=true:=rfl
@[simp]theorem uX:flat (.int i)=true:=rfl
@[simp]theorem Tj:flat (.str s)=true:=rfl
@[simp]theorem R7:flat (.tup ds)=false:=rfl
@[simp]theorem R3:flat (.lst ds)=false:=rfl
@[simp]theorem Y9:(R.val d).d=d:=rfl
@[simp]theorem Ze:(R.own ds).d=.lst ds:=rfl
@[simp]theorem Up:qY (.val d)=.val false d:=rfl
@[simp]theorem RQ:qY (.own ds)=.own false ds:=rfl
@[simp]theorem Qo:vg (.val d)=.dat d:=rfl
@[simp]theorem Rg:vg (.own ds)=.tmp ds:=rfl
@[simp]theorem Vx:jF (.int i)=some i:=rfl
@[simp]theorem Zz:Gr (.bl b)=some b:=rfl
@[simp]theorem An:items (.lst ds)=some ds:=rfl
@[simp]theorem zJ:items (.tup ds)=some ds:=rfl
@[simp]theorem Li:O1 (.tup ds)=some ds:=rfl
@[simp]theorem LK:vU (.lst ds)=some ds:=rfl
@[simp]theorem Wz:sW .add=lW:=rfl
@[simp]theorem VB:sW .sub=tE:=rfl
@[simp]theorem V0:sW .mul=nA:=rfl
@[simp]theorem Su:sW .fdiv=oW:=rfl
@[simp]theorem Wl:sW .mod=tQ:=rfl
@[simp]theorem WQ:sW .pow=ud:=rfl
@[simp]theorem Q6:lW (.int i) (.int j)=some (.val (.int (i+j))):=rfl
@[simp]theorem Qy:lW (.lst ds) (.lst es)=if ds.length+es.length<=lim then some (.own (ds++es))else none:=rfl
@[simp]theorem Q7:lW (.tup ds) (.tup es)=if ds.length+es.length<=lim then some (.val (.tup (ds++es)))else none:=rfl
@[simp]theorem QW:tE (.int i) (.int j)=some (.val (.int (i-j))):=rfl
@[simp]theorem Qg:nA (.int i) (.int j)=if((-18446744073709551616<i/\i<18446744073709551616)\/(-18446744073709551616<j/\j<18446744073709551616))then some (.val (.int (i*j)))else none:=rfl
@[simp]theorem MT:oW (.int i) (.int j)=if 0<j/\j<1606938044258990275541962092341162602522202993782792835301376 then some (.val (.int (i/j)))else none:=rfl
@[simp]theorem Q8:tQ (.int i) (.int j)=if 0<j then some (.val (.int (i%j)))else none:=rfl
@[simp]theorem Q0:ud (.int i) (.int j)=if 0<=j/\j<=1000/\i.natAbs<18446744073709551616 then some (.val (.int (i^j.toNat)))else none:=rfl
@[simp]theorem V6:Ab (.lst ds) (.int i)=(at' ds i).map .val:=rfl
@[simp]theorem We:Ab (.tup ds) (.int i)=(at' ds i).map .val:=rfl
@[simp]theorem RZ:Cg (.int i)=some (.val (.int (-i))):=rfl
@[simp]theorem Qi:cm .eq (.int i) (.int j)=some (i==j):=rfl
@[simp]theorem Qt:cm .ne (.int i) (.int j)=some (!(i==j)):=rfl
@[simp]theorem Uo:cm .eq (.bl b) (.bl b')=some (b==b'):=rfl
@[simp]theorem Uh:cm .ne (.bl b) (.bl b')=some (!(b==b')):=rfl
@[simp]theorem QK:cm .lt (.int i) (.int j)=some (decide (i<j)):=rfl
@[simp]theorem Qh:cm .le (.int i) (.int j)=some (decide (i<=j)):=rfl
@[simp]theorem Q9:cm .gt (.int i) (.int j)=some (decide (j<i)):=rfl
@[simp]theorem Rc:cm .ge (.int i) (.int j)=some (decide (j<=i)):=rfl
@[simp]theorem YG:cm .Rh d .non=some (gf d):=rfl
@[simp]theorem Wm:cm .sS d .non=some (!gf d):=rfl
@[simp]theorem IW:blt .len [.lst ds]=some (.val (.int ds.length)):=rfl
@[simp]theorem Jq:blt .len [.tup ds]=some (.val (.int ds.length)):=rfl
@[simp]theorem G5:blt .list [.lst ds]=some (.own ds):=rfl
@[simp]theorem Ew:blt .list [.tup ds]=some (.own ds):=rfl
@[simp]theorem En:blt .tuple [.lst ds]=some (.val (.tup ds)):=rfl
@[simp]theorem Ep:blt .tuple [.tup ds]=some (.val (.tup ds)):=rfl
@[simp]theorem Uz:blt .min2 [.int i,.int j]=some (.val (.int (if j<i then j else i))):=rfl
@[simp]theorem UT:blt .max2 [.int i,.int j]=some (.val (.int (if i<j then j else i))):=rfl
@[simp]theorem Q5:isVar (.var k)=some k:=rfl
@[simp]theorem VH:pk (a::l) k=match(a::l)[k]?with|some (.val _ d)=>some d|some (.own _ ds)=>some (.lst ds)|some (.lent ds)=>some (.lst ds)|_=>none:=rfl
@[simp]theorem Ut:Kg (a::l) k=match pk (a::l) k with|some (.lst ds)=>some ds|_=>none:=rfl
@[simp]theorem Ss:gw (some k) e ρ=lift (pk ρ k) ρ:=rfl
@[simp]theorem R5:gw none e ρ=(e ρ).bind λr ρ=>.ok r.d ρ:=rfl
@[simp]theorem Qv{y:Option Nat}:gR (some k) e y f ρ=(lift (pk ρ k) ρ).bind λ_ ρ=>(gw y f ρ).bind λy ρ=>(lift (pk ρ k) ρ).bind λx ρ=>.ok (x,y) ρ:=rfl
@[simp]theorem QS{y:Option Nat}:gR none e y f ρ=(gw none e ρ).bind λx ρ=>(gw y f ρ).bind λy ρ=>.ok (x,y) ρ:=rfl
@[simp]theorem QR{es:List D}:dh (.own b ds) (some (.own b' es))=.own b es:=rfl
@[simp]theorem QJ:dh (.own b ds) (some (.val b' d))=.val b d:=rfl
@[simp]theorem BL:dh a none=a:=by cases a<;>rfl
@[simp]theorem Ae:dh (.val b d) x=.val b d:=by cases x<;>rfl
@[simp]theorem Qk:dh .bG x=.bG:=by cases x<;>rfl
@[simp]theorem wY:dh (.lent ds) x=.lent ds:=by cases x<;>rfl
@[simp]theorem T8:di ρ [k] true d=put ρ k (.val false d):=rfl
@[simp]theorem Qs{is:List Nat}:di ρ is false (.tup ds)=putAll ρ is ds:=by cases is<;>rfl
@[simp]theorem My:srcOf none e ρ=(e ρ).bind λr ρ=>lift (items r.d) ρ:=rfl
@[simp]theorem O7:srcOf (some k) e (a::l)=match(a::l)[k]?with|some (.val _ d)=>lift (items d) (a::l)|some (.own _ ds)=>.ok ds ((a::l).set k (.lent ds))|some (.lent ds)=>.ok ds (a::l)|_=>.stuck:=rfl
@[simp]theorem JZ{g:List Sl}:bj g none ρ=ρ:=rfl
@[simp]theorem Ji:bj (a::l) (some k) ρ=match(a::l)[k]?with|some (.own b ds)=>ρ.set k (.own b ds)|_=>ρ:=rfl
@[simp]theorem S9{s:Sl}:put (a::l) k s=match(a::l)[k]?with|some t=>if fr t=true then some ((a::l).set k s)else none|none=>none:=Mg ..
@[simp]theorem Nf:putAll ρ [] []=some ρ:=rfl
@[simp]theorem Jw{is:List Nat}:putAll ρ (k::is) (d::ds)=(put ρ k (.val false d)).bind λρ=>putAll ρ is ds:=rfl
end
@[simp]theorem RJ{a:Type}{b:a}{l:List a}:at' (b::l) 0=some b:=by unfold at' jr;rw[if_pos (by decide),if_pos (by simp only[length_cons];omega)];rfl
@[simp]theorem Tf{a:Type}{e b:a}{l:List a}:at' (e::b::l) 1=some b:=by unfold at' jr;rw[if_pos (by decide),if_pos (by simp only[length_cons];omega)];rfl
@[simp]theorem RT{a:Type}{b e a2:a}{l:List a}:at' (b::e::a2::l) 2=some a2:=by unfold at' jr;rw[if_pos (by decide),if_pos (by simp only[length_cons];omega)];rfl
@[simp]theorem YW{a:Type}{b e a2 a3:a}{l:List a}:at' (b::e::a2::a3::l) 3=some a3:=by unfold at' jr;rw[if_pos (by decide),if_pos (by simp only[length_cons];omega)];rfl
@[simp]theorem Zo{a:Type}{e f a2 a3 b:a}{l:List a}:at' (e::f::a2::a3::b::l) 4=some b:=by unfold at' jr;rw[if_pos (by decide),if_pos (by simp only[length_cons];omega)];rfl
@[simp]theorem Yh{a:Type}{b e a2 a3 f a5:a}{l:List a}:at' (b::e::a2::a3::f::a5::l) 5=some a5:=by unfold at' jr;rw[if_pos (by decide),if_pos (by simp only[length_cons];omega)];rfl
@[simp]theorem at_6{a:Type}{e f a2 a3 g a5 b:a}{l:List a}:at' (e::f::a2::a3::g::a5::b::l) 6=some b:=by unfold at' jr;rw[if_pos (by decide),if_pos (by simp only[length_cons];omega)];rfl
@[simp]theorem at_7{a:Type}{e f a2 a3 g a5 h b:a}{l:List a}:at' (e::f::a2::a3::g::a5::h::b::l) 7=some b:=by unfold at' jr;rw[if_pos (by decide),if_pos (by simp only[length_cons];omega)];rfl
theorem eF{a:Type}{l:List a}{i:Int}(h:0<=i)(h':i<l.length):at' l i=l[i.toNat]?:=by unfold at' jr;rw[if_pos h,if_pos h'];rfl
theorem BW{a:Type}{l:List a}{k:Nat}(h':k<l.length):at' l (k:Int)=l[k]?:=by rw[eF (by omega) (by omega)];simp
@[simp]theorem Rb{d:D}:isVar (.con d)=none:=rfl
@[simp]theorem Kh{x:Str}{d:D}:isVar (.glob x d)=none:=rfl
@[simp]theorem PQ{o:Op}{p q:P}:isVar (.bin o p q)=none:=rfl
@[simp]theorem QL{p:P}:isVar (.neg p)=none:=rfl
@[simp]theorem QT{p:P}:isVar (.not p)=none:=rfl
@[simp]theorem QF{p q:P}:isVar (.and p q)=none:=rfl
@[simp]theorem Te{p q:P}:isVar (.or p q)=none:=rfl
@[simp]theorem QM{o:Cm}{p q:P}:isVar (.cmp o p q)=none:=rfl
@[simp]theorem Jh{o a:Cm}{p q r:P}:isVar (.chain o a p q r)=none:=rfl
@[simp]theorem PB{p q r:P}:isVar (.Vb p q r)=none:=rfl
@[simp]theorem QC{as:List P}:isVar (.tup as)=none:=rfl
@[simp]theorem Qc{as:List P}:isVar (.lst as)=none:=rfl
@[simp]theorem Ql{p q:P}:isVar (.idx p q)=none:=rfl
@[simp]theorem Jo{p q r:P}:isVar (.slice p q r)=none:=rfl
@[simp]theorem O6{f:Nat}{as:List P}:isVar (.call f as)=none:=rfl
@[simp]theorem Q4{b:Wc}{as:List P}:isVar (.blt b as)=none:=rfl
@[simp]theorem QQ{x:Nat}:isVar (.pop x)=none:=rfl
@[simp]theorem KJ{p e:P}{n:Nat}{is:List Nat}{one:Bool}{t:Option P}:isVar (.comp p n is one t e)=none:=rfl
@[simp]theorem Qj{p q:P}:isVar (.xu p q)=none:=rfl
@[simp]theorem Qn{p:P}:isVar (.Vc p)=none:=rfl
@[simp]theorem PL{p q:P}:isVar (.zip p q)=none:=rfl
noncomputable def oZ(c:Call)(is:List Nat)(one:Bool)(a:Option P)(b:P)(ds:List D)(ρ:List Sl):Res (List D):=turns is one (wZ c a) (ev c b) ds [] ρ
@[simp]theorem WM{c:Call}{src f:P}{n:Nat}{is:List Nat}{one:Bool}{b:Option P}{ρ:List Sl}:ev c (.comp src n is one b f) ρ=(srcOf (isVar src) (ev c src) ρ).bind λds a=>if ds.length<=lim then(oZ c is one b f ds (a++replicate n .bG)).bind λxs e=>.ok (.own xs) (bj ρ (isVar src) (e.take a.length))else .stuck:=(rfl)
noncomputable def zM(c:Call)(n:Nat)(t:P)(body:List S)(k:Nat)(ρ:List Sl):Res Fl:=lC (dY (ev c t)) (bO c n body) k ρ
@[simp]theorem Xy{c:Call}{n:Nat}{t:P}{body:List S}{ρ:List Sl}:ex c n (.whl t body) ρ=zM c n t body n ρ:=(rfl)
theorem qL{b e h:Type}{x:Res e}{f:e->List Sl->Res b}{g:b->List Sl->Res h}:(x.bind f).bind g=x.bind λa ρ=>(f a ρ).bind g:=by cases x<;>rfl
@[simp]theorem Xk{Γ:Tab}{w n i:Nat}{args:List Sl}{b:Type}{f:R->List Sl->Res b}{Q:b->List Sl->Prop}:((run Γ w n i args).bind f).sat Q=(run Γ w n i args).sat λa ρ=>(f a ρ).sat Q:=bU
@[simp]theorem Yc{Γ:Tab}{w n i:Nat}{args:List Sl}{b e:Type}{f:R->List Sl->Res b}{g:b->List Sl->Res e}:((run Γ w n i args).bind f).bind g=(run Γ w n i args).bind λa ρ=>(f a ρ).bind g:=qL
@[simp]theorem Wa{c:Call}{is:List Nat}{one:Bool}{b:Option P}{e:P}{ds:List D}{ρ:List Sl}{g:Type}{f:List D->List Sl->Res g}{Q:g->List Sl->Prop}:((oZ c is one b e ds ρ).bind f).sat Q=(oZ c is one b e ds ρ).sat λa ρ=>(f a ρ).sat Q:=bU
@[simp]theorem V5{c:Call}{is:List Nat}{one:Bool}{b:Option P}{e:P}{ds:List D}{ρ:List Sl}{h i:Type}{f:List D->List Sl->Res h}{g:h->List Sl->Res i}:((oZ c is one b e ds ρ).bind f).bind g=(oZ c is one b e ds ρ).bind λa ρ=>(f a ρ).bind g:=qL
@[simp]theorem ZX{is:List Nat}{one:Bool}{b:List Sl->Res Fl}{ds:List D}{ρ:List Sl}{e:Type}{f:Fl->List Sl->Res e}{Q:e->List Sl->Prop}:((gM is one b ds ρ).bind f).sat Q=(gM is one b ds ρ).sat λa ρ=>(f a ρ).sat Q:=bU
@[simp]theorem Wi{b e:Type}{p:Prop}[Decidable p]{a:e}{ρ:List Sl}{f:e->List Sl->Res b}{Q:b->List Sl->Prop}:((lift (if p then some a else none) ρ).bind f).sat Q=(p/\(f a ρ).sat Q):=by by_cases h:p<;>simp[h,lift,Res.bind]
@[simp]theorem Wn{b e h:Type}{p:Prop}[Decidable p]{a:e}{ρ:List Sl}{f:e->List Sl->Res b}{g:b->List Sl->Res h}:((lift (if p then some a else none) ρ).bind f).bind g=(lift (if p then some a else none) ρ).bind λa ρ=>(f a ρ).bind g:=qL
@[simp]theorem bb_ite{b a:Type}{p:Prop}[Decidable p]{x y:Res a}{f:a->List Sl->Res b}:(if p then x else y).bind f=if p then x.bind f else y.bind f:=by by_cases h:p<;>simp[h]
@[simp]theorem Z0{c:Call}{n k:Nat}{t:P}{b:List S}{ρ:List Sl}{e:Type}{f:Fl->List Sl->Res e}{Q:e->List Sl->Prop}:((zM c n t b k ρ).bind f).sat Q=(zM c n t b k ρ).sat λa ρ=>(f a ρ).sat Q:=bU
@[simp]theorem ZL{b e:Type}{a:b}{ρ:List Sl}{f:b->List Sl->Res e}:(Res.ok a ρ).bind f=f a ρ:=rfl
@[simp]theorem Rf{a b:Type}{f:a->List Sl->Res b}:(Res.stuck:Res a).bind f=.stuck:=rfl
@[simp]theorem RX{b:Type}{a:b}{ρ:List Sl}:lift (some a) ρ=.ok a ρ:=rfl
@[simp]theorem Ui{a:Type}{ρ:List Sl}:lift (none:Option a) ρ=.stuck:=rfl
noncomputable def Aj:List Sl->Nat->Sl->List Sl|[],_,_=>[]|t::ρ,0,s=>dh t (some s)::ρ|t::ρ,k+1,s=>t::Aj ρ k s
noncomputable def bk:List Arg->List Sl->List Sl->List Sl|.dM k::as,s::ss,ρ=>bk as ss (Aj ρ k s)|.dat _::as,_::ss,ρ=>bk as ss ρ|.tmp _::as,_::ss,ρ=>bk as ss ρ|_,_,ρ=>ρ
section
variable{t s:Sl}{ρ ss:List Sl}{k:Nat}{as:List Arg}{d:D}{ds:List D}
@[simp]theorem aa9:Aj (t::ρ) 0 s=dh t (some s)::ρ:=rfl
@[simp]theorem abg:Aj (t::ρ) (k+1) s=t::Aj ρ k s:=rfl
@[simp]theorem M9:bk (.dM k::as) (s::ss) ρ=bk as ss (Aj ρ k s):=rfl
@[simp]theorem Mx:bk (.dat d::as) (s::ss) ρ=bk as ss ρ:=rfl
@[simp]theorem Kd:bk (.tmp ds::as) (s::ss) ρ=bk as ss ρ:=rfl
@[simp]theorem XC:bk [] ss ρ=ρ:=rfl
end
theorem v8{s:Sl}:∀{ρ:List Sl}{k j:Nat},(Aj ρ k s)[j]?=(ρ[j]?).map λt=>if j=k then dh t (some s)else t|[],_,_=>by simp[Aj]|t::ρ,0,0=>by simp[Aj]|t::ρ,0,j+1=>by simp[Aj]|t::ρ,k+1,0=>by simp[Aj]|t::ρ,k+1,j+1=>by have:=v8 (s:=s) (ρ:=ρ) (k:=k) (j:=j);simp only[Aj,List.getElem?_cons_succ,this];congr 1;funext t;simp
theorem vm{as:List Arg}{ss:List Sl}:∀{ρ:List Sl}{i j:Nat},(bR as ss i ρ)[j]?=(ρ[j]?).map λt=>dh t (aL (i+j) as ss)|[],_,_=>by simp[bR]|t::ρ,i,0=>by simp[bR]|t::ρ,i,j+1=>by have:=vm (as:=as) (ss:=ss) (ρ:=ρ) (i:=i+1) (j:=j);simp only[bR,List.getElem?_cons_succ,this];rw[show i+1+j=i+(j+1)by omega]
def stb(t:Sl):Prop:=∀x,dh t x=t
def Nt(ρ:List Sl):List Arg->Prop|[]=>True|.dM k::as=>(Arg.dM k∈as->∀t,ρ[k]?=some t->stb t)/\Nt ρ as|_::as=>Nt ρ as
theorem nq{ρ:List Sl}:∀{as:List Arg}{a:List Sl},Nt ρ as->(∀k,Arg.dM k∈as->∀t,a[k]?=some t->ρ[k]?=some t\/stb t)->Nt a as
 |[],_,_,_=>trivial|.dM k::as,a,h,g=>⟨λf t i=>by
  rcases g k (by simp) t i with e|e;.exact h.1 f t e
  .exact e,nq h.2 λj b=>g j (by simp[b])⟩|.dat _::as,a,h,g=>nq (as:=as) h λj b=>g j (by simp[b])|.tmp _::as,a,h,g=>nq (as:=as) h λj b=>g j (by simp[b])
theorem j6{k:Nat}:∀{as:List Arg}{ss:List Sl},Arg.dM k∉as->aL k as ss=none|[],_,_=>by unfold aL;rfl|.dM j::as,[],_=>rfl|.dat _::as,[],_=>rfl|.tmp _::as,[],_=>rfl|.dM j::as,s::ss,h=>by simp only[mem_cons,Arg.dM.injEq,not_or]at h;rw[aL,if_neg (λe=>h.1 e.symm),j6 h.2]|.dat _::as,s::ss,h=>by simp only[mem_cons,not_or]at h;rw[aL,j6 h.2]|.tmp _::as,s::ss,h=>by simp only[mem_cons,not_or]at h;rw[aL,j6 h.2]
theorem yN:∀{as:List Arg}{ss ρ:List Sl},Nt ρ as->∀j,(bk as ss ρ)[j]?=(ρ[j]?).map λt=>dh t (aL j as ss)
 |[],ss,ρ,_,j=>by cases ss<;>simp[aL]|.dM k::as,[],ρ,_,j=>by rw[show bk (.dM k::as) [] ρ=ρ from rfl];simp[aL]|.dat d::as,[],ρ,_,j=>by rw[show bk (.dat d::as) [] ρ=ρ from rfl];simp[aL]|.tmp d::as,[],ρ,_,j=>by rw[show bk (.tmp d::as) [] ρ=ρ from rfl];simp[aL]|.dat _::as,s::ss,ρ,h,j=>by rw[Mx,aL];exact yN (as:=as) h j|.tmp _::as,s::ss,ρ,h,j=>by rw[Kd,aL];exact yN (as:=as) h j|.dM k::as,s::ss,ρ,h,j=>by
   have f:Nt (Aj ρ k s) as:=nq h.2 λi g t a=>by rw[v8]at a;cases e:ρ[i]?with|none=>rw[e]at a;cases a|some t0=>
      rw[e]at a;by_cases c:i=k;.subst c;have hs:=h.1 g t0 e;simp[hs (some s)]at a;exact .inl (by rw[a])
      .simp[c]at a;exact .inl (by rw[a])
   rw[M9,yN f j,v8,aL];cases e:ρ[j]?with|none=>rfl|some t0=>
     simp only[Option.map_some];by_cases c:j=k
     . subst c;rw[if_pos rfl,if_pos rfl];by_cases b:Arg.dM j∈as;.have hs:=h.1 b t0 e;rw[hs (some s),hs]
       .rw[j6 b,BL]
     .rw[if_neg c,if_neg (λz=>c z.symm)]
theorem dU{ρ:List Sl}{k:Nat}{b:Bool}{ds:List D}(e:ρ[k]?=some (.own b ds)):∀{as:List Arg}{u:List Nat}{r:List Sl},k∈u->bu ρ as u=some r->Arg.dM k∉as
 |[],_,_,_,_=>by simp|.dat _::as,u,r,a,h=>by simp only[bu,map_eq_some_iff]at h;obtain⟨r',h,_⟩:=h;simp[dU e a h]|.tmp _::as,u,r,a,h=>by simp only[bu,map_eq_some_iff]at h;obtain⟨r',h,_⟩:=h;simp[dU e a h]|.dM i::as,u,r,a,h=>by
   rw[bu]at h;have f:i≠k:=by rintro rfl;rw[e]at h;simp[a]at h
   have:Arg.dM k∉as:=by
    split at h;.obtain⟨r',h,_⟩:=map_eq_some_iff.mp h;exact dU e a h
    . split at h;.cases h
      .obtain⟨r',h,_⟩:=map_eq_some_iff.mp h;exact dU e (by simp[a]) h
    . split at h;.cases h
      .obtain⟨r',h,_⟩:=map_eq_some_iff.mp h;exact dU e (by simp[a]) h
    .cases h
   simp[this];exact λz=>f z.symm
theorem dW{ρ:List Sl}:∀{as:List Arg}{u:List Nat}{r:List Sl},bu ρ as u=some r->Nt ρ as
 |[],_,_,_=>trivial|.dat _::as,u,r,h=>by obtain⟨r',h,_⟩:=map_eq_some_iff.mp h;exact dW (as:=as) h|.tmp _::as,u,r,h=>by obtain⟨r',h,_⟩:=map_eq_some_iff.mp h;exact dW (as:=as) h|.dM i::as,u,r,h=>by
   rw[bu]at h;split at h;.rename_i b d q;obtain⟨r',h,_⟩:=map_eq_some_iff.mp h;exact⟨λ_ t a=>by rw[q]at a;cases a;exact λx=>Ae,dW h⟩
   . rename_i b ds q;split at h;.cases h
     .obtain⟨r',h,_⟩:=map_eq_some_iff.mp h;exact⟨λe=>absurd e (dU q (by simp) h),dW h⟩
   . rename_i ds q;split at h;.cases h
     .obtain⟨r',h,_⟩:=map_eq_some_iff.mp h;exact⟨λ_ t a=>by rw[q]at a;cases a;exact λx=>wY,dW h⟩
   .cases h
theorem Sq{as:List Arg}{ss r:List Sl}{u:List Nat}(h:bu ρ as u=some r):bR as ss 0 ρ=bk as ss ρ:=by apply List.ext_getElem?;intro j;rw[vm,yN (dW h),zero_add]
@[simp]theorem QZ{c:Call}{k:Nat}{as:List Arg}{ρ:List Sl}:iB c k as ρ=match bu ρ as []with|none=>.stuck|some args=>(c k args).bind λr a=>.ok r (bk as a ρ):=by unfold iB;cases e:bu ρ as []with|none=>rfl|some args=>simp only[<-Sq (r:=args) e];cases c k args<;>rfl
theorem je{one:Bool}{a:P}(J:List Sl->Prop)(g:D->D){Q:List D->List Sl->Prop}{ds:List D}(j:J ρ)(h:∀d,d∈ds->∀ρ,J ρ->∃b,di ρ is one d=some b/\(ev c a b).sat λr e=>g d=r.d/\J e)(k:∀ρ,J ρ->Q (ds.map g) ρ):(oZ c is one none a ds ρ).sat Q:=vP J g j h k
theorem lK{one:Bool}{i t:P}(J:List Sl->Prop)(g:D->Option D){Q:List D->List Sl->Prop}{ds:List D}(j:J ρ)(h:∀d,d∈ds->∀ρ,J ρ->∃a,di ρ is one d=some a/\(ev c t a).sat λr f=>∃b,r.d=.bl b/\if b=true then(ev c i f).sat λr l=>g d=some r.d/\J l else g d=none/\J f)(k:∀ρ,J ρ->Q (ds.filterMap g) ρ):(oZ c is one (some t) i ds ρ).sat Q:=jf J g j (λd hd ρ j=>by obtain⟨a,e,h1⟩:=h d hd ρ j;refine⟨a,e,?_⟩;rw[wZ,dY,bU];refine h1.imp λr f⟨b,e,q⟩=>?_;rw[e];exact q) λρ j=>by simpa using k ρ j
theorem iH{c:Call}{n:Nat}{t:P}{body:List S}(J:Nat->List Sl->Prop){Q:Fl->List Sl->Prop}(h:∀m ρ,J m ρ->(ev c t ρ).sat λr a=>∃b,r.d=.bl b/\if b=true then(bO c n body a).sat (fQ (λf=>∃g,g<m/\J g f) Q)else Q .next a):∀{k m:Nat}{ρ:List Sl},m<k->J m ρ->(zM c n t body k ρ).sat Q|0,m,ρ,i,_=>absurd i (Nat.not_lt_zero _)|k+1,m,ρ,i,j=>by unfold zM;rw[lC,bU,dY,bU];refine(h m ρ j).imp λr a⟨b,e,q⟩=>?_;rw[e];show(if b=true then _ else _:Res Fl).sat Q;cases b with|false=>rw[if_neg (by simp)]at q;rw[if_neg (by simp)];exact q|true=>rw[if_pos rfl]at q;rw[if_pos rfl,bU];refine q.imp λp f q=>?_;cases p with|next=>obtain⟨g,l,o⟩:=q;exact iH J h (lt_of_lt_of_le l (Nat.lt_succ_iff.mp i)) o|cont=>obtain⟨g,l,o⟩:=q;exact iH J h (lt_of_lt_of_le l (Nat.lt_succ_iff.mp i)) o|brk=>exact q|ret v=>exact q
@[simp]theorem aba:type_of%@HH.E1:=@HH.E1
@[simp]theorem aa7:type_of%@HH.E2:=@HH.E2
@[simp]theorem aa0:type_of%@HH.E3:=@HH.E3
@[simp]theorem abb:type_of%@HH.E4:=@HH.E4
@[simp]theorem aaP:type_of%@HH.E5:=@HH.E5
@[simp]theorem aaV:type_of%@HH.E6:=@HH.E6
@[simp]theorem aaY:type_of%@HH.E7:=@HH.E7
@[simp]theorem abf:type_of%@HH.E8:=@HH.E8
@[simp]theorem abl:type_of%@HH.E9:=@HH.E9
@[simp]theorem YQ:type_of%@HH.E10:=@HH.E10
@[simp]theorem Yo:type_of%@HH.E11:=@HH.E11
@[simp]theorem Zc:type_of%@HH.E12:=@HH.E12
@[simp]theorem Yu:type_of%@HH.E13:=@HH.E13
@[simp]theorem Yy:type_of%@HH.E14:=@HH.E14
@[simp]theorem XD:type_of%@HH.E15:=@HH.E15
@[simp]theorem ZZ:type_of%@HH.E16:=@HH.E16
@[simp]theorem Z6:type_of%@HH.E17:=@HH.E17
@[simp]theorem Y7:type_of%@HH.E18:=@HH.E18
@[simp]theorem Wo:type_of%@HH.Ul:=@HH.Ul
@[simp]theorem Y0:type_of%@HH.E20:=@HH.E20
@[simp]theorem Xr:type_of%@HH.E21:=@HH.E21
@[simp]theorem ZG:type_of%@HH.E22:=@HH.E22
@[simp]theorem YT:type_of%@HH.E23:=@HH.E23
@[simp]theorem aaU:type_of%@HH.X1:=@HH.X1
@[simp]theorem abp:type_of%@HH.X2:=@HH.X2
@[simp]theorem abd:type_of%@HH.X3:=@HH.X3
@[simp]theorem abe:type_of%@HH.X4:=@HH.X4
@[simp]theorem aaR:type_of%@HH.X5:=@HH.X5
@[simp]theorem aaM:type_of%@HH.X6:=@HH.X6
@[simp]theorem aaX:type_of%@HH.X7:=@HH.X7
@[simp]theorem aa1:type_of%@HH.X8:=@HH.X8
@[simp]theorem aaf:type_of%@HH.X9:=@HH.X9
@[simp]theorem Zb:type_of%@HH.V8:=@HH.V8
@[simp]theorem Y4:type_of%@HH.X11:=@HH.X11
@[simp]theorem Zr:type_of%@HH.Yp:=@HH.Yp
@[simp]theorem Zu:type_of%@HH.XF:=@HH.XF
@[simp]theorem Yg:type_of%@HH.dY.eq_1:=@HH.dY.eq_1
@[simp]theorem Zm:type_of%@HH.evs.eq_1:=@HH.evs.eq_1
@[simp]theorem YF:type_of%@HH.evs.eq_2:=@HH.evs.eq_2
@[simp]theorem Zg:type_of%@HH.qT.eq_1:=@HH.qT.eq_1
@[simp]theorem Yw:type_of%@HH.qT.eq_2:=@HH.qT.eq_2
@[simp]theorem Z5:type_of%@HH.wZ.eq_1:=@HH.wZ.eq_1
@[simp]theorem Yz:type_of%@HH.wZ.eq_2:=@HH.wZ.eq_2
@[simp]theorem Y8:type_of%@HH.lF.eq_1:=@HH.lF.eq_1
@[simp]theorem T5:type_of%@HH.bu.eq_1:=@HH.bu.eq_1
@[simp]theorem TX:type_of%@HH.bu.eq_2:=@HH.bu.eq_2
@[simp]theorem Tz:type_of%@HH.bu.eq_3:=@HH.bu.eq_3
@[simp]theorem TJ:type_of%@HH.bu.eq_4:=@HH.bu.eq_4
@[simp]theorem T9:type_of%@HH.bR.eq_1:=@HH.bR.eq_1
@[simp]theorem Td:type_of%@HH.bR.eq_2:=@HH.bR.eq_2
@[simp]theorem Tp:type_of%@HH.aL.eq_1:=@HH.aL.eq_1
@[simp]theorem Ru:type_of%@HH.aL.eq_2:=@HH.aL.eq_2
@[simp]theorem Um:type_of%@HH.aL.eq_3:=@HH.aL.eq_3
@[simp]theorem Ux:type_of%@HH.aL.eq_4:=@HH.aL.eq_4
end HH
end
section
namespace HH
open PySem L2 PySem.Spec PyProof.Rows
variable{H:Hp}
section
variable{X:Cx}{c:Call}{a b:Expr}{pa pb:P}{pos:Pos}
theorem jQ:∀{ds:List D}{ns:List Int},ds.mapM jF=some ns->ds=ns.map D.int|[],ns,h=>by simp at h;subst h;rfl|d::ds,ns,h=>by simp[List.mapM_cons,Option.bind_eq_some_iff]at h;obtain⟨i,e,g,f,rfl⟩:=h;rw[fV e,jQ f];rfl
theorem dB{K:PySem.W.Frag}{F:Hp}:∀{ns:List Int}{ys:List V},aD K F ys (ns.map D.int)->ys=ns.map V.int|[],ys,h=>by rw[h.fX];rfl|n::ns,ys,h=>by obtain⟨v,r,rfl,h1,t⟩:=h.cB;rw[Rep]at h1;rw[h1,dB t];rfl
theorem jO{ns:List Int}{f:List Value}(h:Vals (ns.map V.int) f){i:Nat}{v:Value}(e:f.toArray[i]?=some v):∃t,v=.int (ns.getD i 0) t:=by
 have e:f[i]?=some v:=by simpa using e
 have m:i<f.length:=(gW e).1;have k:=h.length;rw[length_map]at k;have g:(ns.map V.int)[i]?=some (.int (ns.getD i 0)):=by rw[getElem?_map,getElem?_eq_getElem (by omega)];simp[List.getD,show i<ns.length by omega]
 obtain⟨w,j,l⟩:=h.get g;rw[e]at j;cases j;exact l
theorem walked{h:List (Addr×Obj)}{r:L2.St}{s:Shared}{p:Addr}{ys:List V}(I:L2.Inv X h r H s)(hc:X.calm=true)(hq:dJ X.K H p ys\/gA X.K H p ys){Q:Value->Shared->Prop}{E:Value->Shared->Prop}(k:∀(it:Addr)(g:List Value)(e:Shared)(St:Nat->Heap->Prop),Vals ys g->Walks X.prog X.w X.A.in1 it [it,p] [it] g.toArray.size (λi v=>g.toArray[i]?=some v) St->St 0 e.heap->(∀ b ∈[it,p],b<e.heap.objs.size)->(∀h' m,(∀b o,b∉[it]->e.heap.get? b=some o->h'.get? b=some o)->L2.Inv X h r H {e with heap:=h',toks:=m})->Q (.ref it) e):wpAny (model X.prog X.w) X.A.in1 (pyIter (.ref p)) Q E s:=by
 have hh:X.A.in1.handled=none:=I.ok.hd hc;rcases hq with hq|hq
 . obtain⟨g,n,f,hz⟩:=I.list hq;have f:=f.isList;have j:p<s.heap.objs.size:=by obtain⟨o,h1,_⟩:=f;exact lt_size h1
   refine wpAny_pyIter_list f (k s.heap.objs.size g _ _ n (Walks.list hh s.heap.objs.size p (ne_of_lt j) g.toArray) ⟨⟨_,get?_push_size _ rfl,rfl,rfl⟩,?_⟩ ?_ λh' m kp=>?_);.obtain⟨o,h1,q⟩:=f;exact⟨o,gG h1,q⟩
   . intro b l;obtain⟨o,h1,_⟩:=f;simp at l;rcases l with rfl|rfl;.exact lt_size (get?_push_size _ rfl)
     .exact lt_size (gG h1)
   .exact I.kept (λb o z=>kp b o (by simp;exact ne_of_lt (lt_size z)) (gG z))
 . obtain⟨g,n,f,hz⟩:=I.tuple hq;have j:p<s.heap.objs.size:=by obtain⟨o,h1,_⟩:=f;exact lt_size h1
   refine wpAny_pyIter_tuple f (k s.heap.objs.size g _ _ n (Walks.tuple hh s.heap.objs.size p (ne_of_lt j) g.toArray) ⟨⟨_,get?_push_size _ rfl,rfl,rfl⟩,?_⟩ ?_ λh' m kp=>?_);.obtain⟨o,h1,q⟩:=f;exact⟨o,gG h1,q⟩
   . intro b l;obtain⟨o,h1,_⟩:=f;simp at l;rcases l with rfl|rfl;.exact lt_size (get?_push_size _ rfl)
     .exact lt_size (gG h1)
   .exact I.kept (λb o z=>kp b o (by simp;exact ne_of_lt (lt_size z)) (gG z))
theorem lX(ns:List Int):∀k,k<=ns.length->preSum (λi=>ns.getD i 0) k=(ns.take k).sum|0,_=>by simp[preSum]|k+1,h=>by rw[preSum,lX ns k (by omega),List.take_succ,List.sum_append];simp[List.getD,show k<ns.length by omega]
theorem T6(hc:X.calm=true):fP X (.builtin "sum") (NP X.K λx=>blt .sum [x]):=by
 rintro g s L H xs h Q I r⟨x,o,F,d,r',j,q,he,k⟩;obtain⟨ns,t,he⟩:=map_some (show((items d).bind λds=>ds.mapM jF).map _=some r' from he);subst he;obtain⟨ds,w,y⟩:=dC t;obtain⟨p,ys,rfl,z,l⟩:=q.items j w;rw[jQ y]at l;have B:=dB l;subst o;obtain⟨u,rfl,C⟩:=r.one;cases C;refine call_sum_walkG (walked I hc z λit h m St n W h0 G kp=>?_);subst B;have f:h.toArray.size=ns.length:=by rw[size_toArray,<-n.length,length_map]
 refine⟨it,_,_,_,_,St,λi=>ns.getD i 0,rfl,W,h0,G,λi v e=>jO n e,λh' J t' kk=>?_⟩;rw[f,lX ns _ (cD),List.take_length];exact⟨.int _,H,kp h' J kk,⟨t',rfl⟩,bQ.cV j (cA _) k⟩
theorem tY{ns:List Int}{m:Int}(k:ns.min?=some m):ns.getD (argBest (λi j=>decide (ns.getD i 0<ns.getD j 0)) (ns.length-1)) 0=m:=by
 have h:ns≠[]:=by rintro rfl;simp at k
 have r:0<ns.length:=List.length_pos_iff.mpr h;obtain⟨h1,n⟩:=argBest_lt (λi=>ns.getD i 0) (ns.length-1);have l:=List.min?_eq_some_iff.mp k;generalize argBest (λi j=>decide (ns.getD i 0<ns.getD j 0)) (ns.length-1)=j at*;have o:j<ns.length:=by omega
 have f:ns.getD j 0∈ns:=by simp[List.getD,o]
 obtain⟨q,p,e⟩:=List.getElem_of_mem l.1;have g:=n q (by omega);simp only[List.getD,getElem?_eq_getElem p,Option.getD_some]at g;rw[e]at g;have s:=l.2 _ f;have g:ns.getD j 0<=m:=g;omega
theorem KY(hc:X.calm=true):fP X (.builtin "min") (NP X.K λx=>blt .DX [x]):=by
 rintro j s Y H xs l Q I r⟨x,z,F,d,r',n,B,he,k⟩;obtain⟨ns,C,he⟩:=dC (show((items d).bind λds=>ds.mapM jF).bind _=some r' from he);obtain⟨m,o,he⟩:=map_some he;subst he;obtain⟨ds,G,J⟩:=dC C;obtain⟨p,ys,rfl,L,q⟩:=B.items n G;rw[jQ J]at q;have M:=dB q;subst z;obtain⟨u,rfl,N⟩:=r.one;cases N;refine call_min_walk (walked I hc L λit l w St h W h0 O kp=>?_);subst M;have f:l.toArray.size=ns.length:=by rw[size_toArray,<-h.length,length_map]
 have g:0<ns.length:=by cases ns with|nil=>simp at o|cons _ _=>simp
 refine⟨it,_,_,_,_,St,_,rfl,W,h0,O,by rw[f];exact g,CmpOf.ints_lt (λi=>ns.getD i 0) (λi v e=>jO h e),λv h' U y kk=>?_⟩;rw[f]at y;obtain⟨t,rfl⟩:=jO h y;rw[tY o];exact⟨.int _,H,kp h' U kk,⟨t,rfl⟩,bQ.cV n (cA _) k⟩
theorem boot_sum:bootBuiltins "sum"=some (.builtin "sum"):=by decide+kernel
theorem O2{x:Str}{p':Pos}(e:x="sum")(hc:X.calm=true)(f:Gl X x)(g:X.mg x=none)(i:SX X c a pa)(hs:starEach [a] X.env=(false,eval a X.env)::starEach [] X.env:=by rfl):SX X c (.Call (.Name x p') [a] [] pos) (.blt .sum [pa]):=by subst e;exact pX (λh=>fW (T6 hc) f g boot_sum h (he:=hs)) i (λρ=>rfl) rfl hs
theorem Hm{x:Str}{p':Pos}(e:x="min")(hc:X.calm=true)(f:Gl X x)(g:X.mg x=none)(i:SX X c a pa)(hs:starEach [a] X.env=(false,eval a X.env)::starEach [] X.env:=by rfl):SX X c (.Call (.Name x p') [a] [] pos) (.blt .DX [pa]):=by subst e;exact pX (λh=>fW (KY hc) f g boot_min h (he:=hs)) i (λρ=>rfl) rfl hs
theorem wu{K:PySem.W.Frag}{F H:Hp}{v:V}{d:D}(h:cU K F H v d)(f:flat d=true):jq v=true:=by cases d with|non=>rw[h.non];rfl|bl _=>rw[h.bl];rfl|int _=>rw[h.int];rfl|str _=>rw[h.str];rfl|tup _=>cases f|lst _=>cases f|dm _=>cases f|dv _ _=>cases f
theorem Zn{K:PySem.W.Frag}{F H:Hp}{v u:V}{d e:D}(h:cU K F H v d)(h':cU K F H u e)(f:flat d=true)(g:flat e=true):HQ v u=gq d e:=by cases d with
 |tup _=>cases f|lst _=>cases f|dm _=>cases f|dv _ _=>cases f|non=>rw[h.non];cases e with|tup _=>cases g|lst _=>cases g|dm _=>cases g|dv _ _=>cases g|non=>rw[h'.non];rfl|bl _=>rw[h'.bl];rfl|int _=>rw[h'.int];rfl|str _=>rw[h'.str];rfl
 |bl _=>rw[h.bl];cases e with|tup _=>cases g|lst _=>cases g|dm _=>cases g|dv _ _=>cases g|non=>rw[h'.non];rfl|bl _=>rw[h'.bl];rfl|int _=>rw[h'.int];rfl|str _=>rw[h'.str];rfl
 |int _=>rw[h.int];cases e with|tup _=>cases g|lst _=>cases g|dm _=>cases g|dv _ _=>cases g|non=>rw[h'.non];rfl|bl _=>rw[h'.bl];rfl|int _=>rw[h'.int];rfl|str _=>rw[h'.str];rfl
 |str _=>rw[h.str];cases e with|tup _=>cases g|lst _=>cases g|dm _=>cases g|dv _ _=>cases g|non=>rw[h'.non];rfl|bl _=>rw[h'.bl];rfl|int _=>rw[h'.int];rfl|str _=>rw[h'.str];rfl
theorem KQ{K:PySem.W.Frag}{F H:Hp}{v:V}{d:D}(h:cU K F H v d)(f:flat d=true):∀{ds:List D}{vs:List V},aD K F vs ds->ds.all flat=true->vs.all jq=true/\inV v vs=ds.any λy=>gq y d|[],vs,r,_=>by rw[r.fX];exact⟨rfl,rfl⟩|e::ds,vs,r,g=>by obtain⟨w,ws,rfl,h1,t⟩:=r.cB;rw[all_cons,and_eq_true]at g;obtain⟨i1,i2⟩:=KQ h f t g.2;have q:cU K F H w e:=.inl h1;refine⟨by rw[all_cons,wu q g.1,i1];rfl,?_⟩;unfold inV at i2 ⊢;rw[any_cons,any_cons,i2,Zn q h g.1 f]
theorem HN:dH X (compareOp .In) (rD X.K (lF .inn)):=by rintro f s j H x y v u Q I l m⟨F,d,e,r,h,i,n,he,k⟩;obtain⟨t,o,q⟩:=map_some (show(uw false d e).map _=some r from he);subst q;obtain⟨ds,w,z⟩:=dC o;obtain⟨g,B⟩:=bA z;rw[and_eq_true]at g;obtain⟨p,xs,rfl,C,G⟩:=n.items h w;obtain⟨i1,i2⟩:=KQ i g.1 G g.2;subst B;refine zp f s j H x _ v u Q I l m ⟨p,xs,rfl,C,wu i g.1,i1,?_⟩;rw[i2];exact bQ.cV h (iy _) k
theorem zU:dH X (compareOp .NotIn) (rD X.K (lF .yW)):=by rintro f s j H x y v u Q I l m⟨F,d,e,r,h,i,n,he,k⟩;obtain⟨t,o,q⟩:=map_some (show(uw true d e).map _=some r from he);subst q;obtain⟨ds,w,z⟩:=dC o;obtain⟨g,B⟩:=bA z;rw[and_eq_true]at g;obtain⟨p,xs,rfl,C,G⟩:=n.items h w;obtain⟨i1,i2⟩:=KQ i g.1 G g.2;subst B;refine sI f s j H x _ v u Q I l m ⟨p,xs,rfl,C,wu i g.1,i1,?_⟩;rw[i2];exact bQ.cV h (iy _) k
end
end HH
end
section
namespace HH
open PySem
section
variable{i j:Int}{ds es:List D}{d:D}{b b':Bool}
@[simp]theorem VV:sW .shl=Dl:=rfl
@[simp]theorem Vw:sW .shr=Bh:=rfl
@[simp]theorem Ry:sW .band=wR:=rfl
@[simp]theorem Qz:Dl (.int i) (.int j)=if 0<=j/\j<=1000/\i.natAbs<18446744073709551616 then some (.val (.int (i*2^j.toNat)))else none:=rfl
@[simp]theorem Qp:Bh (.int i) (.int j)=if 0<=j then some (.val (.int (i/2^j.toNat)))else none:=rfl
@[simp]theorem Mt:wR (.int i) (.int j)=some (.val (.int (Builtin.bitAnd i j))):=rfl
@[simp]theorem Qm:nA (.lst ds) (.int i)=if 0<=i/\0<ds.length/\ds.length*i.toNat<=lim then some (.own (replicate i.toNat ds).flatten)else none:=rfl
@[simp]theorem Pz:nA (.tup ds) (.int i)=if 0<=i/\0<ds.length/\ds.length*i.toNat<=lim then some (.val (.tup (replicate i.toNat ds).flatten))else none:=rfl
@[simp]theorem ZK:cm .isT (.bl b) (.bl true)=some b:=rfl
@[simp]theorem Vz:cm .Va (.bl b) (.bl true)=some (!b):=rfl
@[simp]theorem Wd:blt .sum [.lst ds]=(ds.mapM jF).map λns=>.val (.int ns.sum):=rfl
@[simp]theorem Tr:blt .DX [.lst ds]=(ds.mapM jF).bind λns=>ns.min?.map λi=>.val (.int i):=rfl
end
@[simp]theorem aad:type_of%@HH.YH:=@HH.YH
theorem oH{ns:List Int}:(ns.map D.int).mapM jF=some ns:=by induction ns with|nil=>rfl|cons n ns a=>simp[a]
@[simp]theorem PX{ns:List Int}:ns.mapM (jF ∘ D.int)=some ns:=by rw[<-oH (ns:=ns),List.mapM_map]
@[simp]theorem RN{bs:List Bool}:bs.mapM (Gr ∘ D.bl)=some bs:=by induction bs with|nil=>rfl|cons b bs a=>simp[a]
theorem xX{S:List Int}{i:Int}:((S.map D.int).any λy=>gq y (.int i))=S.contains i:=by induction S with|nil=>rfl|cons s S a=>rw[map_cons,any_cons,List.contains_cons,a,pqi];rw[show(s==i)=(i==s)from Bool.eq_iff_iff.mpr ⟨λh=>by simp at h ⊢;exact h.symm,λh=>by simp at h ⊢;exact h.symm⟩]
theorem uT{S:List Int}:(S.map D.int).all flat=true:=by rw[all_eq_true];intro d hd;obtain⟨i,_,rfl⟩:=mem_map.mp hd;rfl
theorem wC{S:List Int}{i:Int}:cm .inn (.int i) (.lst (S.map D.int))=some (S.contains i):=by show uw false _ _=_;unfold uw;simp only[An,bind_some,uX,uT,Bool.and_true,xX];rfl
theorem zy{S:List Int}{i:Int}:cm .yW (.int i) (.tup (S.map D.int))=some (!S.contains i):=by show uw true _ _=_;unfold uw;simp only[zJ,bind_some,uX,uT,Bool.and_true,xX];rfl
theorem mQ{n:Nat}{S:List Int}:bV (n+1) (.lst (S.map D.int))=true:=by rw[bV,all_eq_true];intro d hd;obtain⟨i,_,rfl⟩:=mem_map.mp hd;cases n<;>rfl
theorem nC:∀{S T:List Int},du (S.map D.int) (T.map D.int)=(S==T)|[],[]=>by simp[du]|[],_::_=>by simp[du]|_::_,[]=>by simp[du]|s::S,t::T=>by rw[map_cons,map_cons,du,nC,pqi];rfl
theorem Vr{S T:List Int}:cm .eq (.lst (S.map D.int)) (.lst (T.map D.int))=some (S==T):=by show wW _ _=_;unfold wW;rw[mQ,mQ,Vt,nC];rfl
theorem Vy{S T:List Int}:cm .ne (.lst (S.map D.int)) (.lst (T.map D.int))=some (!(S==T)):=by show qO _ _=_;unfold qO;rw[mQ,mQ,Vt,nC];rfl
theorem m8{a:Type}{l:List a}{x:a}:at' (l++[x]) (-1)=some x:=by
 unfold at' jr;rw[if_neg (by decide),if_pos (by simp only[length_append,List.length_singleton];omega)];have:(-1+((l++[x]).length:Int)).toNat=l.length:=by simp only[length_append,List.length_singleton];omega
 rw[this];simp
theorem rJ{a:Type}{l:List a}{f:a->D}{k:Nat}{x:a}(h:l[k]?=some x):at' (l.map f) (k:Int)=some (f x):=by have b:=(gW h).1;rw[BW (by simpa using b),getElem?_map,h];rfl
theorem Mz{n k:Nat}(h:k<n):jr n (k:Int)=some k:=by unfold jr;rw[if_pos (by omega),if_pos (by omega)];simp
theorem tK{is:List Nat}{one:Bool}{body:List Sl->Res Fl}{g:Nat->D}{N:Nat}(J:Nat->List Sl->Prop){Q:Fl->List Sl->Prop}(c:∀i ρ,i<N->J i ρ->∃a,di ρ is one (g i)=some a/\(body a).sat (fQ (J (i+1)) Q))(f:∀ρ,J N ρ->Q .next ρ){ρ:List Sl}(h0:J 0 ρ):(gM is one body ((List.range N).map g) ρ).sat Q:=by
 refine cO (λr ρ=>∃i,i<=N/\r=((List.range N).map g).drop i/\J i ρ) ?_ ?_ ⟨0,uI,rfl,h0⟩
 . rintro d r ρ⟨i,k,e,j⟩;have b:i<N:=by
    rcases Nat.lt_or_ge i N with h|h;.exact h
    .rw[List.drop_eq_nil_of_le (by simpa using h)]at e;cases e
   rw[drop_eq_getElem_cons (by simpa using b)]at e;injection e with e1 e2;simp at e1;subst e1;obtain⟨a,h1,l⟩:=c i ρ b j;refine⟨a,h1,l.imp λm n q=>?_⟩;cases m with|next=>exact⟨i+1,b,e2,q⟩|cont=>exact⟨i+1,b,e2,q⟩|brk=>exact q|ret v=>exact q
 . rintro ρ⟨i,k,e,j⟩;have:i=N:=by have o:=congrArg List.length e;simp at o;omega
   subst this;exact f ρ j
inductive A3(a b c:Prop):Prop where|mk(ha:a)(hb:b)(hc:c)
inductive A4(a b c d:Prop):Prop where|mk(ha:a)(hb:b)(hc:c)(hd:d)
inductive A5(a b c d e:Prop):Prop where|mk(ha:a)(hb:b)(hc:c)(hd:d)(he:e)
inductive A6(a b c d e f:Prop):Prop where|mk(ha:a)(hb:b)(hc:c)(hd:d)(he:e)(hf:f)
inductive A7(a b c d e f g:Prop):Prop where|mk(ha:a)(hb:b)(hc:c)(hd:d)(he:e)(hf:f)(hg:g)
inductive A8(a b c d e f g h:Prop):Prop where|mk(ha:a)(hb:b)(hc:c)(hd:d)(he:e)(hf:f)(hg:g)(hh:h)
inductive A9(a b c d e f g h i:Prop):Prop where|mk(ha:a)(hb:b)(hc:c)(hd:d)(he:e)(hf:f)(hg:g)(hh:h)(hi:i)
end HH
end
section
namespace HH
open PySem L2 PySem.Spec PyProof.Rows
section
variable{X:Cx}{c:Call}{n:Nat}{e a b d elt tg:Expr}{p pa pb pe:P}{pos:Pos}{elts:List Expr}{x1:Nat}{tp:Pos}
variable{scope:Scope}{N':List Str}{ifs:List Expr}{iter:Expr}
theorem rQ{x:Str}{k:Nat}{m f cpos:Pos}(w:X.N[k]?=some x)(z:FJ X.env.scope x)(j:(f.endLine==cpos.line)=true:=by rfl)(l:attributeBase (.Name x m) "pop" X.env (eval (.Name x m) X.env)=eval (.Name x m) X.env:=by rfl)(hd:(x==("__debug__":Str))=false:=by decide)(o:(x==("__classdict__":Str))=false:=by decide):SX X c (.Call (.Attribute (.Name x m) "pop" f) [] [] cpos) (.pop k):=by
 refine⟨dZ (M4 plainAttrs_list PySem.F.slot_list_pop PySem.F.type_list_pop NB (nF w z hd o) l j) ?_,λi h=>by cases h⟩;rintro Y H Q⟨F,ρ,r,B,g,e,kk⟩;rw[HH.E19]at e;split at e
 . rename_i bb ds q;have C:=aJ e;clear e;obtain⟨G,I⟩:=C;subst I;obtain⟨dl,J,L⟩:=map_some G;subst L;obtain⟨ad,ys,t,u,Z,s⟩:=g.oA k _ ds q rfl;have v:=s.length;have M:ds[ds.length-1]?=some dl:=by rw[<-List.getLast?_eq_getElem?];exact J
   obtain⟨y,O,U⟩:=s.get M;have W:aD X.K F ys.dropLast ds.dropLast:=by have:=s.take (ds.length-1);rw[List.dropLast_eq_take,List.dropLast_eq_take,v];exact this
   refine⟨.ref ad,t,.inl ⟨rfl,ys,dJ.of u⟩,_,ys,y,rfl,rfl,u,by rw[v];exact O,?_⟩;exact kk y F _ (g.mut q t W) U
 .cases e
end
theorem zO(x dv:Value):argsOk "min" ⟨[x],[("default",dv)]⟩:=by unfold argsOk;kernel_rfl
theorem nj:(toString "min"++toString ".loop":String)="min.loop":=by decide
section
variable{prog:Program}{w:World}{A:Around}{R:Result->Shared->Prop}{I:Addr}{fp wr:List Addr}{m:Nat}{P:Nat->Value->Prop}{Sx:Nat->Heap->Prop}{dv:Value}
theorem Al(W:Walks prog w A.in1 I fp wr m P Sx)(g:Nat->Nat->Bool)(cmp:CmpOf prog w A.in1 .Lt P g)(B:Addr)(M:B∉fp):∀(u j:Nat)(s:Shared)(a:Value)(q:Nat),m-(j+1)=u->j+1<=m->Sx (j+1) s.heap->P (argBest g j) a->s.heap.get? B=some ⟨.type "list",none,.seq #[a,a] q,#[]⟩->(∀v h' x,P (argBest g (m-1)) v->(∀b o,b∉wr->b≠B->s.heap.get? b=some o->h'.get? b=some o)->R (.ok (.ret v)) {s with heap:=h',toks:=x})->codeAny (model prog w) A (.builtin "min.loop" ⟨[.ref I,.none,.ref B],[("default",dv)]⟩) R s:=by have N:B∉wr:=λz=>M (W.sub _ z);intro u;induction u with|zero=>
   intro j s a q U X st C l k;have n:j+1=m:=by omega
   refine codeAny_builtin F.entry_min_loop ?_;rw[Around.under_plainId F.plain_min_loop _];show wpAny _ A.in1 (seqItems? (.ref B)>>=_) _ _ s;refine wpAny_bind (wpAny_seqItems l rfl ?_);show wpAny _ A.in1 (tryCatch (pyNext (.ref I)) _>>=_) _ _ s;refine wpAny_bind (wpAny_tryCatch (W.done s _ _ (n▸st) λh' x kk=>?_));have p:=kk B _ N l;show wpAny _ A.in1 (updateSeq B (λ_=>#[])>>=_) _ _ _;refine wpAny_bind (wpAny_updateSeq p rfl (wpAny_bind (wpAny_letGo (wpAny_pure ?_))));exact k a _ x (by rw[<-n];exact C) λb o c i r=>(get?_update_other _ _ (Ne.symm i)).trans (kk b o c r)|succ u O=>
   intro j s a q U X st C l k;have f:j+1<m:=by omega
   refine codeAny_builtin F.entry_min_loop ?_;rw[Around.under_plainId F.plain_min_loop _];show wpAny _ A.in1 (seqItems? (.ref B)>>=_) _ _ s;refine wpAny_bind (wpAny_seqItems l rfl ?_);show wpAny _ A.in1 (tryCatch (pyNext (.ref I)) _>>=_) _ _ s;refine wpAny_bind (wpAny_tryCatch (W.item (j+1) s _ _ f st λv h' x Q t kk=>?_));have p:=kk B _ N l;show wpAny _ A.in1 (tryCatch (holding [v,v] (richCompare .Lt v a>>=_)) _>>=_) _ _ _;refine wpAny_bind (wpAny_tryCatch (wpAny_holding (wpAny_bind (cmp (j+1) (argBest g j) v a _ _ _ Q C (wpAny_bind (wpAny_holding (wpAny_truthy_bool (wpAny_bind (wpAny_letGo (wpAny_pure ?_))))))))));cases e:g (j+1) (argBest g j)with|true=>simp only[if_true];refine wpAny_bind (wpAny_updateSeq p rfl (wpAny_bind (wpAny_letGo ?_)));rw[nj];refine wpAny_pure ⟨plainId_quiet F.plain_min_loop _,O (j+1) _ v _ (by omega) f (W.frame _ _ _ t λb z o y=>(get?_update_other _ _ (λh:B=b=>M (by rw[h];exact z))).trans y) (by simp only[argBest,e,if_true];exact Q) (get?_update_self _ p rfl) λG H J L k2=>?_⟩;exact k G H J L λb o c i r=>k2 b o c i ((get?_update_other _ _ (Ne.symm i)).trans (kk b o c r))|false=>simp only[false_eq_true,if_false];refine wpAny_bind (wpAny_letGo ?_);rw[nj];refine wpAny_pure ⟨plainId_quiet F.plain_min_loop _,O (j+1) _ a q (by omega) f t (by simp only[argBest,e,false_eq_true,if_false];exact C) p λG H J L k2=>k G H J L λb o c i r=>k2 b o c i (kk b o c r)⟩
theorem vO(W:Walks prog w A.in1 I fp wr m P Sx)(f:Nat->Nat->Bool)(cmp:CmpOf prog w A.in1 .Lt P f)(B:Addr)(g:B∉fp){s:Shared}{q:Nat}(st:Sx 0 s.heap)(p:s.heap.get? B=some ⟨.type "list",none,.seq #[] q,#[]⟩)(k:0<m->∀v h' a,P (argBest f (m-1)) v->(∀b o,b∉wr->b≠B->s.heap.get? b=some o->h'.get? b=some o)->R (.ok (.ret v)) {s with heap:=h',toks:=a})(k0:m=0->∀h' a,(∀b o,b∉wr->b≠B->s.heap.get? b=some o->h'.get? b=some o)->R (.ok (.ret dv)) {s with heap:=h',toks:=a}):codeAny (model prog w) A (.builtin "min.loop" ⟨[.ref I,.none,.ref B],[("default",dv)]⟩) R s:=by
 have t:B∉wr:=λz=>g (W.sub _ z);refine codeAny_builtin F.entry_min_loop ?_;rw[Around.under_plainId F.plain_min_loop _];show wpAny _ A.in1 (seqItems? (.ref B)>>=_) _ _ s;refine wpAny_bind (wpAny_seqItems p rfl ?_);show wpAny _ A.in1 (tryCatch (pyNext (.ref I)) _>>=_) _ _ s;by_cases i:0<m;.refine wpAny_bind (wpAny_tryCatch (W.item 0 s _ _ i st λv h' a u j kk=>?_));have r:=kk B _ t p;show wpAny _ A.in1 (updateSeq B (λ_=>#[v,v])>>=_) _ _ _;refine wpAny_bind (wpAny_updateSeq r rfl ?_);rw[nj];refine wpAny_pure ⟨plainId_quiet F.plain_min_loop _,Al W f cmp B g _ 0 _ v _ rfl i (W.frame _ _ _ j λb z o y=>(get?_update_other _ _ (λh:B=b=>g (by rw[h];exact z))).trans y) u (get?_update_self _ r rfl) λx C G H k2=>?_⟩;exact k i x C G H λb o e l n=>k2 b o e l ((get?_update_other _ _ (Ne.symm l)).trans (kk b o e n))
 . have c:m=0:=by omega
   refine wpAny_bind (wpAny_tryCatch (W.done s _ _ (by rw[c];exact st) λh' a kk=>?_));show wpAny _ A.in1 (rule _>>=_) _ _ _;refine wpAny_bind (wpAny_rule (wpAny_pure ?_));exact k0 c h' a λb o e l n=>kk b o e n
end
section
variable{prog:Program}{w:World}{A:Around}{E:Value->Shared->Prop}{s:Shared}
theorem wN{id:String}{f:Builtin}{xs:List Value}{b:List (Str×Value)}{Q:Value->Shared->Prop}(h1:builtinKind id=none)(c:plainId id=true)(i:entryFor table id=some f)(j:argsOk id ⟨xs,b⟩)(h:wpAny (model prog w) A.in1 (f ⟨xs,b⟩) (λfin a=>match fin with|.done z=>(match(Except.ok z:Result)with|.ok (.ret v)=>Q v a|.ok _=>False|.error y=>E y a)|.again z=>z.quiet=true/\codeAny (model prog w) A z (λr a=>match r with|.ok (.ret v)=>Q v a|.ok _=>False|.error y=>E y a) a) E s):wpAny (model prog w) A (call (.builtin id) xs b) Q E s:=by refine wpAny_call (codeAny_call_builtin c i ?_);simp only[checkBuiltinCall,h1];cases e:Manifest.signature? id with|none=>exact wpAny_pure h|some g=>(have k:Bind.checkArgs id g ⟨xs,b⟩=pure ():=by simpa only[argsOk,e]using j);simp only[k];exact wpAny_pure h
theorem zW{x dv:Value}{Q:Value->Shared->Prop}(h:wpAny (model prog w) A.in1 (pyIter x) (λit a=>∃ I e f m P Sx g,it=.ref I/\Walks prog w A.in1 I e f m P Sx/\Sx 0 a.heap/\(∀ b ∈ e,b<a.heap.objs.size)/\CmpOf prog w A.in1 .Lt P g/\(0<m->∀v h' c,P (argBest g (m-1)) v->(∀b o,b∉f->a.heap.get? b=some o->h'.get? b=some o)->Q v {a with heap:=h',toks:=c})/\(m=0->∀h' c,(∀b o,b∉f->a.heap.get? b=some o->h'.get? b=some o)->Q dv {a with heap:=h',toks:=c})) E s):wpAny (model prog w) A (call (.builtin "min") [x] [("default",dv)]) Q E s:=by
 refine wN F.kind_min F.plain_min F.entry_min (zO _ _) ?_;show wpAny _ A.in1 (Builtin.Builtins.bindParams "min" ["key","default"] 0 ⟨[],[("default",dv)]⟩>>=_) _ _ s;refine wpAny_bind (wpAny_of_eq (show Builtin.Builtins.bindParams "min" ["key","default"] 0 ⟨[],[("default",dv)]⟩=pure [none,some dv]from rfl) (wpAny_bind (wpAny_pure ?_)));refine wpAny_bind (wpAny_mono h (?_) λ_ _ z=>z);rintro it a⟨I,e,f,m,P,Sx,g,l,W,st,i,cmp,k,k0⟩;subst l;refine wpAny_bind (wpAny_newObj_type ?_);have n:a.heap.objs.size∉e:=λz=>lt_irrefl _ (i _ z);rw[nj];refine wpAny_pure ⟨plainId_quiet F.plain_min_loop _,vO W g cmp a.heap.objs.size n (W.frame _ _ _ st λb _ o z=>gG z) (get?_push_size _ rfl) (λj v h' c p kk=>?_) λj h' c kk=>?_⟩;.exact k j v h' c p λb o z y=>kk b o z (ne_of_lt (lt_size y)) (gG y)
 .exact k0 j h' c λb o z y=>kk b o z (ne_of_lt (lt_size y)) (gG y)
end
section
variable{X:Cx}{c:Call}{n:Nat}{e a b:Expr}{p pa pb:P}{pos:Pos}
def CallD(X:Cx)(id:String)(r:List V->Hp->VK->Prop):Prop:=∀(f:List (Addr×Obj))(s:Shared)(g:L2.St)(H:Hp)(xs:List V)(h:List Value)(Q:VK),L2.Inv X f g H s->Vals xs h->r xs H Q->wpAny (model X.prog X.w) X.A (call (.builtin id) h [("default",.none)]) (EP X f g Q) X.xe s
theorem Cw{x:Str}{id:String}{r:List V->Hp->VK->Prop}{t:TA}{p' kp g:Pos}{ck}(hc:CallD X id r)(k:Gl X x)(l:X.mg x=none)(m:bootBuiltins x=some (.builtin id))(o:PA X [e] t)(q:x≠"__name__":=by decide)(i:(x==("__debug__":Str))=false:=by decide)(he:backTo pos (starEach [e] X.env)=(false,eval e X.env)::backTo pos (starEach [] X.env):=by rfl)(hpl:(backTo pos (starEach [e] X.env)).any (·.1)=false:=by rfl)(hall:(backToKw pos (keywordEach [⟨some "default",.Constant .none ck g,kp⟩] X.env)).all (·.1.isSome)=true:=by rfl)(hkw:(backToKw pos (keywordEach [⟨some "default",.Constant .none ck g,kp⟩] X.env)).any (·.1.isNone)=false:=by rfl):PE X (.Call (.Name x p') [e] [⟨some "default",.Constant .none ck g,kp⟩] pos) (Uc r t):=by intro f s j H Q I h;refine wpAny_Call_Name_kw (iM I k l m (callWith_kw (cJ (o pos f s j H _ I h) ?_) he hpl hall hkw) q i);rintro u s1⟨vs,v,w,r1,y⟩;exact kws_cons (Constant_none (kws_nil (hc f s1 j v vs u Q w r1 y)))
theorem Ol(hc:X.calm=true):CallD X "min" (NP X.K λx=>blt .DY [x]):=by
 rintro m s Y H xs o Q I r⟨x,B,F,d,r',h,C,he,k⟩;obtain⟨ns,G,he⟩:=map_some (show((items d).bind λds=>ds.mapM jF).map _=some r' from he);subst he;obtain⟨ds,J,L⟩:=dC G;obtain⟨p,ys,rfl,M,q⟩:=C.items h J;rw[jQ L]at q;have N:=dB q;subst B;obtain⟨u,rfl,O⟩:=r.one;cases O;refine zW (walked I hc M λit o w Sx j W h0 U kp=>?_);subst N;have f:o.toArray.size=ns.length:=by rw[size_toArray,<-j.length,length_map]
 refine⟨it,_,_,_,_,Sx,_,rfl,W,h0,U,CmpOf.ints_lt (λi=>ns.getD i 0) (λi v e=>jO j e),λg v h' l y kk=>?_,λg h' l kk=>?_⟩
 . rw[f]at y g;obtain⟨t,rfl⟩:=jO j y;obtain⟨i,z⟩:∃i,ns.min?=some i:=by cases e:ns.min? with|none=>rw[List.min?_eq_none_iff]at e;rw[e]at g;cases g|some i=>exact⟨i,rfl⟩
   rw[z]at k;rw[tY z];exact⟨.int _,H,kp h' l kk,⟨t,rfl⟩,bQ.cV h (cA _) k⟩
 .rw[f]at g;have e:ns=[]:=List.eq_nil_of_length_eq_zero g;subst e;exact⟨.non,H,kp h' l kk,rfl,bQ.cV h Ce k⟩
theorem G6{x:Str}{p' kp f:Pos}{ck}(g:x="min")(hc:X.calm=true)(i:Gl X x)(j:X.mg x=none)(k:SX X c a pa)(hs:starEach [a] X.env=(false,eval a X.env)::starEach [] X.env:=by rfl)(he:backTo pos (starEach [a] X.env)=(false,eval a X.env)::backTo pos (starEach [] X.env):=by rfl)(hpl:(backTo pos (starEach [a] X.env)).any (·.1)=false:=by rfl)(hall:(backToKw pos (keywordEach [⟨some "default",.Constant .none ck f,kp⟩] X.env)).all (·.1.isSome)=true:=by rfl)(hkw:(backToKw pos (keywordEach [⟨some "default",.Constant .none ck f,kp⟩] X.env)).any (·.1.isNone)=false:=by rfl):SX X c (.Call (.Name x p') [a] [⟨some "default",.Constant .none ck f,kp⟩] pos) (.blt .DY [pa]):=by subst g;exact pX (λh=>Cw (Ol hc) i j boot_min h (he:=he) (hpl:=hpl) (hall:=hall) (hkw:=hkw)) k (λρ=>rfl) rfl hs
end
end HH
end
section
namespace HT
open PySem PySem.Spec PyProof.Rows
section
variable{prog:Program}{w:World}{A:Around}{E:Value->Shared->Prop}{s:Shared}
theorem vy{t e:Addr}{a:Array Value}{j k:Value}{lo c:Option Int}{Q:Value->Shared->Prop}(b:IsTup s.heap t a)(hs:s.heap.IsSliceOf e j k .none)(l:IsPart j lo)(m:IsPart k c)(h1:cF a.size 0 lo=0)(n:cF a.size a.size c=a.size)(h:Q (.ref t) s):wpAny (model prog w) A (getItem (.ref t) (.ref e)) Q E s:=by
 obtain⟨os,f,g,o⟩:=id hs;have p:s.TypeIs (.ref e) "slice":=⟨os,f,g⟩;unfold getItem;try with_reducible refine wpAny_holding ?_
 first|refine wpAny_bind (wpAny_pure ?_)|skip
 refine wpAny_bind (wpAny_sequenceKey b.typeIs (by decide) (wpAny_bind (wpAny_callSpecial?_slot (name:=Str.ofString "__getitem__") b.typeIs slot_tuple_getitem (wpAny_call_entry slot_tuple_getitem b.typeIs entry_tuple_getitem ?_ (args_tuple_getitem _ _)))));show wpAny _ _ (tupleItemsOf (.ref t)>>=_) _ _ s;refine wpAny_bind (tupleItemsOf_ b (wpAny_bind (wpAny_typeOf p ?_)));rw[if_pos (by decide)];refine wpAny_bind (fZ hs l m ?_);have i:((((cF a.size 0 lo:Nat):Int)==0&&(1:Int)==1&&(cF a.size a.size c-cF a.size 0 lo)==a.size)=true):=by rw[h1,n];simp
 show wpAny _ _ (if(((cF a.size 0 lo:Nat):Int)==0&&(1:Int)==1&&(cF a.size a.size c-cF a.size 0 lo)==a.size)=true then _ else _) _ _ s;rw[if_pos i];unfold Builtin.Tuple.tupleIsExact;refine wpAny_bind (wpAny_bind (wpAny_typeOf b.typeIs (wpAny_pure ?_)));rw[if_pos (by decide)];exact wpAny_bind (wpAny_rule (wpAny_pure ⟨_,rfl,wpAny_pure h⟩))
end
end HT
namespace HH
open PySem L2 PySem.Spec PyProof.Rows
noncomputable def XX:Expr->Bool|.Starred _ _=>false|_=>true
theorem cG{e:Expr}{c:List Expr}{env:Env}(h:XX e=true):starEach (e::c) env=(false,eval e env)::starEach c env:=by cases e with|Starred a b=>cases h|_=>rw[starEach];(intro e p z;cases z)
noncomputable def oX:List Int->List Expr->Option (List Expr)|[],a=>some a|i::is,.Constant (.int j) _ _::a=>if i=j then oX is a else none|_,_=>none
theorem rH{X:L2.Cx}{c:Call}:∀(is:List Int){f a:List Expr}{b:List P},oX is f=some a->SA X c a b->SA X c f (is.map (λi=>P.con (.int i))++b)|[],f,a,b,h,r=>by cases h;exact r|i::is,[],a,b,h,r=>by cases h|i::is,e::f,a,b,h,r=>by cases e with
   |Constant v k p=>cases v with
     |int j=>
       replace h:(if i=j then oX is f else none)=some a:=h;split at h;.rename_i g;subst g;exact yf aa (rH is h r) (cG rfl)
       .cases h|_=>cases h
   |_=>cases h
theorem qN{n d:Nat}{o:Option Int}:HT.cF n d o=HH.cF n d o:=by cases o with|none=>rfl|some v=>
   show(if v<0 then(v+(n:Int)).toNat else min v.toNat n)=(if 0<=v then min v.toNat n else(v+n).toNat);by_cases h:0<=v;.rw[if_pos h,if_neg (by omega)]
   .rw[if_neg h,if_pos (by omega)]
theorem Ci{xs:List V}{lo a:Option Int}:uF xs lo a=HH.cut xs lo a:=by unfold uF HH.cut;rw[qN,qN]
theorem aD.cut{K:PySem.W.Frag}{F:Hp}{ds:List D}{vs:List V}{lo a:Option Int}(h:aD K F vs ds):aD K F (HH.cut vs lo a) (HH.cut ds lo a):=by unfold HH.cut;rw[h.length];exact(h.drop _).take _
section
variable{X:Cx}{c:Call}{n:Nat}{e a b:Expr}{p pa pb pl ph:P}{pos p2:Pos}{lo hi:Option Expr}
def Yr(K:PySem.W.Frag):V->Option Int->Option Int->Hp->VK->Prop:=λx lo hi H Q=>∃F d r,aM F H/\cU K F H x d/\JM d (some lo) (some hi)=some r/\∀v g f,Ext F H g f->bQ K g f H v r->Q v f
theorem Sv:Wx X (Yr X.K):=by rintro f s u H x v w y lo hi z Q I m hs pl o⟨F,d,r,h,B,he,k⟩;cases d with|lst ds=>cases he;obtain⟨a,xs,rfl,l,i⟩:=B.lst h;refine Fq f s u H _ v w y lo hi z Q I m hs pl o ⟨a,xs,rfl,l,λp q=>?_⟩;rw[Ci];exact Ai h i.cut q k|tup ds=>
   cases he;obtain⟨a,xs,rfl,l,i,rt⟩:=B.tup h;by_cases j:HT.cF xs.length 0 lo=0/\HT.cF xs.length xs.length hi=xs.length
   . cases m;obtain⟨t,G,C,hz⟩:=I.tuple l;have g:t.toArray.size=xs.length:=by rw[size_toArray];exact G.length.symm
     refine⟨"tuple",_,slot_tuple_getitem.lookup,C.typeIs,HT.vy C hs pl o (by rw[g];exact j.1) (by rw[g];exact j.2) ⟨.ref a,H,I,rfl,?_⟩⟩;have hc:HH.cut ds lo hi=ds:=by unfold HH.cut;rw[<-i.length,<-qN,<-qN,j.1,j.2];simp[i.length]
     rw[hc]at k;exact bQ.cV h rt k
   .refine Ny f s u H _ v w y lo hi z Q I m hs pl o ⟨a,xs,rfl,l,j,λp q=>?_⟩;rw[Ci];exact zf h i.cut q k|_=>cases he
def SO(X:Cx)(c:Call)(o:Option Expr)(p:P):Prop:=∃t,PO X o t/\∀{g:L2.St}{H F:Hp}{ρ f:List Sl}{d:D}{i:Option Int}{Q:Option Int->Hp->Prop},GS X.K F ρ g H->gw (isVar p) (HH.ev c p) ρ=.ok d f->part p d=some i->(∀j h,bK X.K F ρ g H j f g h->Q i h)->t g H Q
theorem qQ:SO X c none (.con .non):=by refine⟨_,Fe,λ{l H F ρ f d i Q}g e h k=>?_⟩;cases(show some none=some i from h);have j:(HH.ev c (.con .non) ρ).bind (λr ρ=>.ok r.d ρ)=.ok d f:=e;clear e;rw[HH.E2]at j;cases j;exact k F H (.refl g)
theorem sE(h:SX X c e p)(l:Fz p=false:=by rfl):SO X c (some e) p:=by obtain⟨t,h1,m⟩:=h.gw;refine⟨_,Gw h1,λ{y H F ρ o d i Q}g e f k=>?_⟩;unfold part at f;rw[l,if_neg (by decide)]at f;obtain⟨j,q,r⟩:=map_some f;cases fV q;subst r;exact m g e λv u w s x=>⟨j,x.int,k u w s⟩
theorem ug{d:D}{x y:Option (Option Int)}{r:R}(h:JM d x y=some r):∃lo hi,x=some lo/\y=some hi:=by cases x with|none=>cases d<;>cases h|some lo=>cases y with|none=>cases d<;>cases h|some hi=>exact⟨lo,hi,rfl,rfl⟩
theorem oV(ha:SX X c a pa)(hl:SO X c lo pl)(hh:SO X c hi ph):SX X c (.Subscript a (.Slice lo hi none p2) pos) (.slice pa pl ph):=by obtain⟨tl,l1,l2⟩:=hl;obtain⟨th,h1,h2⟩:=hh;cases hv:isVar pa with|none=>refine⟨dZ (vz Sv ha.ev l1 h1) ?_,λi h=>by cases h⟩;rintro σ H Q⟨F,ρ,r,B,g,e,k⟩;rw[HH.E15,hv]at e;obtain⟨x,C,f,j⟩:=ak e;clear e;have Vi:(HH.ev c pa ρ).bind (λr ρ=>.ok r.d ρ)=.ok x C:=f;clear f;obtain⟨rx,ae,e1,G⟩:=ak Vi;clear Vi;cases G;obtain⟨y,I,J,l⟩:=ak j;clear j;obtain⟨z,L,M,m⟩:=ak l;clear l;obtain⟨e,N⟩:=aJ m;clear m;subst N;obtain⟨O,U,o,q⟩:=ug e;rw[o,q]at e;refine⟨F,ρ,rx,_,g,e1,λv F1 H1 s1 rr=>?_⟩;obtain⟨F2,s2,_,rp⟩:=s1.fM rr;refine l2 s2.gs J o λF3 H3 s3=>h2 s3.gs M q λW H4 s4=>?_;have s5:=s2.trans (s3.trans s4);refine⟨W,_,r,s4.gs.sub,.inl ((rp.mono s3.cW).mono s4.cW),e,λv Y Z x rn=>?_⟩;exact k v Y Z (s5.trans (x.stp s5.gs)) (.later s5 (rn.pF s5.gs))|some i=>refine⟨dZ (vz Sv (ha.var i hv) l1 h1) ?_,λi h=>by cases h⟩;rintro σ H Q⟨F,ρ,r,B,g,e,k⟩;rw[HH.E15,hv]at e;obtain⟨x0,af,s,j⟩:=ak e;clear e;obtain⟨G,Ea⟩:=aJ s;clear s;subst Ea;obtain⟨y,I,J,l⟩:=ak j;clear j;obtain⟨z,L,M,m⟩:=ak l;clear l;obtain⟨x,ag,t,ed⟩:=ak m;clear m;obtain⟨e5,e6⟩:=aJ t;clear t;subst e6;obtain⟨e,N⟩:=aJ ed;clear ed;subst N;obtain⟨O,U,o,q⟩:=ug e;rw[o,q]at e;obtain⟨v,u,_⟩:=g.pk G;refine⟨v,u,l2 g J o λF3 H3 s3=>h2 s3.gs M q λW H4 s4=>?_⟩;have s5:=s3.trans s4;obtain⟨v',w,pv⟩:=s5.gs.pk e5;rw[u]at w;cases w;refine⟨W,_,r,s4.gs.sub,pv,e,λv Y Z x rn=>?_⟩;exact k v Y Z (s5.trans (x.stp s5.gs)) (.later s5 (rn.pF s5.gs))
theorem n8{x:Str}{k:Nat}{j f cpos:Pos}(G:X.N[k]?=some x)(I:FJ X.env.scope x)(he:SX X c e p)(h:(f.endLine==cpos.line)=true:=by rfl)(hs:starEach [e] X.env=(false,eval e X.env)::starEach [] X.env:=by rfl)(i:attributeBase (.Name x j) "extend" X.env (eval (.Name x j) X.env)=eval (.Name x j) X.env:=by rfl)(l:((backTo cpos (starEach [e] X.env)).all (λx=>!x.1)&&(backToKw cpos (keywordEach [] X.env)).all (λx=>x.1.isSome)&&decide ([e].length+([]:List Keyword).length+(if([]:List Keyword).isEmpty then 0 else 1)<30))=true:=by rfl)(s:swapsWith (.Call (.Attribute (.Name x j) "extend" f) [e] [] cpos) none pos.line X.env=pure false:=by rfl)(hd:(x==("__debug__":Str))=false:=by decide)(t:(x==("__classdict__":Str))=false:=by decide):SS X c n (.Expr (.Call (.Attribute (.Name x j) "extend" f) [e] [] cpos) pos) (.xF k p):=by
 refine dI (rZ (Jj plainAttrs_list PySem.F.slot_list_extend PySem.F.type_list_extend zN (nF G I hd t) (cH he.ev fG hs) i l h hs) s) ?_;rintro D J H⟨F,ρ,fl,L,g,e,kk⟩;rw[HH.YH]at e;obtain⟨d0,M,m,y⟩:=ak e;clear e;obtain⟨O,Q⟩:=aJ m;clear m;subst Q;obtain⟨r,u,U,o⟩:=ak y;clear y;obtain⟨a,xs,h1,W⟩:=yQ g O;refine⟨.ref a,h1,.inl ⟨rfl,xs,W⟩,F,ρ,r,u,g,U,λv Y H1 s1 Z=>?_⟩;split at o
 . rename_i bb ds es q;split at o;.rename_i w;cases o;obtain⟨b1,ys,rfl,w2,w3,z,w5,w6⟩:=Z;obtain⟨ad,zs,B,q2,q3,C⟩:=s1.gs.oA k _ ds q rfl;rw[h1]at B;cases B;exact⟨_,b1,zs,ys,rfl,rfl,q2,w2,by rw[C.length,z.length];exact w,kk Y J _ (s1.trans (s1.gs.mut q h1 (C.append z)))⟩
   .cases o
 .cases o
end
end HH
end
section
namespace L2
open PySem PySem.Spec PyProof.Rows
section
variable{X:Cx}{tg:Expr}
theorem nU:bootBuiltins "reversed"=some (.type "reversed"):=by decide+kernel
end
end L2
namespace HH
open PySem L2 PySem.Spec PyProof.Rows
section
variable{K:PySem.W.Frag}{F F1 H H1:Hp}{ρ ρ1:List Sl}{σ:L2.St}{ds:List D}{a:Addr}
theorem aD.rev:∀{ds:List D}{xs:List V},aD K F xs ds->aD K F xs.reverse ds.reverse|[],_,h=>by rw[h.fX];exact .nil|d::ds,_,h=>by obtain⟨v,r,rfl,h1,b⟩:=h.cB;rw[reverse_cons,reverse_cons];exact(aD.rev b).append (.cons h1 .nil)
end
section
variable{X:Cx}{c:Call}{a b d:Expr}{pa pb pd:P}{pos:Pos}
theorem jX{o p:Cm}{op j:CmpOp}(ho:dH X (compareOp op) (rD X.K (lF o)))(y:dH X (compareOp j) (rD X.K (lF p)))(G:SX X c a pa)(I:SX X c b pb)(hd:SX X c d pd)(J:lastMarks [op,j] [b,d]=false:=by with_unfolding_all rfl):ST X c (.Compare a [op,j] [b,d] pos) (.chain o p pa pb pd):=by
 obtain⟨L,M,h1,N,O⟩:=G.gR I;obtain⟨U,W,Y⟩:=hd.gw;refine xR (CW ho y h1 N W J) λσ H Q q=>rM (t:=Ba (rD X.K (lF o)) (rD X.K (lF p)) L M U) (λQ z=>?_) q;obtain⟨F,ρ,r,Z,g,e,k⟩:=z;rw[HH.E10]at e;obtain⟨l,ae,e1,e⟩:=ak e;obtain⟨t,af,i,e⟩:=ak e;have zz:=aJ i;clear i;obtain⟨i,B⟩:=zz;subst B;have f:flat l.2=true/\cm o l.1 l.2=some t:=by
  split at i;.rename_i hf;exact⟨hf,i⟩
  .cases i
 obtain⟨f,i⟩:=f;refine O g e1 λv u F' H' s pv n=>⟨F',l.1,l.2,.val (.bl t),s.gs.sub,pv,n,by unfold lF;rw[i];rfl,λw C H2 x m=>?_⟩;have s2:=s.trans (x.stp s.gs);have m:Rep X.K C w (.bl t):=m;rw[Rep]at m;subst m;refine⟨t,rfl,?_⟩;cases t with|false=>rw[if_neg Bool.false_ne_true]at e ⊢;cases e;exact k _ C H2 s2 (show Rep X.K C _ _ from iy _)|true=>
   rw[if_pos rfl]at e ⊢;obtain⟨z,ag,B,e⟩:=ak e;obtain⟨e4,e5⟩:=aJ e;subst e5;refine Y s2.gs B λw F3 H3 s3 pw=>⟨F3,l.2,z,r,s3.gs.sub,?_,pw,e4,λw' F4 H4 x4 m=>?_⟩
   . have x1:=x.fs;have x2:=s3.cW;rcases n with n|⟨_,_,_,_,_,_,h⟩;.exact .inl ((n.mono x1).mono x2)
     .rw[h]at f;cases f
   .have s4:=s2.trans s3;exact k w' F4 H4 (s4.trans (x4.stp s4.gs)) (.later s4 (m.pF s4.gs))
end
end HH
end
section
namespace L2
open PySem PySem.Spec PyProof.Rows
variable{ch:List Addr}{h h' base:Heap}{e C:Addr}{tb:Value}{outer:List Env}{w:World}{H:Hp}{mg:Str->Option Value}
def jU(h:Heap)(e C:Addr)(tb:Value):Prop:=∃(o:Obj)(vs:Array Value),h.get? e=some o/\o.cls=.ref C/\o.data=.fields vs/\vs[1]?=some tb/\o.dict=none
theorem Ah{f:Array Value->Array Value}{o:Obj}:(Obj.mapFields f o).dict=o.dict:=by unfold Obj.mapFields;split<;>rfl
def Eh(h:Heap)(T:Addr)(b:Value):Prop:=∃(o:Obj)(a:Array Value),h.get? T=some o/\o.data=.fields a/\a[3]?=some b
noncomputable def Gp:Value->List Addr|.ref T=>[T]|_=>[]
structure mq(fs ch:List Addr)(h h':Heap):Prop where
 keep:∀b o,h.get? b=some o->b∉ch->b∉fs->h'.get? b=some o
 slot:∀b o,h.get? b=some o->b∉ch->∃sl,h'.get? b=some {o with slots:=sl}
theorem mq.trans{fs:List Addr}{h1 f:Heap}(a:mq fs ch h h1)(b:mq fs ch h1 f):mq fs ch h f:=⟨λx o e g i=>b.keep x o (a.keep x o e g i) g i,λx o e n=>by obtain⟨k,q⟩:=a.slot x o e n;obtain⟨c,j⟩:=b.slot x _ q n;exact⟨c,j⟩⟩
theorem mq.more{fs c:List Addr}(a:mq fs ch h h')(s:∀b∈ch,b∈c):mq fs c h h':=⟨λx o e n=>a.keep x o e λz=>n (s x z),λx o e n=>a.slot x o e λz=>n (s x z)⟩
theorem mq.of_keep{fs:List Addr}(k:∀b o,h.get? b=some o->b∉ch->h'.get? b=some o):mq fs ch h h':=⟨λb o e n _=>k b o e n,λb o e n=>⟨o.slots,k b o e n⟩⟩
theorem mq.set{fs:List Addr}(h:Heap)(a:Addr)(f:Obj->Obj):mq fs [a] h (h.update a f):=.of_keep λb o e n=>(get?_update_other _ _ (by simpa using Ne.symm (by simpa using n))).trans e
section
variable{M:Model}{A:Around}{E:Value->Shared->Prop}{s:Shared}
theorem jU.Lb{l:List Env}(b:jU s.heap e C tb)(c:s.heap.FunFrames base l):e∉frs l:=λf=>by obtain⟨o,vs,h1,_,g,_⟩:=b;obtain⟨_,j,a,i⟩:=c.mem f;rw[h1]at a;cases a;exact i vs g
theorem oJ{env:Env}{L:Addr}{head:Value}{f:Bool}{Q:Unit->Shared->Prop}(t:A.frames=some (env::outer))(B:s.heap.FunFrames base (env::outer))(N:env.frame=some L)(G:jU s.heap e C tb)(k:∀h' T,s.heap.objs.size<=T->T≠e->mq (frs (env::outer)) [e] s.heap h'->jU h' e C (.ref T)->Eh h' T (rawInt L)->Q () {s with heap:=h'}):wpAny M A (do let a<-frameOf env;let m<-entryPlaceOf L f;let b<-EntryCells.newEntry head a .none (rawInt L) .none m;setField (.ref e) 1 b) Q E s:=by
 have u:=G.Lb B;obtain⟨O,vs,he,v,hd,h1,x⟩:=G;have g:=(Array.getElem?_eq_some_iff.mp h1).1;refine wpAny_bind (wpAny_frameOf_fun t B N λc p=>wpAny_bind (wpAny_entryPlaceOf λm hpl=>?_));unfold EntryCells.newEntry newFields;refine wpAny_bind (wpAny_newObj_type ?_ (hpl.sizeOk5 _ _ _ _ _));have b1:mq (frs (env::outer)) [e] s.heap c:=⟨λb o q _ n=>(p.2.1 b n).trans q,λb o q _=>p.2.2 b o q⟩;have i:c.get? e=some O:=(p.2.1 e u).trans he;generalize I:({cls:=.type "traceback",dict:=none,data:=.fields ([head,.ref L,.none,rawInt L,.none]++(if m.isEmpty then replicate 6 Value.none else m)).toArray}:Obj)=r;have j:=get?_push_of_some (h:=c) r i;refine wpAny_setField j hd g ?_;have l:c.objs.size≠e:=Nat.ne_of_gt (lt_size i);have J:=Obj.data_mapFields hd (·.setIfInBounds 1 (Value.ref c.objs.size));have y:=get?_update_self (Obj.mapFields (·.setIfInBounds 1 (Value.ref c.objs.size))) j (Obj.isFreed_of_fields J);have z:((c.push r).update e (Obj.mapFields (·.setIfInBounds 1 (Value.ref c.objs.size)))).get? c.objs.size=some r:=by rw[get?_update_other _ _ (Ne.symm l)];exact get?_push_size c (by rw[<-I];rfl)
 refine k _ c.objs.size ?_ l (b1.trans ((mq.of_keep λb o q _=>gG q).trans (mq.set _ _ _))) ⟨_,_,y,?_,J,by simp[g],Ah.trans x⟩ ⟨r,_,z,by rw[<-I],?_⟩;.exact le_of_eq p.1.symm
 .rw[Obj.cls_mapFields];exact v
 .first|(simp;done)|(rcases hpl with rfl|⟨_,_,_,_,_,_,_,rfl⟩<;>simp)
theorem qt{env:Env}{L:Addr}{Q:Unit->Shared->Prop}(m:A.frames=some (env::outer))(W:s.heap.FunFrames base (env::outer))(G:env.frame=some L)(X:jU s.heap e C tb)(ht:tb=.none\/∃T,tb=.ref T/\T≠e/\Eh s.heap T .none)(k:∀h' a,s.heap.objs.size<=a->a≠e->mq (frs (env::outer)) (e::Gp tb) s.heap h'->jU h' e C (.ref a)->Eh h' a .none->Q () {s with heap:=h'}):wpAny M A (noteFrame (.ref e) env) (λ_ s2=>wpAny M A (setFlight (.ref e) none) Q E s2) E s:=by
 have fin:∀(p:Heap)(a:Addr),s.heap.objs.size<=a->a≠e->mq (frs (env::outer)) (e::Gp tb) s.heap p->jU p e C (.ref a)->Eh p a (rawInt L)->wpAny M A (setFlight (.ref e) none) Q E {s with heap:=p}:=by
  intro p a Y g b2 x2 t2;have i:s.heap.get? a=none:=get?_none_of_le Y;obtain⟨o,vs,r,I,u,v,J⟩:=x2;obtain⟨oT,Z,j,l,B⟩:=t2;unfold setFlight;refine wpAny_bind (wpAny_field r u v ?_);rw[if_pos (show(Value.ref a !=Value.none)=true from by simp)];have y:=(Array.getElem?_eq_some_iff.mp B).1;have hd:=Obj.data_mapFields l (·.setIfInBounds 3 ((none:Option Addr).elim Value.none λf=>rawInt f));refine wpAny_setField j l y (k _ a Y g ⟨λb z c n f=>?_,λb z c n=>?_⟩ ⟨o,vs,?_,I,u,v,J⟩ ⟨_,_,get?_update_self _ j (Obj.isFreed_of_fields hd),hd,by simp[y]⟩)
  . have:a≠b:=by rintro rfl;rw[i]at c;cases c
    rw[get?_update_other _ _ this];exact b2.keep b z c n f
  . have:a≠b:=by rintro rfl;rw[i]at c;cases c
    obtain⟨sl,q⟩:=b2.slot b z c n;exact⟨sl,by rw[get?_update_other _ _ this];exact q⟩
  .rw[get?_update_other _ _ g];exact r
 obtain⟨o,vs,r,I,u,v,J⟩:=id X;unfold noteFrame;simp only[G];refine wpAny_bind (wpAny_field r u v ?_);rcases ht with rfl|⟨T,rfl,N,oT,Z,j,l,B⟩;.rw[if_neg (by decide)];exact oJ m W G X λh' a i g b x t=>fin h' a i g b x t
 . rw[if_pos (show(Value.ref T !=Value.none)=true from by simp)];refine wpAny_bind (wpAny_field j l B ?_);rw[if_neg (show ¬((Value.none==rawInt L)=true)from by simp[rawInt])];refine wpAny_bind (wpAny_setField j l (Array.getElem?_eq_some_iff.mp B).1 ?_);have b0:mq (frs (env::outer)) [T] s.heap (s.heap.update T (Obj.mapFields (·.setIfInBounds 3 Value.none))):=mq.set _ _ _;have O:jU (s.heap.update T (Obj.mapFields (·.setIfInBounds 3 Value.none))) e C (.ref T):=⟨o,vs,by rw[get?_update_other _ _ N];exact r,I,u,v,J⟩;have U:(s.heap.update T (Obj.mapFields (·.setIfInBounds 3 Value.none))).FunFrames base (env::outer):=W.of_keeps λb z c nf=>by
    have:T≠b:=by rintro rfl;rw[j]at c;cases c;exact nf Z l
    exact⟨z,by rw[get?_update_other _ _ this];exact c,rfl⟩
   refine oJ (s:={s with heap:=s.heap.update T (Obj.mapFields (·.setIfInBounds 3 Value.none))}) m U G O λh' a i g b x t=>fin h' a ?_ g ((b0.more (by simp[Gp])).trans (b.more (by simp))) x t;exact le_trans (le_of_eq (Heap.size_update _ _ _).symm) i
end
structure TF(old:Heap)(H:Hp)(C e:Addr)(h:Heap):Prop where
 free:H e=none
 new:old.get? e=none
 ex:∃tb,jU h e C tb/\(tb=.none\/∃T,tb=.ref T/\T≠e/\Eh h T .none/\H T=none/\old.get? T=none)
def Av(P:Program)(w:World):yo:=λouter H s E e a=>∃(b:Hp)(C c:Addr),e=.ref c/\a.os=s.os/\AllBare a.gens/\Un (frs outer) [] H b s.heap a.heap/\jG P w b a.heap/\TF s.heap b C c a.heap/\E e (some C) b
theorem mq.hok{P:Program}{fs:List Addr}(b:mq fs ch h h')(o:jG P w H h)(h1:∀c∈fs,H c=none)(f:∀c∈ch,H c=none):jG P w H h':=by
 intro a u e;refine(o a u e).stay (λc v hc q=>b.keep c v q (λz=>?_) λz=>?_) (λc q=>q) λc xs q=>q
 . have:=f c z;rcases hc with rfl|hc;.rw[e]at this;cases this
   .rw[hc]at this;cases this
 . have:=h1 c z;rcases hc with rfl|hc;.rw[e]at this;cases this
   .rw[hc]at this;cases this
section
variable{X:Cx}{pins:List (Addr×Obj)}{σ:St}{H:Hp}{s:Shared}
theorem gone{fs ex:List Addr}{a:Hp}(u:Un fs ex H a h h'){b:Addr}(c:b∉ex)(n:h'.get? b=none):h.get? b=none:=by cases q:h.get? b with|none=>rfl|some o=>obtain⟨f,z⟩:=u.there b o q c;rw[n]at z;cases z
theorem rN{b:Addr}(h:b∈Gp tb):tb=.ref b:=by cases tb with|ref T=>simp[Gp]at h;rw[h]|_=>simp[Gp]at h
theorem p8{outer:List Env}{a:Addr}(I:Inv X pins σ H s)(k:X.ex=[])(t:X.stack=X.env::X.outer/\X.env.frame=some X.env.locals)(f:TF X.s₀.heap H C e s.heap)(Q:jU s.heap e C tb)(y:tb=.none\/∃T,tb=.ref T/\T≠e/\Eh s.heap T .none/\H T=none/\X.s₀.heap.get? T=none)(v:s.heap.objs.size<=a)(B:a≠e)(b:mq (frs X.stack) (e::Gp tb) s.heap h')(G:jU h' e C (.ref a))(t':Eh h' a .none):Un X.fs [] X.H₀ H X.s₀.heap h'/\jG X.prog X.w H h'/\TF X.s₀.heap H C e h':=by
 have j:∀c∈e::Gp tb,H c=none/\X.s₀.heap.get? c=none:=λc hc=>by
  rcases mem_cons.mp hc with rfl|hc;.exact⟨f.free,f.new⟩
  . have:=rN hc;subst this;rcases y with z|⟨T,z,_,_,J,L⟩;.cases z
    .cases z;exact⟨J,L⟩
 have l:frs X.stack=X.env.locals::X.fs:=by rw[t.1];simp[frs,t.2,Cx.fs]
 have i:X.s₀.heap.get? X.env.locals=none:=get?_none_of_le I.ok.above;have m:H a=none:=I.hok.fresh v;have M:s.heap.get? a=none:=get?_none_of_le v;have u:=I.base;rw[k]at u;refine⟨⟨λc o q n x _=>?_,λc o q n N _=>?_,λc o q n _=>u.free c o q n (by simp),λc o q _=>?_,u.tups,u.o9,u.pG⟩,b.hok I.hok I.mY λc hc=>(j c hc).1,⟨f.free,f.new,_,G,.inr ⟨a,rfl,B,t',m,gone u (by simp) M⟩⟩⟩
 . refine b.keep c o (u.keep c o q n x (by simp)) (λz=>?_) (λz=>?_);.rw[(j c z).2]at q;cases q
   . rw[l]at z;rcases mem_cons.mp z with rfl|z;.rw[i]at q;cases q
     .exact x z
 . obtain⟨O,p⟩:=u.slot c o q n N (by simp);obtain⟨r,g⟩:=b.slot c _ p λz=>by rw[(j c z).2]at q;cases q
   exact⟨r,g⟩
 . obtain⟨U,p⟩:=u.there c o q (by simp);obtain⟨O,g⟩:=b.slot c _ p λz=>by rw[(j c z).2]at q;cases q
   exact⟨_,g⟩
theorem cI.there{P:Program}{a:Addr}{o:HO}(x:cI P w H h a o):∃u,h.get? a=some u:=by cases o with|lst xs=>obtain⟨_,_,_,_,e⟩:=x;exact⟨_,e⟩|tup xs=>obtain⟨_,_,_,_,e,_⟩:=x;exact⟨_,e⟩|dK b=>obtain⟨_,_,_,_,o,_,_,e,_⟩:=x;exact⟨_,e⟩|dT b=>obtain⟨_,_,_,_,o,_,_,e,_⟩:=x;exact⟨_,e⟩|set S n=>obtain⟨o,_,_,_,e,_⟩:=x;exact⟨_,e⟩|ins C c fs=>obtain⟨_,_,_,e,_⟩:=x;exact⟨_,e⟩|own y=>obtain⟨_,e⟩:=x;exact⟨_,e⟩|xd fs=>obtain⟨_,⟨_,_,_,e,_⟩,_⟩:=x;exact⟨_,e⟩|xu lo g=>obtain⟨_,_,_,e⟩:=x;exact⟨_,e⟩|fM i u=>obtain⟨e,_⟩:=x;exact⟨_,e⟩|J0 ps=>exact⟨_,x⟩|met f y=>exact⟨_,x⟩|ext j=>obtain⟨_,⟨_,e⟩,_⟩:=x;exact⟨_,e⟩
theorem jG.none{P:Program}{w:World}{H:Hp}{h:Heap}{a:Addr}(o:jG P w H h)(n:h.get? a=none):H a=none:=by cases q:H a with|none=>rfl|some u=>obtain⟨v,z⟩:=(o a u q).there;rw[n]at z;cases z
def Off(pn:List (Addr×Obj))(e:Addr)(h:Heap):Prop:=∀p∈pn,p.1≠e/\∀C tb,jU h e C tb->tb≠.ref p.1
def Vq(X:Cx)(E:XK):Prop:=∀(pins:List (Addr×Obj))(σ:St)(H:Hp)(s:Shared)(C e:Addr),Inv X pins σ H s->TF X.s₀.heap H C e s.heap->Off X.pn e s.heap->E (.ref e) (some C) H->X.xe (.ref e) s
theorem Dr{P:Program}{K:PySem.W.Frag}{N:List Str}{qual:Str}{scope:Scope}{f:Addr}{g:Value}{A:Around}{s0:Shared}{k:Hp}{E:XK}:Vq (lL (Av P w) P w K mg base N qual scope f g A outer s0 k E) E:=by intro pins σ H s C e I l _ q;obtain⟨tb,m,n⟩:=l.ex;show wpAny (model P w) (A.deeper (envOfC qual scope s0.heap.objs.size f g)) (leaving (envOfC qual scope s0.heap.objs.size f g) (.ref e)) (λ_ i=>Av P w outer k s0 E (.ref e) i) _ s;unfold leaving;refine wpAny_bind (qt (base:=base) I.ok.frames I.stack rfl m (n.imp id λ⟨T,a,b,c,_⟩=>⟨T,a,b,c⟩) λh' t o p b r t'=>?_);obtain⟨u,ok,j⟩:=p8 (outer:=outer) I rfl ⟨rfl,rfl⟩ l m n o p b r t';exact⟨H,C,e,rfl,I.os,I.bare,u,ok,j,q⟩
theorem uO{P:Program}{K:PySem.W.Frag}{N:List Str}{qual:Str}{scope:Scope}{f:Addr}{a:Value}{A:Around}{s0:Shared}{b:Hp}{E:XK}:PassesOwn (model P w) (lL (Av P w) P w K mg base N qual scope f a A outer s0 b E).A (lL (Av P w) P w K mg base N qual scope f a A outer s0 b E).env (lL (Av P w) P w K mg base N qual scope f a A outer s0 b E).xe:=PassesOwn.leaving
theorem Dy{x:Str}{B a b:String}{bm:List Value}{c:Str}{E:XK}{np cpos f pos:Pos}{ck}(hc:X.calm=true)(i:X.ex=[])(r:Gl X x)(O:OwnCls x C bm a X.mg X.base)(FB:ExcBaseFacts B a b bm)(u:Vq X E)(hd:(x==("__debug__":Str))=false:=by decide)(he:starEach [.Constant (.str c) ck f] X.env=(false,eval (.Constant (.str c) ck f) X.env)::starEach [] X.env:=by rfl)(hpl:(backTo cpos (starEach [] X.env)).any (·.1)=false:=by rfl):PS X (.Raise (some (.Call (.Name x np) [.Constant (.str c) ck f] [] cpos)) none pos) (λ_ _ H=>∀e,E (.ref e) (some C) H):=by
 intro pins s σ H D I h;obtain⟨v,N,nm,q,bs,hdct,sn,sub,ab,col,dd,k0,k1,k2,k3,k5,mN,y,G,j,T⟩:=O.obj;refine wpAny_Raise_call_subT (C:=C) (nm:=nm) (q:=q) (N:=N) (bs:=bs) (bm:=v) (hdct:=hdct) (sn:=sn) (sub:=sub) (ab:=ab) (col:=col) (dd:=dd) (k0:=k0) (k1:=k1) (k2:=k2) (k3:=k3) (k5:=k5) FB (mN:=mN) (T.hasType FB.hasBase) (I.ok.hd hc) (by rw[he];exact hpl) j (kh I r O.bound ⟨rfl,?_⟩ hd);rw[he];have g:Inv X pins σ H {s with toks:=s.toks+1}:=I.tok _;refine Calls.evalArgs_plain (Calls.spliced_cons (Calls.Constant_str (k:=ck) (pos:=f) (Calls.spliced_nil ⟨rfl,by show 1<=sizeLine;decide,g.bk _ _ y,G.keeps g.bk,T.keeps g.bk,λh' e m=>?_⟩)));have J:Inv X pins σ H {s with heap:=h',toks:=s.toks+1}:=g.kept (t':=s.toks+1) m.keeps;obtain⟨t,l,_⟩:=m.there;have L:X.s₀.heap.get? e=none:=gone I.base (by rw[i];simp) m.new;exact u pins σ H _ C e J ⟨jG.none I.hok m.new,L,.none,⟨_,_,l,rfl,rfl,rfl,rfl⟩,.inl rfl⟩ (λp M=>by
  have n:=(I.pin p (mem_append_left _ M)).1;refine⟨λz=>?_,λZ Q U z=>?_⟩;.rw[z,show s.heap.get? e=none from m.new]at n;cases n
  .obtain⟨o2,W,r1,_,Y,o,_⟩:=U;rw[l]at r1;cases r1;cases Y;rw[z]at o;cases o) (h e)
end
section
variable{M:Model}{A:Around}{E:Value->Shared->Prop}
theorem pB{g:Array GenState}{d:Drawn}{t:Nat}{os:OsState}{j:Addr}{G:Obj}{Q:Bool->Shared->Prop}{nm q:Str}{N:Addr}{bs bm:List Value}{hdct:Bool}{sn:List Str}{sub:List Value}{ab:Bool}{col:Option Bool}{dd:Option Addr}{k0 k1 k2 k3 k5:Option Value}{b:String}{l J:Str}{N':Addr}{m c:List Value}{L:Bool}{n:List Str}{o:List Value}{p:Bool}{r:Option Bool}{s:Option Addr}{u v x O y:Option Value}{a:String}(U:h.get? C=some (excClassObj nm q C N bs bm hdct sn sub ab col dd k0 k1 k2 k3 k5 b))(I:h.get? j=some (excClassObj l J j N' m c L n o p r s u v x O y a))(he:h.get? e=some G)(k:G.cls=.ref C)(i:c.contains (.type "BaseException")=true)(z:(Value.ref C::bm).contains (.ref j)=true)(W:Q true ⟨h,g,d,t,os⟩):wpAny M A (excMatches (.ref e) (.ref j)) Q E ⟨h,g,d,t,os⟩:=by
 have B:(Value.ref j::c).contains (.type "BaseException")=true:=by rw[List.contains_cons,i,Bool.or_true]
 have f:=tc_notTuple;unfold excMatches;repeat(first|(with_reducible refine wpAny_loadPart_at he ?_;rw[k])|with_reducible refine wpAny_loadPart_at I ?_|(with_reducible refine wpAny_isSubtype_exc I ?_;rw[B])|(with_reducible refine wpAny_isSubtype_exc U ?_;rw[z])|wp_step)
 exact W
end
def Under(h:Heap)(C b:Addr):Prop:=∃nm q N bs bm hdct sn sub ab col dd k0 k1 k2 k3 k5 a,h.get? C=some (excClassObj nm q C N bs bm hdct sn sub ab col dd k0 k1 k2 k3 k5 a)/\(Value.ref C::bm).contains (.ref b)=true
theorem Under.keeps{f:Addr}(u:Under h C f)(k:∀b o,h.get? b=some o->h'.get? b=some o):Under h' C f:=by obtain⟨nm,q,N,bs,bm,hdct,sn,sub,ab,col,dd,k0,k1,k2,k3,k5,a,g,c⟩:=u;exact⟨nm,q,N,bs,bm,hdct,sn,sub,ab,col,dd,k0,k1,k2,k3,k5,a,k _ _ g,c⟩
theorem OwnCls.self{x:Str}{bm:List Value}{a:String}(O:OwnCls x C bm a mg h):Under h C C:=by obtain⟨bm,N,nm,q,bs,hdct,sn,sub,ab,col,dd,k0,k1,k2,k3,k5,mN,b,_⟩:=O.obj;exact⟨nm,q,N,bs,bm,hdct,sn,sub,ab,col,dd,k0,k1,k2,k3,k5,_,b,by simp⟩
section
variable{prog:Program}{w:World}{A:Around}{E:Value->Shared->Prop}{s:Shared}{env:Env}
theorem rE{n:Addr}{z:Str}{u:List Value}{B:String}{t:Expr}{f:Stmt}{b:List Stmt}{pos:Pos}{j:List ExceptHandler}{Q:Flow->Shared->Prop}(i:u.contains (.type "BaseException")=true)(h:wpAny (model prog w) (A.mark (some (.ref e))) (eval t env) (λc a=>c=.ref n/\OwnCls z n u B mg a.heap/\Under a.heap C n/\(∃ o,a.heap.get? e=some o/\o.cls=.ref C)/\wpAny (model prog w) (A.mark (some (.ref e))) (setFlight (.ref e) none) (λ_ k=>wpAny (model prog w) (A.mark (some (.ref e))) (execs (f::b) env) Q (notedBy (model prog w) (A.mark (some (.ref e))) env (cameBackBy (model prog w) A env E)) k) (notedBy (model prog w) (A.mark (some (.ref e))) env (cameBackBy (model prog w) A env E)) a) (notedBy (model prog w) (A.mark (some (.ref e))) env (cameBackBy (model prog w) A env E)) s):wpAny (model prog w) A (handleBy (.ref e) env (.ExceptHandler (some t) none (f::b) pos::j)) Q E s:=by refine wpAny_handleBy_cons (codeAny_handlers_test (wpAny_mono h (λc a l=>?_) λ_ _ y=>y)) (by intro q;cases q);obtain⟨rfl,O,⟨nm,q,N,bs,bm,hdct,sn,sub,ab,col,dd,k0,k1,k2,k3,k5,p,G,r⟩,⟨o,he,m⟩,I⟩:=l;obtain⟨J,N2,L,q2,M,U,W,v,X,x,Y,l0,l1,l2,l3,l5,mN,Z,hN,hq,T⟩:=O.obj;obtain⟨hh,g,d,tk,os⟩:=a;exact pB G Z he m (T.hasType i) r (codeAny_handlers_suite I)
end
noncomputable def kj(X:Cx)(a:List (Addr×Obj))(b:Value->Shared->Prop):Cx:={X with pn:=X.pn++a,xe:=b}
noncomputable def mz(X:Cx)(e:Addr):Cx:={X with A:=X.A.mark (some (.ref e)),calm:=false}
section
variable{X:Cx}{pins qC:List (Addr×Obj)}{σ:St}{H:Hp}{s:Shared}{jH:Value->Shared->Prop}{e:Addr}
theorem Dv:X.Ok↔(kj X pins jH).Ok:=⟨λo=>⟨o.mod,o.kind,o.glob,o.blt,o.above,o.inj,o.has,o.cab,o.hd,o.frames,o.O9,o.U5,o.bs,o.DW,o.vA,o.xx,o.kZ,o.Ik⟩,λo=>⟨o.mod,o.kind,o.glob,o.blt,o.above,o.inj,o.has,o.cab,o.hd,o.frames,o.O9,o.U5,o.bs,o.DW,o.vA,o.xx,o.kZ,o.Ik⟩⟩
theorem FZ:X.Ok->(mz X e).Ok:=λo=>⟨o.mod,o.kind,o.glob,o.blt,o.above,o.inj,o.has,o.cab,(λz=>by cases z),o.frames,o.O9,o.U5,o.bs,o.DW,o.vA,o.xx,o.kZ,o.Ik⟩
theorem Fo(I:Inv X pins σ H s):Inv (kj X pins jH) [] σ H s:=⟨Dv.mp I.ok,I.os,I.bare,I.base,I.loc,I.cell,I.free,I.eU,λp a=>I.pin p (by simpa[kj]using a),I.hok,I.len⟩
theorem jT(I:Inv (kj X pins jH) qC σ H s):Inv X pins σ H s:=⟨Dv.mpr I.ok,I.os,I.bare,I.base,I.loc,I.cell,I.free,I.eU,λp a=>I.pin p (mem_append_left _ a),I.hok,I.len⟩
theorem uz(I:Inv X pins σ H s):Inv (mz X e) pins σ H s:=⟨FZ I.ok,I.os,I.bare,I.base,I.loc,I.cell,I.free,I.eU,I.pin,I.hok,I.len⟩
theorem jK(o:X.Ok)(I:Inv (mz X e) pins σ H s):Inv X pins σ H s:=⟨o,I.os,I.bare,I.base,I.loc,I.cell,I.free,I.eU,I.pin,I.hok,I.len⟩
theorem Inv.but(I:Inv X pins σ H s)(b:mq (frs X.stack) ch s.heap h')(un:Un X.fs X.ex X.H₀ H X.s₀.heap h')(ok:jG X.prog X.w H h')(nl:X.env.locals∉ch)(n:∀x c,X.env.cells.lookup x=some c->c∉ch)(np:∀p∈X.pn++pins,p.1∉ch):Inv X pins σ H {s with heap:=h'}:=by
 have a:∀x c v,X.env.cells.lookup x=some c->s.heap.IsCell c v->h'.IsCell c v:=λx c v hc⟨o,ho,hd⟩=>by obtain⟨t,q⟩:=b.slot c o ho (n x c hc);exact⟨_,q,hd⟩
 refine⟨I.ok,I.os,I.bare,un,?_,λx c hc=>?_,I.free,I.eU,λp g=>?_,ok,I.len⟩;.obtain⟨m,⟨o,y,B,ho,r⟩,f⟩:=I.loc;obtain⟨t,G⟩:=b.slot _ o ho nl;refine⟨m,⟨_,y,B,G,r⟩,λi x v h1 J L=>?_⟩;obtain⟨u,M,lk⟩:=f i x v h1 J L;exact⟨u,M,lk.imp id λ⟨k,c,hc,N⟩=>⟨k,c,hc,a x c _ hc N⟩⟩
 .obtain⟨v,f⟩:=I.cell x c hc;exact⟨v,a x c v hc f⟩
 .obtain⟨O,Q,j,l,U⟩:=I.pin p g;exact⟨b.keep _ _ O (np p g) λz=>(mem_cons.mp (I.nP _ z)).elim j l,Q,j,l,U⟩
theorem jU.nl(I:Inv X pins σ H s)(x:jU s.heap e C tb):X.env.locals≠e/\∀y c,X.env.cells.lookup y=some c->c≠e:=by
 obtain⟨o,vs,h1,_,a,_⟩:=x;refine⟨λz=>?_,λy c hc z=>?_⟩;.obtain⟨m,⟨b,f,g,ho,r,_⟩,_⟩:=I.loc;rw[z,h1]at ho;cases ho;rw[a]at r;cases r
 .obtain⟨v,b,ho,r⟩:=I.cell y c hc;rw[z,h1]at ho;cases ho;rw[a]at r;cases r
theorem Eh.nl{T:Addr}{b:Value}(I:Inv X pins σ H s)(x:Eh s.heap T b):X.env.locals≠T/\∀y c,X.env.cells.lookup y=some c->c≠T:=by
 obtain⟨o,vs,h1,a,_⟩:=x;refine⟨λz=>?_,λy c hc z=>?_⟩;.obtain⟨m,⟨f,g,i,ho,r,_⟩,_⟩:=I.loc;rw[z,h1]at ho;cases ho;rw[a]at r;cases r
 .obtain⟨v,f,ho,r⟩:=I.cell y c hc;rw[z,h1]at ho;cases ho;rw[a]at r;cases r
end
end L2
end
section
namespace HH
open PySem L2 PySem.Spec PyProof.Rows
variable{x:Str}
def tX(K:PySem.W.Frag)(W:Nat->Hp->Prop)(g:List Sl->Option (Nat×List Sl)):TS:=λ_ c H=>∃F ρ k a,GS K F ρ c H/\g ρ=some (k,a)/\∀f b e,bK K F ρ c H f a b e->W k e
def Tc(X:Cx)(c:Call)(n:Nat)(W:Nat->Hp->Prop)(st:Stmt)(s:S):Prop:=PS X st (tX X.K W (lz c n s))
def K6(X:Cx)(c:Call)(n:Nat)(W:Nat->Hp->Prop)(st:List Stmt)(s:List S):Prop:=mL X st (tX X.K W (bI c n s))
section
variable{X:Cx}{c:Call}{n:Nat}{W:Nat->Hp->Prop}{e a b tg iter:Expr}{p:P}{pos:Pos}{body:List Stmt}{ss:List S}
theorem Jx{st:Stmt}{t u:TS}(h:PS X st t)(h':PS X st u):PS X st (λD g H=>t D g H\/u D g H):=λf s g H D I q=>q.elim (h f s g H D I) (h' f s g H D I)
theorem Ni{st:List Stmt}{t u:TS}(h:mL X st t)(h':mL X st u):mL X st (λD g H=>t D g H\/u D g H):=λf s g H D I q=>q.elim (h f s g H D I) (h' f s g H D I)
theorem fO{st:Stmt}{s:S}(h:∀ρ,lz c n s ρ=none:=by intro _;rfl):Tc X c n W st s:=dI vf λD f H⟨F,ρ,k,ρ',g,e,q⟩=>by rw[h]at e;cases e
theorem jl:K6 X c n W [] []:=nH yl λD f H⟨F,ρ,k,ρ',g,e,q⟩=>by rw[bI]at e;cases e
theorem cP{st:Stmt}{s:S}{f:List Stmt}{ss:List S}(h1:SS X c n st s)(j:Tc X c n W st s)(m:K6 X c n W f ss):K6 X c n W (st::f) (s::ss):=by refine nH (uY (Jx h1 j) m) ?_;rintro D w H⟨F,ρ,k,h,g,e,q⟩;rw[bI]at e;cases hx:lz c n s ρ with|some x=>rw[hx]at e;cases e;exact .inr ⟨F,ρ,k,h,g,hx,q⟩|none=>rw[hx]at e;dsimp only at e;cases he:ex c n s ρ with|stuck=>rw[he]at e;cases e|exc _ _=>rw[he]at e;cases e|ok o i=>rw[he]at e;cases o with|next=>exact .inl ⟨F,ρ,.next,i,g,he,λr t y s1=>⟨r,i,k,h,s1.gs,e,λu l v s2=>q u l v (s1.trans s2)⟩⟩|_=>cases e
theorem DG{sa sb:List Stmt}{m o:List S}(hc:ST X c e p)(s:K6 X c n W sa m)(t:K6 X c n W sb o):Tc X c n W (.If e sa sb pos) (.ifs p m o):=by
 refine dI (JG hc s t) ?_;rintro D v H⟨F,ρ,k,i,g,e,q⟩;rw[lz]at e;split at e;.rename_i x f u;refine⟨F,ρ,x,f,g,u,λr w s1=>?_⟩;cases x with|true=>exact⟨r,f,k,i,s1.gs,by simpa using e,λj h l s2=>q j h l (s1.trans s2)⟩|false=>exact⟨r,f,k,i,s1.gs,by simpa using e,λj h l s2=>q j h l (s1.trans s2)⟩
 .cases e
theorem Bs{C:Addr}{B f h:String}{bm:List Value}{i:Str}{E:XK}{np cpos l:Pos}{ck}{kk:Nat}(hc:X.calm=true)(j:X.ex=[])(m:Gl X x)(O:OwnCls x C bm f X.mg X.base)(FB:ExcBaseFacts B f h bm)(o:Vq X E)(r:∀H,W kk H->∀e,E (.ref e) (some C) H)(hd:(x==("__debug__":Str))=false:=by rfl):Tc X c n W (.Raise (some (.Call (.Name x np) [.Constant (.str i) ck l] [] cpos)) none pos) (.lq kk):=by refine dI (Dy hc j m O FB o hd (cG rfl) rfl) ?_;rintro D s H⟨F,ρ,k,t,g,e,q⟩;rw[lz]at e;cases e;exact r H (q F s H (.refl g))
def UJ(K:PySem.W.Frag)(cl:Nat->Addr)(np:Nat)(f:List Sl->Res R):Sp:=λvs H _ E=>vs.length=np/\∃F args k g,GS K F args (vs.map some) H/\f args=.exc k g/\∀j h i e,bK K F args (vs.map some) H j g h i->E (.ref e) (some (cl k)) i
def EW(cl:Nat->Addr)(W:Nat->Hp->Prop):XK:=λ_ C H=>∃k,C=some (cl k)/\W k H
structure pM(Pg:Program)(w:World)(K:PySem.W.Frag)(mg:Str->Option Value)(base:Heap)(cl:Nat->Addr)(k:Nat)(c:Call)(i:Nat)(x:Str)(np:Nat):Prop where ex:∃fa fd qs,gP Pg w K mg base (Av Pg w) k fa fd qs (UJ K cl qs.length (c i))/\mg x=some (.ref fa)/\keepIn K (.ref fa)=true/\Binds K fd qs []/\qs.length=np
theorem G4{c:Call}:∀{ps:List P}{ρ f:List Sl}{as:List Arg},qT c ps ρ=.ok as f->as.length=ps.length:=by intro ps;induction ps with|nil=>intro ρ f as h;rw[qT]at h;cases h;rfl|cons q k j=>
   intro ρ f as h;rw[qT]at h;split at h;.obtain⟨_,_,_,h⟩:=ak h;obtain⟨xs,g,i,h⟩:=ak h;cases h;simp[j i]
   .obtain⟨_,_,_,h⟩:=ak h;obtain⟨xs,g,i,h⟩:=ak h;cases h;simp[j i]
end
section
variable{Pg:Program}{w:World}{K:PySem.W.Frag}{mg:Str->Option Value}{base:Heap}
theorem Le{qual:Str}{st:Stmt}{f:Addr}{fd:FuncData}{N ps:List Str}{k n:Nat}{c:Call}{d:Fd}{cl:Nat->Addr}(t:il K x qual st f fd)(S:aN N ps (au st))(h1:d.np=ps.length)(o:d.nn=N.length)(u:∀(cdv:Value)(A:Around)(outer:List Env)(s:Shared)(H:Hp)(E:XK)(W:Nat->Hp->Prop),eX k (A.deeper (envOfC qual (au st) s.heap.objs.size f cdv))->(∀k H,W k H->∀e,E (.ref e) (some (cl k)) H)->K6 (lL (Av Pg w) Pg w K mg base N qual (au st) f cdv A outer s H E) c n W (cQ st) d.body):gP Pg w K mg base (Av Pg w) (k+1) f fd ps (UJ K cl ps.length (λargs=>enter c n d args)):=by
 obtain⟨L,M,kV,v,pm,O,cdv,ct,y,rfl,lk,i⟩:=t.ex;refine JP lk i S (λvs H Q E h=>h.1) λA outer s H vs Q E hr h=>?_;obtain⟨p,F,args,r,a,g,e,q⟩:=h;refine⟨_,u cdv A outer s H E (λk b=>∀e,E (.ref e) (some (cl k)) b) hr (λk b h=>h),?_⟩;replace e:enter c n d args=.exc r a:=e;unfold enter at e;split at e
 . rename_i hc;obtain⟨c1,c2⟩:=hc;have B:=g.more (n:=d.nn-d.np) (τ:=replicate (N.length-vs.length) none) (by simp[h1,o,p]);have j:args.length=d.np:=c1;split at e;.cases e
   .cases e
   . split at e;.rename_i U l z;cases e;refine⟨F,_,r,l,B,z,λC G b s I=>?_⟩;obtain⟨J,_⟩:=bK.less (m:=d.np) j.symm g (by simp[h1,o,p]) s;exact q C _ b I J
     .cases e
 .cases e
end
section
variable{X:Cx}{c:Call}{n:Nat}
theorem cX{k:Nat}{st:Stmt}:SS X c n st (.lq k):=dI vf λD a H⟨F,ρ,fl,ρ',g,e,q⟩=>by rw[HH.X16]at e;cases e
end
structure uB(K:PySem.W.Frag)(x:Str)(C:Addr):Prop where nm:PySem.W.nsIn K mainGlobals x=some (some (.ref C))is:PySem.W.excIn K C [.type "ValueError",.type "Exception",.type "BaseException",.type "object"] "ValueError.__new__"=true
section
variable{Pg:Program}{w:World}{K:PySem.W.Frag}{mg:Str->Option Value}{base h:Heap}
theorem yq{C:Addr}(k:K.In h)(ns:h.Ns mainGlobals mg)(z:uB K x C):OwnCls x C [.type "ValueError",.type "Exception",.type "BaseException",.type "object"] "ValueError.__new__" mg h:=by
 have y:=z.is;unfold PySem.W.excIn at y;split at y<;>try cases y
 rename_i d1 c1 s1 c;split at y<;>try cases y
 rename_i D1 m1 r s a2 a3 b1 a5 b a;simp only[and_eq_true,beq_iff_eq,not_eq_true']at y;obtain⟨⟨⟨⟨⟨t,u⟩,o⟩,v⟩,e⟩,p⟩:=y;subst t;subst u;cases c1 with|mk B f q g G i j l m n H=>cases s1 with|mk I=>simp only at b a o e p;subst b;subst o;subst a;exact⟨mg_of k ns z.nm,m1,g,B,G,f,i,j,l,m,n,d1,r,s,a2,a3,a5,_,k _ _ c,.of_isNs (PySem.W.isNs_of_in k e),PySem.W.nsMap_none_of_in k e p,PySem.W.tail_of_in k v⟩
theorem Ov{Γ:Tab}{cl:Nat->Addr}{wl i np:Nat}{st:Stmt}{ps:List Str}(X:K.In h)(G:h.Ns mainGlobals mg)(D:bL K x st)(j:ps.length=np)(k:∀(kV g pm:Value)(l:Option Addr)(cdv ct:Value)(c:List Value),c.length=ps.length->bindArgs (PySem.W.fnOf x x (dO st) (cQ st) (au st) .none kV g pm l cdv ct) ⟨c,[]⟩=pure (ps.zip c)):pM Pg w K mg base cl 0 (run Γ wl 0) i x np:=by obtain⟨f,fd,a,F⟩:=D.ex;exact⟨f,fd,ps,⟨λvs H Q E s=>s.1,λA outer s H args c vs Q E hr e b v sp=>by obtain⟨_,F,as,r,m,_,z,_⟩:=sp;cases z⟩,mg_of X G a,F.kp,F.binds k,j⟩
theorem Lj{Γ:Tab}{cl:Nat->Addr}{wl n i np:Nat}{st:Stmt}{ps:List Str}{d:Fd}(X:K.In h)(G:h.Ns mainGlobals mg)(D:bL K x st)(j:ps.length=np)(b:Γ i=some d)(k:∀(kV c pm:Value)(l:Option Addr)(cdv ct:Value)(g:List Value),g.length=ps.length->bindArgs (PySem.W.fnOf x x (dO st) (cQ st) (au st) .none kV c pm l cdv ct) ⟨g,[]⟩=pure (ps.zip g))(ok:∀f fd,il K x x st f fd->gP Pg w K mg base (Av Pg w) (n+1) f fd ps (UJ K cl np (λargs=>enter (run Γ wl n) wl d args))):pM Pg w K mg base cl (n+1) (run Γ wl (n+1)) i x np:=by
 obtain⟨f,fd,a,F⟩:=D.ex;refine⟨f,fd,ps,?_,mg_of X G a,F.kp,F.binds k,j⟩;have e:run Γ wl (n+1) i=λargs=>enter (run Γ wl n) wl d args:=by funext args;show(match Γ i with|some d=>enter (run Γ wl n) wl d args|none=>.stuck)=_;rw[b]
 rw[e,j];exact ok f fd F
end
theorem Od{K:PySem.W.Frag}{C:Addr}(a:PySem.W.nsIn K mainGlobals x=some (some (.ref C)))(q:PySem.W.excIn K C [.type "ValueError",.type "Exception",.type "BaseException",.type "object"] "ValueError.__new__"=true):∃C,uB K x C:=⟨C,a,q⟩
end HH
end
section
namespace L2
open PySem PySem.Spec PyProof.Rows
theorem uG:bootBuiltins "list"=some (.type "list"):=by decide+kernel
end L2
namespace HH
open PySem L2 PySem.Spec PyProof.Rows
section
variable{K:PySem.W.Frag}{x y:Str}{C C2:Addr}{b:Bool}{T:String}
def MK(K:PySem.W.Frag)(x:Str)(C:Addr):Prop:=PySem.W.nsIn K mainGlobals x=some (some (.ref C))
theorem MK.uniq(h:MK K x C)(a:MK K x C2):C=C2:=by have:=h.symm.trans a;cases this;rfl
theorem Zd(a:PySem.W.nsIn K mainGlobals x=some (some (.ref C))):∃C,MK K x C:=⟨C,a⟩
theorem Tg(h:∃C,uB K x C)(n:MK K x C):uB K x C:=by obtain⟨a,z⟩:=h;have e:a=C:=MK.uniq z.nm n;subst e;exact z
end
end HH
end
section
namespace PySem
namespace F
theorem Br:typeLookup (.type "list_reverseiterator") "__len__"=pure none:=by rw[typeLookup_type,builtinLookup_eq_fast];kernel_rfl
theorem Ia:typeLookup (.type "list_reverseiterator") "__length_hint__"=pure (some (.builtin "list_reverseiterator.__length_hint__")):=by rw[typeLookup_type,builtinLookup_eq_fast];kernel_rfl
end F
section
variable{prog:Program}{w:World}{A:Around}{E:Value->Shared->Prop}{s:Shared}
theorem mH{it l:Addr}{items:Array Value}{Q:Bool->Shared->Prop}(e:s.heap.IsRevIter it l ((items.size:Int)-1))(m:s.heap.IsList l items)(i:items.size<=2^24)(h:∀b j,s.toks<=j->Q b {s with toks:=j}):wpAny (model prog w) A (listLengthHint (.ref it)) Q E s:=by
 have f:=e.typeIs;unfold listLengthHint;refine wpAny_bind (wpAny_specialOf f F.Br ?_);show wpAny _ _ (specialOf (Value.ref it) (Str.ofString "__length_hint__")>>=_) _ _ _;refine wpAny_bind (wpAny_specialOf f F.Ia ?_);generalize a:("list_reverseiterator.__length_hint__":String)=c;(fail_if_success(clear a c));wp_delta;rw[show splitId c=some ("list_reverseiterator","__length_hint__")from by subst a;decide+kernel];subst a;refine wpAny_bind (wpAny_isInstance (b:=true) f (by rw[isSubtype_type];kernel_rfl) ?_);rw[if_neg (by decide)];dsimp only;split;.refine wpAny_ite_split (λg=>absurd g (by decide+kernel)) (λ_=>?_);exact wpAny_pure (h _ s.toks (cD))
 .rename_i k;exact absurd (by decide+kernel) k
theorem j7{R:Result->Shared->Prop}{I l:Addr}{items:Array Value}(hh:A.handled=none)(j:s.heap.IsRevIter I l ((items.size:Int)-1))(H:s.heap.IsList l items)(J:l≠I)(u:items.size<=2^24)(S:Addr)(m:S≠I)(x:S≠l)(res:Value)(k:Nat)(L:s.heap.get? S=some {cls:=.type "list",data:=.seq #[] k})(U:∀ h' y a t,(∀ b o,b ≠ S->b ≠ I->s.heap.get? b=some o->h'.get? b=some o)->h'.get? S=some {cls:=.type "list",dict:=none,data:=.seq a t,slots:=#[]}->ItemsOf (λi v=>items[items.size-1-i]?=some v) a items.size->R (.ok (.ret res)) {s with heap:=h',toks:=y}):wpAny (model prog w) A.in1 (listExtendWith (.ref S) (.ref I) res) (λfin n=>match fin with|.done f=>R (.ok f) n|.again t=>t.quiet=true/\codeAny (model prog w) A t R n) (λe n=>R (.error e) n) s:=by
 have M:S∉[I,l]:=λhm=>by
  rcases mem_cons.mp hm with e|hm;.exact m e
  .exact x (mem_singleton.mp hm)
 have W:=(Walks.listRev (prog:=prog) (w:=w) (A:=A.in1) hh I l J items).toS;have X:s.TypeIs (.ref I) "list_reverseiterator":=j.typeIs;have z:∀(h:Heap)(c y:Nat),h.IsRevIter I l ((items.size:Int)-1-((0:Nat):Int))->h.IsList l items->(∀b o,b≠S->s.heap.get? b=some o->h.get? b=some o)->h.get? S=some {cls:=.type "list",data:=.seq #[] c}->codeAny (model prog w) A (.builtin "list.extend.loop" ⟨[.ref S,.ref I,res],[]⟩) R {s with heap:=h,toks:=y}:=by
  intro h c y Y N Z p;refine codeAny_extend_loopS W (by rw[sizeLine_eq];omega) S M res items.size 0 _ #[] c rfl (uI) ⟨uI,Y,N⟩ p (ItemsOf.nil _) λn a t hm O B=>?_;rw[Moved.eq_with hm];refine U n.heap n.toks a t (λb o C Q e=>hm.heap b o (λhmem=>?_) (Z b o C e)) O B;rcases mem_cons.mp hmem with e'|hmem;.exact C e'
  .exact Q (mem_singleton.mp hmem)
 unfold listExtendWith;refine wpAny_bind (wpAny_typeOf X ?_);have h1:listSameRef (.ref S) (.ref I)=false:=by simp[listSameRef,m]
 have h2:(Value.type "list_reverseiterator"==Value.type "list")=false:=by decide
 have h3:(Value.type "list_reverseiterator"==Value.type "tuple")=false:=by decide
 simp only[h1,h2,h3,Bool.or_false,false_eq_true,if_false];refine wpAny_bind (wpAny_pyIter_revIter j ?_);refine wpAny_bind (wpAny_holding (mH j H u λbb y ae=>?_));have G:s.heap.IsRevIter I l ((items.size:Int)-1-((0:Nat):Int)):=by simpa using j
 refine wpAny_ite_split (λ_=>?_) (λ_=>wpAny_pure ⟨plainId_quiet F.plain_extend_loop _,z _ k _ G H (λb o _ e=>e) L⟩);refine wpAny_bind (wpAny_rule ?_);refine wpAny_bind ?_;show wpAny _ _ (updateSeq S (·.push .none)>>=λ_=>updateSeq S (·.pop)) _ _ _;refine wpAny_bind (wpAny_updateSeq L rfl ?_);have g:=get?_update_self (Obj.mapSeq (·.push Value.none)) L rfl;refine wpAny_updateSeq (hz:=by seq_fits) g rfl ?_;have q:=get?_update_self (Obj.mapSeq (·.pop)) g rfl;have r:∀b o,b≠S->s.heap.get? b=some o->((s.heap.update S (Obj.mapSeq (·.push Value.none))).update S (Obj.mapSeq (·.pop))).get? b=some o:=λb o C e=>(get?_update_other _ _ (Ne.symm C)).trans ((get?_update_other _ _ (Ne.symm C)).trans e);exact wpAny_pure ⟨plainId_quiet F.plain_extend_loop _,z _ _ _ (G.at λo e=>r I o (Ne.symm m) e) (H.at λo e=>r l o (Ne.symm x) e) r q⟩
theorem oU{Q:Value->Shared->Prop}{I l:Addr}{items:Array Value}(hh:A.handled=none)(h:s.heap.IsRevIter I l ((items.size:Int)-1))(H:s.heap.IsList l items)(t:l≠I)(j:items.size<=2^24)(J:∀ h' u a x,(∀ b o,b ≠ I->s.heap.get? b=some o->h'.get? b=some o)->h'.get? s.heap.objs.size=some {cls:=.type "list",dict:=none,data:=.seq a x,slots:=#[]}->ItemsOf (λi v=>items[items.size-1-i]?=some v) a items.size->Q (.ref s.heap.objs.size) {s with heap:=h',toks:=u}):wpAny (model prog w) A (call (.type "list") [.ref I]) Q E s:=by
 refine callType_codes (Q₁:=λobj c=>obj=.ref s.heap.objs.size/\c={s with heap:=s.heap.push {cls:=.type "list",data:=.seq #[]}}) F.called_list (F.typeCall_list_1 _) F.entry_list_init (code_list_new _ ⟨rfl,rfl⟩) λobj c k=>?_;obtain⟨rfl,rfl⟩:=k;have m:I<s.heap.objs.size:=let⟨_,ho,_⟩:=h;lt_size ho;have y:l<s.heap.objs.size:=let⟨_,ho,_⟩:=H;lt_size ho;have n:s.heap.objs.size≠I:=Ne.symm (ne_of_lt m);have p:s.heap.objs.size≠l:=Ne.symm (ne_of_lt y);generalize z:s.heap.objs.size=S at*;have r:(s.heap.push {cls:=.type "list",data:=.seq #[]}).get? S=some {cls:=.type "list",data:=.seq #[]}:=by rw[<-z];exact get?_push_size _ rfl
 refine⟨⟨_,r,rfl⟩,F.args_list_init_2 _ _,?_⟩;show wpAny _ _ (do let B<-listItems (.ref S);Builtin.List.listUpdate (.ref S) (λ_=>#[]);letGo B.toList.reverse;listExtendWith (.ref S) (.ref I) .none) _ _ _;refine wpAny_bind ?_;unfold listItems;refine wpAny_bind (wpAny_seqItems r rfl (wpAny_pure ?_));show wpAny _ _ (updateSeq S (λ_=>#[])>>=λ_=>letGo (#[]:Array Value).toList.reverse>>=λ_=>listExtendWith (.ref S) (.ref I) .none) _ _ _;refine wpAny_bind (wpAny_updateSeq r rfl ?_);have f:=get?_update_self (Obj.mapSeq (λ_=>(#[]:Array Value))) r rfl;have g:∀b o,b≠S->s.heap.get? b=some o->((s.heap.push {cls:=.type "list",data:=.seq #[]}).update S (Obj.mapSeq (λ_=>(#[]:Array Value)))).get? b=some o:=λb o C e=>(get?_update_other _ _ (Ne.symm C)).trans (gG e);refine wpAny_bind (wpAny_letGo ?_);refine j7 (A:=A.in1) (items:=items) hh (h.at λo e=>g I o (Ne.symm n) e) (H.at λo e=>g l o (Ne.symm p) e) t j S n p .none _ f λh' u a x L G q=>?_;exact⟨rfl,J h' u a x (λb o C e=>L b o (by rw[<-z];exact ne_of_lt (lt_size e)) C (g b o (by rw[<-z];exact ne_of_lt (lt_size e)) e)) G q⟩
end
end PySem
namespace L2
open PySem PySem.Spec PyProof.Rows
theorem yj:∀{xs:List V}{a:List Value},Vals xs a->Vals xs.reverse a.reverse|_,_,.nil=>.nil|_,_,.cons r b=>by rw[reverse_cons,reverse_cons];exact(yj b).append (.cons r .nil)
section
variable{X:Cx}{pins:List (Addr×Obj)}{σ:St}{H:Hp}{s:Shared}{E:Value->Shared->Prop}
theorem wH{a:Expr}{M:TE}{p pos U i:Pos}(hc:X.calm=true)(v:Gl X "list")(w:X.mg "list"=none)(W:Gl X "reversed")(Y:X.mg "reversed"=none)(Z:PE X a M)(hs:starEach [a] X.env=[(false,eval a X.env)]:=by rfl)(k:starEach [.Call (.Name "reversed" p) [a] [] pos] X.env=[(false,eval (.Call (.Name "reversed" p) [a] [] pos) X.env)]:=by rfl):PE X (.Call (.Name "list" U) [.Call (.Name "reversed" p) [a] [] pos] [] i) (λσ H Q=>M σ H λx f=>∃ad xs,x=.ref ad/\dJ X.K f ad xs/\∀l,f l=none->Q (.ref l) (upd f l (.lst xs.reverse))):=by
 intro pins s σ H Q I h;refine Call_ (iM I v w uG (PyProof.Rows.callWith_type1 ?_ k rfl));rw[k];show wpAny _ _ (spliced ((false,eval (.Call (.Name "reversed" p) [a] [] pos) X.env)::[])) _ _ _;refine Calls.spliced_cons (Call_ (iM I W Y nU (PyProof.Rows.callWith_type1 (cJ ((cH Z fG hs) pos pins s σ H (λvs f=>match vs with|[x]=>∃ad xs,x=.ref ad/\dJ X.K f ad xs/\∀l,f l=none->Q (.ref l) (upd f l (.lst xs.reverse))|_=>False) I h) ?_) hs rfl)));rintro us s1⟨vs,f,t,r1,y⟩;obtain⟨ad,xs,hq,q,z⟩:∃ad xs,dJ X.K f ad xs/\(∀l,f l=none->Q (.ref l) (upd f l (.lst xs.reverse)))/\vs=[.ref ad]:=by cases vs with|nil=>cases y|cons x r=>cases r with|nil=>obtain⟨ad,xs,rfl,q,q'⟩:=y;exact⟨ad,xs,q,q',rfl⟩|cons _ _=>cases y
 subst z;obtain⟨u,rfl,ru⟩:=r1.one;cases ru;obtain⟨c,N,B,hz⟩:=t.list hq;have C:c.toArray.size=xs.length:=by rw[size_toArray,<-N.length]
 refine call_reversed_list B.isList (Calls.spliced_nil ?_);have G:ad≠s1.heap.objs.size:=ne_of_lt (let⟨_,ho,_⟩:=B.isList;lt_size ho);have J:(s1.heap.push (revObj ad ((c.toArray.size:Int)-1))).IsList ad c.toArray:=B.isList.at λo e=>gG e;refine oU (t.ok.hd hc) (I:=s1.heap.objs.size) (l:=ad) (items:=c.toArray) ⟨_,get?_push_size _ rfl,rfl,rfl⟩ J G (by rw[C];exact le_trans hz (by decide)) λh' tk g c' O L m=>?_;have n:(s1.heap.push (revObj ad ((c.toArray.size:Int)-1))).objs.size=s1.heap.objs.size+1:=size_push ..;have ea:g.toList=c.reverse:=by
  obtain⟨h1,h2⟩:=m;apply ext_getElem;.simpa using h1
  . intro j j1 j2;have hj:j<c.length:=by simpa using j2
    have:=h2 j g[j] (Array.getElem?_eq_getElem (by simpa using j1));simp only[size_toArray]at this;have h3:=Array.getElem?_eq_some_iff.mp this;rw[List.getElem_reverse];simpa using h3.2.symm
 dsimp only at L O ⊢;rw[n]at L ⊢;refine⟨.ref (s1.heap.objs.size+1),_,t.laid (t':=tk) (o:=.lst xs.reverse) (h':=h') (λb o e=>O b o (ne_of_lt (lt_size e)) (gG e)) (le_succ _) ?_,rfl,q _ (t.hok.fresh (le_succ _))⟩;exact⟨by simpa using hz,g.toList,c',by rw[ea];exact yj N,by simpa using L⟩
end
end L2
namespace HH
open PySem L2 PySem.Spec PyProof.Rows
section
variable{X:Cx}{c:Call}{a:Expr}{pa:P}{pos:Pos}
theorem xf{x y:Str}{p' o b:Pos}(p:y="list")(q:x="reversed")(hc:X.calm=true)(j:Gl X y)(m:X.mg y=none)(t:Gl X x)(u:X.mg x=none)(w:SX X c a pa)(hs:starEach [a] X.env=[(false,eval a X.env)]:=by rfl)(n:starEach [.Call (.Name x p') [a] [] pos] X.env=[(false,eval (.Call (.Name x p') [a] [] pos) X.env)]:=by rfl):SX X c (.Call (.Name y o) [.Call (.Name x p') [a] [] pos] [] b) (.blt .Io [pa]):=by subst q p;obtain⟨ta,h1,z⟩:=w.gw;refine⟨dZ (wH hc j m t u h1 hs n) ?_,λi h=>by cases h⟩;rintro σ H Q⟨F,ρ,r,B,g,e,k⟩;rw[HH.E17]at e;obtain⟨d,C,G,f⟩:=ak e;have I:=aJ f;clear f;obtain⟨f,J⟩:=I;subst J;cases d with|lst ds=>cases f;refine z g G ?_;rintro v F' H' s L;obtain⟨ad,xs,rfl,M,N⟩:=L.lst s.gs.sub;exact⟨ad,xs,rfl,M,λl O=>Ai s.gs.sub (aD.rev N) O λv U W Y Z=>k v U W (s.trans (Y.stp s.gs)) (.later s (Z.pF s.gs))⟩|_=>cases f
end
end HH
end
section
namespace HH
open PySem
theorem jZ:∀a b:List Int,aW a b=true->aW b a=false
 |[],[],h=>by simp[aW]at h|[],_::_,_=>by simp[aW]|_::_,[],h=>by simp[aW]at h|x::a,y::b,h=>by
   simp only[aW,or_eq_true,decide_eq_true_eq,and_eq_true]at h;simp only[aW,Bool.or_eq_false_iff,decide_eq_false_iff_not,Bool.and_eq_false_iff];rcases h with h|⟨h,h'⟩;.exact⟨by omega,.inl (by omega)⟩
   .exact⟨by omega,.inr (jZ a b h')⟩
theorem vX:∀a b c:List Int,aW b a=false->aW c b=false->aW c a=false
 |[],_,c,_,_=>by cases c<;>simp[aW]|_::_,[],_,h,_=>by simp[aW]at h|_::_,_::_,[],_,h=>by simp[aW]at h|x::a,y::b,z::c,h1,f=>by
   simp only[aW,Bool.or_eq_false_iff,decide_eq_false_iff_not,Bool.and_eq_false_iff]at h1 f ⊢;refine⟨by omega,?_⟩;by_cases e:z=x;.right;exact vX a b c (h1.2.resolve_left (by omega)) (f.2.resolve_left (by omega))
   .exact .inl e
theorem vd:∀a b:List Int,aW a b=false->aW b a=false->a=b
 |[],[],_,_=>rfl|[],_::_,h,_=>by simp[aW]at h|_::_,[],_,h=>by simp[aW]at h|x::a,y::b,h1,c=>by
   simp only[aW,Bool.or_eq_false_iff,decide_eq_false_iff_not,Bool.and_eq_false_iff]at h1 c;have e:x=y:=by omega
   subst e;rw[vd a b (h1.2.resolve_left (by simp)) (c.2.resolve_left (by simp))]
theorem u6:∀{xs ys:List D},xs.all dR=true->ys.all dR=true->xs.map lB=ys.map lB->xs=ys
 |[],[],_,_,_=>rfl|[],_::_,_,_,h=>by simp at h|_::_,[],_,_,h=>by simp at h|x::xs,y::ys,h1,a,h=>by
   simp only[all_cons,and_eq_true]at h1 a;simp only[map_cons,List.cons.injEq]at h;obtain⟨i,rfl⟩:∃i,x=.int i:=by cases x<;>first|exact⟨_,rfl⟩|(have q:=h1.1;simp[dR]at q;done)
   obtain⟨j,rfl⟩:∃j,y=.int j:=by cases y<;>first|exact⟨_,rfl⟩|(have q:=a.1;simp[dR]at q;done)
   rw[u6 h1.2 a.2 h.2,show i=j from h.1]
theorem xU{x y:D}(h:(dR x=true/\dR y=true)\/(nQ x=true/\nQ y=true))(e:bD x=bD y):x=y:=by
 rcases h with⟨h1,a⟩|⟨h1,a⟩
 . cases x<;>first|(simp[dR]at h1;done)|skip
   cases y<;>first|(simp[dR]at a;done)|skip
   simpa[bD]using e
 . cases x<;>first|(simp[nQ]at h1;done)|skip
   cases y<;>first|(simp[nQ]at a;done)|skip
   rename_i xs ys;cases xs<;>first|(simp[nQ]at h1;done)|skip
   cases ys<;>first|(simp[nQ]at a;done)|skip
   rw[u6 h1 a e]
noncomputable def mF(a b:D):Bool:=!aW (bD b) (bD a)
theorem iu(ds:List D):(qz ds).Perm ds:=List.mergeSort_perm ..
theorem Ex(a b c:D)(h1:mF a b=true)(e:mF b c=true):mF a c=true:=by simp only[mF,not_eq_true']at*;exact vX _ _ _ h1 e
theorem Bw(a b:D):(mF a b||mF b a)=true:=by simp only[mF,or_eq_true,not_eq_true'];cases h:aW (bD b) (bD a)with|false=>exact .inl rfl|true=>exact .inr (jZ _ _ h)
theorem oG(ds:List D):(qz ds).Pairwise λa b=>mF a b=true:=List.pairwise_mergeSort Ex Bw ds
theorem qP{ds:List D}(h:sortable ds=true):∀x∈ds,∀y∈ds,bD x=bD y->x=y:=by
 simp only[sortable,and_eq_true,or_eq_true,all_eq_true]at h;intro x a y b e;rcases h.2 with h|h;.exact xU (.inl ⟨h x a,h y b⟩) e
 .exact xU (.inr ⟨h x a,h y b⟩) e
theorem nG{ds l:List D}(h:sortable ds=true)(p:l.Perm ds)(s:l.Pairwise λa b=>mF a b=true):l=qz ds:=by refine List.Perm.eq_of_pairwise (le:=λa b=>mF a b=true) (λa b e f h1 c=>?_) s (oG ds) (p.trans (iu ds).symm);simp only[mF,not_eq_true']at h1 c;exact qP h a (p.mem_iff.mp e) b ((iu ds).mem_iff.mp f) (vd _ _ c h1)
end HH
end
section
namespace HH
open PySem PyProof.Rows
variable{xs a b ys x0:Array Keyed}{i n lo hi j ia ib na nb u:Nat}{k x:Keyed}{st':SortSt}
noncomputable abbrev SM:=StateT SortSt Sem
noncomputable def gal:Bool->Keyed->Array Keyed->Nat->Nat->Nat->SM (Option Nat):=sortPriv%PySem.Builtin.gallop
noncomputable def NQ(l:Bool)(k:Keyed)(xs:Array Keyed)(b i:Nat):SM (Option Bool):=elem' xs (b+i)>>=λx=>if l=true then lt' x k else lt' k x>>=λo=>pure (o.map λx=>!x)
noncomputable def Di(l:Bool)(k:Keyed)(xs:Array Keyed)(b n lo hi:Nat):SM (Option Nat):=(forIn [0:n] ((none,lo,hi):Option (Option Nat)× Nat × Nat) λ_ c=>if c.2.1 ≥ c.2.2 then pure (.done (none,c.2.1,c.2.2))else NQ l k xs b (c.2.1+(c.2.2-c.2.1)/2)>>=λo=>match o with|some m=>if m=true then pure (.yield (none,c.2.1+(c.2.2-c.2.1)/2+1,c.2.2))else pure (.yield (none,c.2.1,c.2.1+(c.2.2-c.2.1)/2))|_=>pure (.done (some none,c.2.1,c.2.2)))>>=λc=>match c.1 with|some r=>pure r|none=>pure (some c.2.2)
theorem Nx(l:Bool)(k:Keyed)(xs:Array Keyed)(b n h:Nat):gal l k xs b n h=NQ l k xs b h>>=λo=>match o with
 |some r=>if r=true then(forIn [0:n] ((none,0,1):Option (Option Nat)× Nat × Nat) λ_ c=>if c.2.2 ≥ n-h then pure (.done (none,c.2.1,c.2.2))else NQ l k xs b (h+c.2.2)>>=λo=>match o with|some m=>if(!m)=true then pure (.done (none,c.2.1,c.2.2))else pure (.yield (none,c.2.2,2*c.2.2+1))|_=>pure (.done (some none,c.2.1,c.2.2)))>>=λc=>match c.1 with|some r=>pure r|none=>Di l k xs b n (h+c.2.1+1) (h+min c.2.2 (n-h))else(forIn [0:n] ((none,0,1):Option (Option Nat)× Nat × Nat) λ_ c=>if c.2.2 ≥ h+1 then pure (.done (none,c.2.1,c.2.2))else NQ l k xs b (h-c.2.2)>>=λo=>match o with|some m=>if m=true then pure (.done (none,c.2.1,c.2.2))else pure (.yield (none,c.2.2,2*c.2.2+1))|_=>pure (.done (some none,c.2.1,c.2.2)))>>=λc=>match c.1 with|some r=>pure r|none=>Di l k xs b n (h+1-min c.2.2 (h+1)) (h-c.2.1)
 |_=>pure none:=by unfold Di;show NQ l k xs b h>>=_=_;congr 1;funext o;cases o with|none=>rfl|some r=>dsimp only;cases r with
   |true=>simp only[if_true];congr 1;funext c;obtain⟨c1,c2,c3⟩:=c;cases c1 with|some r=>rfl|none=>dsimp only;congr 1;funext c;obtain⟨c1,c2,c3⟩:=c;cases c1<;>rfl
   |false=>simp only[false_eq_true,if_false];congr 1;funext c;obtain⟨c1,c2,c3⟩:=c;cases c1 with|some r=>rfl|none=>dsimp only;congr 1;funext c;obtain⟨c1,c2,c3⟩:=c;cases c1<;>rfl
structure Rk(M:Model)(A:Around)(E:Value->Shared->Prop)(s:Shared)(κ:SortKind)(ok:Keyed->Prop)(K:Keyed->Int):Prop where lt:∀{x y:Keyed}{Q:Option Bool->SortSt->Prop}{st:SortSt},ok x->ok y->kindOf st=κ->Q (some (decide (K x<K y))) st->wpS M A E s (lt' x y) Q st
section
variable{M:Model}{A:Around}{E:Value->Shared->Prop}{s:Shared}{κ:SortKind}{ok:Keyed->Prop}{K:Keyed->Int}
noncomputable def it(xs:Array Keyed)(i:Nat):Keyed:=xs.getD i (Value.none,Value.none)
theorem qU(h:i<xs.size):xs[i]?=some (it xs i):=by unfold it;simp[getD,h]
theorem cT(h:i<xs.size):it xs i∈xs.toList:=by
 have:it xs i=xs[i]:=by unfold it;simp[getD,h]
 rw[this];simp
theorem aV{Q:Keyed->SortSt->Prop}{st:SortSt}(h:i<xs.size)(q:Q (it xs i) st):wpS M A E s (elem' xs i) Q st:=by rw[elem'_eq,qU h];exact wpS_pure q
noncomputable def bb(K:Keyed->Int)(l:Bool)(k x:Keyed):Bool:=if l=true then decide (K x<K k)else !decide (K k<K x)
theorem qK(R:Rk M A E s κ ok K){l:Bool}{b:Nat}{Q:Option Bool->SortSt->Prop}{st:SortSt}(c:ok k)(e:∀x∈xs.toList,ok x)(hi:b+i<xs.size)(hs:kindOf st=κ)(q:Q (some (bb K l k (it xs (b+i)))) st):wpS M A E s (NQ l k xs b i) Q st:=by unfold NQ;refine wpS_bind (aV hi ?_);have ho:=e _ (cT hi);cases l with|true=>exact R.lt ho c hs q|false=>exact wpS_bind (R.lt c ho hs (wpS_pure q))
def Ij(K:Keyed->Int)(l:Bool)(k:Keyed)(xs:Array Keyed)(b n:Nat):Prop:=∀i j,i<=j->j<n->bb K l k (it xs (b+j))=true->bb K l k (it xs (b+i))=true
theorem xW(R:Rk M A E s κ ok K){l:Bool}{b:Nat}{Q:Option Nat->SortSt->Prop}{st:SortSt}(h:ok k)(o:∀x∈xs.toList,ok x)(y:b+n<=xs.size)(hs:kindOf st=κ)(hc:Ij K l k xs b n)(h1:lo<=hi)(p:hi<=n)(r:∀i,i<lo->bb K l k (it xs (b+i))=true)(t:∀i,hi<=i->i<n->bb K l k (it xs (b+i))=false)(q:∀m,m<=n->(∀i,i<m->bb K l k (it xs (b+i))=true)->(∀i,m<=i->i<n->bb K l k (it xs (b+i))=false)->Q (some m) st):wpS M A E s (Di l k xs b n lo hi) Q st:=by
 unfold Di;refine wpS_bind (wpS_mono (wpS_forRange (I:=λx c st'=>st'=st/\∃lo hi,c=(none,lo,hi)/\lo<=hi/\hi<=n/\hi-lo<=n-x/\(∀i,i<lo->bb K l k (it xs (b+i))=true)/\∀i,hi<=i->i<n->bb K l k (it xs (b+i))=false) (Q:=λc st'=>st'=st/\∃m,c=(none,m,m)/\m<=n/\(∀i,i<m->bb K l k (it xs (b+i))=true)/\∀i,m<=i->i<n->bb K l k (it xs (b+i))=false) ?_ ?_ ⟨rfl,lo,hi,rfl,h1,p,by omega,r,t⟩) ?_)
 . rintro x c st' _ v⟨rfl,lo,hi,rfl,g,a2,a3,f,a5⟩;dsimp only;by_cases e:lo ≥ hi
   . rw[if_pos e];have:lo=hi:=by omega
     subst this;exact wpS_pure ⟨rfl,lo,rfl,a2,f,a5⟩
   .rw[if_neg e];refine wpS_bind (qK R h o (by omega) hs ?_);cases c:bb K l k (it xs (b+(lo+(hi-lo)/2)))with|true=>dsimp only;rw[if_pos rfl];exact wpS_pure ⟨rfl,_,_,rfl,by omega,a2,by omega,λi w=>hc i (lo+(hi-lo)/2) (by omega) (by omega) c,a5⟩|false=>dsimp only;rw[if_neg (by simp)];refine wpS_pure ⟨rfl,_,_,rfl,by omega,by omega,by omega,f,λi i1 i2=>?_⟩;cases z:bb K l k (it xs (b+i))with|false=>rfl|true=>have:=hc (lo+(hi-lo)/2) i i1 i2 z;rw[c]at this;cases this
 . rintro c st'⟨rfl,lo,hi,rfl,g,a2,a3,f,a5⟩;have:lo=hi:=by omega
   subst this;exact⟨rfl,lo,rfl,a2,f,a5⟩
 .rintro c st'⟨rfl,m,rfl,g,a2,a3⟩;exact wpS_pure (q m g a2 a3)
theorem lA(R:Rk M A E s κ ok K){l:Bool}{b h:Nat}{Q:Option Nat->SortSt->Prop}{st:SortSt}(g:ok k)(p:∀x∈xs.toList,ok x)(y:b+n<=xs.size)(hh:h<n)(hs:kindOf st=κ)(hc:Ij K l k xs b n)(q:∀m,m<=n->(∀i,i<m->bb K l k (it xs (b+i))=true)->(∀i,m<=i->i<n->bb K l k (it xs (b+i))=false)->Q (some m) st):wpS M A E s (gal l k xs b n h) Q st:=by
 have B:∀{i:Nat},i<n->bb K l k (it xs (b+i))=true->∀j,j<=i->bb K l k (it xs (b+j))=true:=λhi c j G=>hc _ _ G hi c;have C:∀{i:Nat},bb K l k (it xs (b+i))=false->∀j,i<=j->j<n->bb K l k (it xs (b+j))=false:=λ{i}c j h1 r=>by cases z:bb K l k (it xs (b+j))with|false=>rfl|true=>have:=hc i j h1 r z;rw[c]at this;cases this
 rw[Nx];refine wpS_bind (qK R g p (by omega) hs ?_);cases c0:bb K l k (it xs (b+h))with
 |true=>
   dsimp only;rw[if_pos rfl];refine wpS_bind (wpS_mono (wpS_forRange (I:=λx c st'=>st'=st/\∃a o,c=(none,a,o)/\x+1<=o/\a<o/\h+a<n/\bb K l k (it xs (b+(h+a)))=true) (Q:=λc st'=>st'=st/\∃a o,c=(none,a,o)/\a<o/\h+a<n/\bb K l k (it xs (b+(h+a)))=true/\(n-h<=o\/o<n-h/\bb K l k (it xs (b+(h+o)))=false)) ?_ ?_ ⟨rfl,0,1,rfl,by omega,by omega,by omega,by simpa using c0⟩) ?_)
   . rintro x c st' _ t⟨rfl,a,o,rfl,v,a2,a3,f⟩;dsimp only;by_cases e:o ≥ n-h;.rw[if_pos e];exact wpS_pure ⟨rfl,a,o,rfl,a2,a3,f,.inl e⟩
     .rw[if_neg e];refine wpS_bind (qK R g p (by omega) hs ?_);cases c:bb K l k (it xs (b+(h+o)))with|true=>dsimp only;rw[if_neg (by simp)];exact wpS_pure ⟨rfl,_,_,rfl,by omega,by omega,by omega,c⟩|false=>dsimp only;rw[if_pos (by simp)];exact wpS_pure ⟨rfl,a,o,rfl,a2,a3,f,.inr ⟨by omega,c⟩⟩
   .rintro c st'⟨rfl,a,o,rfl,v,a2,a3,f⟩;exact⟨rfl,a,o,rfl,a2,a3,f,.inl (by omega)⟩
   . rintro c st'⟨rfl,a,o,rfl,a2,a3,f,a5⟩;dsimp only;refine xW R g p y hs hc (by omega) (by omega) (λi hi=>B a3 f i (by omega)) (λi h1 r=>?_) q;rcases a5 with z|⟨H,w⟩;.omega
     .exact C w i (by omega) r|false=>
   dsimp only;rw[if_neg (by simp)];refine wpS_bind (wpS_mono (wpS_forRange (I:=λx c st'=>st'=st/\∃a o,c=(none,a,o)/\x+1<=o/\a<o/\a<=h/\bb K l k (it xs (b+(h-a)))=false) (Q:=λc st'=>st'=st/\∃a o,c=(none,a,o)/\a<o/\a<=h/\bb K l k (it xs (b+(h-a)))=false/\(h+1<=o\/o<h+1/\bb K l k (it xs (b+(h-o)))=true)) ?_ ?_ ⟨rfl,0,1,rfl,by omega,by omega,by omega,by simpa using c0⟩) ?_)
   . rintro x c st' _ t⟨rfl,a,o,rfl,v,a2,a3,f⟩;dsimp only;by_cases e:o ≥ h+1;.rw[if_pos e];exact wpS_pure ⟨rfl,a,o,rfl,a2,a3,f,.inl e⟩
     .rw[if_neg e];refine wpS_bind (qK R g p (by omega) hs ?_);cases c:bb K l k (it xs (b+(h-o)))with|false=>dsimp only;rw[if_neg (by simp)];exact wpS_pure ⟨rfl,_,_,rfl,by omega,by omega,by omega,c⟩|true=>dsimp only;rw[if_pos rfl];exact wpS_pure ⟨rfl,a,o,rfl,a2,a3,f,.inr ⟨by omega,c⟩⟩
   .rintro c st'⟨rfl,a,o,rfl,v,a2,a3,f⟩;exact⟨rfl,a,o,rfl,a2,a3,f,.inl (by omega)⟩
   . rintro c st'⟨rfl,a,o,rfl,a2,a3,f,a5⟩;dsimp only;refine xW R g p y hs hc (by omega) (by omega) (λi hi=>?_) (λi h1 r=>C f i (by omega) r) q;rcases a5 with z|⟨H,w⟩;.omega
     .exact B (by omega) w i (by omega)
end
section
variable{K:Keyed->Int}{T out A B P:List Keyed}{x y z:Keyed}
def SL(K:Keyed->Int)(l:List Keyed):Prop:=l.Pairwise λx y=>K x<=K y
theorem bZ{l k:List Keyed}:SL K (l++k)↔SL K l/\SL K k/\∀x∈l,∀y∈k,K x<=K y:=List.pairwise_append
structure MW(K:Keyed->Int)(T out A B:List Keyed):Prop where
 perm:(out++(A++B)).Perm T
 sa:SL K (out++A)sb:SL K (out++B)
theorem MW.Ur(w:MW K T out (P++A) B)(h:∀x∈P,∀y∈B,K x<=K y):MW K T (out++P) A B:=by
 refine⟨by simpa using w.perm,by simpa using w.sa,?_⟩;have h1:=bZ.mp w.sb;have e:=bZ.mp (show SL K ((out++P)++A)by simpa using w.sa);refine bZ.mpr ⟨e.1,h1.2.1,λx hx y c=>?_⟩;rcases mem_append.mp hx with hx|hx;.exact h1.2.2 x hx y c
 .exact h x hx y c
theorem MW.RL(w:MW K T out A (P++B))(h:∀x∈P,∀y∈A,K x<=K y):MW K T (out++P) A B:=by
 have h1:=bZ.mp w.sa;have e:=bZ.mp (show SL K ((out++P)++B)by simpa using w.sb);refine⟨?_,bZ.mpr ⟨e.1,h1.2.1,λx hx y c=>?_⟩,by simpa using w.sb⟩;.refine List.Perm.trans ?_ w.perm;rw[append_assoc];refine List.Perm.append_left out ?_;rw[<-append_assoc,<-append_assoc];exact List.perm_append_comm.append_right B
 . rcases mem_append.mp hx with hx|hx;.exact h1.2.2 x hx y c
   .exact h x hx y c
theorem MW.YX(w:MW K T out A []):(out++A).Perm T/\SL K (out++A):=⟨by simpa using w.perm,w.sa⟩
theorem MW.Z2(w:MW K T out [] B):(out++B).Perm T/\SL K (out++B):=⟨by simpa using w.perm,w.sb⟩
theorem MW.last(w:MW K T out [z] B)(h:∀y∈B,K y<=K z):(out++B++[z]).Perm T/\SL K (out++B++[z]):=by
 refine⟨?_,bZ.mpr ⟨w.sb,List.pairwise_singleton _ _,λx hx y c=>?_⟩⟩;.refine List.Perm.trans ?_ w.perm;rw[append_assoc];exact List.Perm.append_left out List.perm_append_comm
 . rw[mem_singleton.mp c];rcases mem_append.mp hx with hx|hx;.exact(bZ.mp w.sa).2.2 x hx z (by simp)
   .exact h x hx
theorem rG(h:i<a.size):a.toList.drop i=it a i::a.toList.drop (i+1):=by
 have e:it a i=a.toList[i]:=by unfold it;simp[getD,h]
 rw[e];exact drop_eq_getElem_cons (by simpa using h)
theorem iK(h:j<=a.size):(a.extract i j).toList=(a.toList.drop i).take (j-i):=by simp[Array.toList_extract,List.extract]
theorem jh:(a.extract i a.size).toList=a.toList.drop i:=by rw[iK (cD)];exact take_of_length_le (by simp)
theorem jw{k:Nat}(h:i+k<=a.size):a.toList.drop i=(a.extract i (i+k)).toList++a.toList.drop (i+k):=by rw[iK h,Nat.add_sub_cancel_left];rw[show a.toList.drop (i+k)=(a.toList.drop i).drop k by rw[List.drop_drop]];exact(List.take_append_drop k _).symm
theorem ext_mem{k:Nat}(h:i+k<=a.size)(c:x∈(a.extract i (i+k)).toList):∃j,j<k/\x=it a (i+j):=by rw[iK h,Nat.add_sub_cancel_left]at c;obtain⟨j,f,e⟩:=List.mem_iff_getElem.mp c;simp only[length_take,length_drop,length_toList]at f;refine⟨j,by omega,?_⟩;rw[<-e];unfold it;simp[getD,show i+j<a.size by omega]
theorem iT(c:x∈a.toList.drop i):∃j,i<=j/\j<a.size/\x=it a j:=by obtain⟨j,f,e⟩:=List.mem_iff_getElem.mp c;simp only[length_drop,length_toList]at f;refine⟨i+j,by omega,by omega,?_⟩;rw[<-e];unfold it;simp[getD,show i+j<a.size by omega]
def sX(K:Keyed->Int)(a:Array Keyed):Prop:=∀i j,i<=j->j<a.size->K (it a i)<=K (it a j)
theorem oR(h:sX K a):SL K a.toList:=by
 unfold SL;rw[List.pairwise_iff_getElem];intro i j hi f g;have:=h i j (by omega) (by simpa using f);have c:i<a.size:=by simpa using hi
 have e:j<a.size:=by simpa using f
 unfold it at this;simpa[getD,c,e]using this
end
section
variable{M:Model}{A:Around}{E:Value->Shared->Prop}{s:Shared}{κ:SortKind}{ok:Keyed->Prop}{K:Keyed->Int}
structure pq(st st':SortSt):Prop where
 kind:kindOf st'=kindOf st
 arr:arrOf st'=arrOf st
 pend:pendingOf st'=pendingOf st
 fail:failedOf st'=failedOf st
theorem pq.refl(st:SortSt):pq st st:=⟨rfl,rfl,rfl,rfl⟩
theorem pq.trans{a b c:SortSt}(h:pq a b)(k:pq b c):pq a c:=⟨k.kind.trans h.kind,k.arr.trans h.arr,k.pend.trans h.pend,k.fail.trans h.fail⟩
noncomputable def setG:Nat->SM Unit:=sortPriv%PySem.Builtin.setMinGallop
theorem m9{g:Nat}{Q:Unit->SortSt->Prop}{st:SortSt}(q:∀st',pq st st'->Q () st'):wpS M A E s (setG g) Q st:=wpS_modify (q _ ⟨rfl,rfl,rfl,rfl⟩)
theorem wp_rule{x:String}{Q:Unit->SortSt->Prop}{st:SortSt}(q:Q () st):wpS M A E s (liftM (rule x):SM Unit) Q st:=wpS_lift (wpAny_rule ⟨rfl,q⟩)
noncomputable def mlo:Array Keyed->Array Keyed->SM (Array Keyed):=sortPriv%PySem.Builtin.mergeLo
structure MI(K:Keyed->Int)(a b out:Array Keyed)(ia ib:Nat):Prop where
 i1:ia+1<a.size
 i2:ib<b.size
 w:MW K (a.toList++b.toList) out.toList (a.toList.drop ia) (b.toList.drop ib)
structure Fin(K:Keyed->Int)(a b out:Array Keyed):Prop where perm:out.toList.Perm (a.toList++b.toList)qz:SL K out.toList
theorem jb{c:Array Keyed}(h:ib=b.size)(w:MW K (a.toList++b.toList) c.toList (a.toList.drop ia) (b.toList.drop ib)):Fin K a b (c++a.extract ia a.size++b.extract ib b.size):=by
 have e:b.toList.drop ib=[]:=by rw[h];simp
 rw[e]at w;obtain⟨h1,f⟩:=w.YX;refine⟨?_,?_⟩<;>rw[Array.toList_append,Array.toList_append,jh,jh,e,append_nil]<;>assumption
theorem zF{c:Array Keyed}(h:ia=a.size)(w:MW K (a.toList++b.toList) c.toList (a.toList.drop ia) (b.toList.drop ib)):Fin K a b (c++a.extract ia a.size++b.extract ib b.size):=by
 have e:a.toList.drop ia=[]:=by rw[h];simp
 rw[e]at w;obtain⟨h1,f⟩:=w.Z2;refine⟨?_,?_⟩<;>rw[Array.toList_append,Array.toList_append,jh,jh,e,append_nil]<;>assumption
theorem kI{c:Array Keyed}(h:ia+1=a.size)(f:∀i,i<b.size->K (it b i)<=K (it a (a.size-1)))(w:MW K (a.toList++b.toList) c.toList (a.toList.drop ia) (b.toList.drop ib)):Fin K a b (c++b.extract ib b.size++a.extract ia a.size):=by
 have e:a.toList.drop ia=[it a ia]:=by rw[rG (by omega),h];simp
 rw[e]at w;obtain⟨h1,m⟩:=w.last λy g=>by obtain⟨j,_,l,rfl⟩:=iT g;rw[show ia=a.size-1 by omega];exact f j l
 refine⟨?_,?_⟩<;>rw[Array.toList_append,Array.toList_append,jh,jh,e]<;>assumption
theorem MW.pR{c:Array Keyed}(h:ia<a.size)(w:MW K (a.toList++b.toList) c.toList (a.toList.drop ia) (b.toList.drop ib))(e:sX K b)(f:ib<b.size->K (it a ia)<=K (it b ib)):MW K (a.toList++b.toList) (c.push (it a ia)).toList (a.toList.drop (ia+1)) (b.toList.drop ib):=by rw[rG h]at w;rw[toList_push];refine MW.Ur (P:=[it a ia]) w λx g y l=>?_;rw[mem_singleton.mp g];obtain⟨j,m,o,rfl⟩:=iT l;exact Int.le_trans (f (by omega)) (e _ _ m o)
theorem MW.pQ{c:Array Keyed}(h:ib<b.size)(w:MW K (a.toList++b.toList) c.toList (a.toList.drop ia) (b.toList.drop ib))(e:sX K a)(f:ia<a.size->K (it b ib)<=K (it a ia)):MW K (a.toList++b.toList) (c.push (it b ib)).toList (a.toList.drop ia) (b.toList.drop (ib+1)):=by rw[rG h]at w;rw[toList_push];refine MW.RL (P:=[it b ib]) w λx g y l=>?_;rw[mem_singleton.mp g];obtain⟨j,m,o,rfl⟩:=iT l;exact Int.le_trans (f (by omega)) (e _ _ m o)
theorem MW.BX{c:Array Keyed}{k:Nat}(h:ia+k<=a.size)(w:MW K (a.toList++b.toList) c.toList (a.toList.drop ia) (b.toList.drop ib))(e:sX K b)(f:∀j,j<k->ib<b.size->K (it a (ia+j))<=K (it b ib)):MW K (a.toList++b.toList) (c++a.extract ia (ia+k)).toList (a.toList.drop (ia+k)) (b.toList.drop ib):=by rw[jw h]at w;rw[Array.toList_append];refine MW.Ur w λx g y l=>?_;obtain⟨i,hi,rfl⟩:=ext_mem h g;obtain⟨j,m,o,rfl⟩:=iT l;exact Int.le_trans (f i hi (by omega)) (e _ _ m o)
theorem MW.Bx{c:Array Keyed}{k:Nat}(h:ib+k<=b.size)(w:MW K (a.toList++b.toList) c.toList (a.toList.drop ia) (b.toList.drop ib))(e:sX K a)(f:∀j,j<k->ia<a.size->K (it b (ib+j))<=K (it a ia)):MW K (a.toList++b.toList) (c++b.extract ib (ib+k)).toList (a.toList.drop ia) (b.toList.drop (ib+k)):=by rw[jw h]at w;rw[Array.toList_append];refine MW.RL w λx g y l=>?_;obtain⟨i,hi,rfl⟩:=ext_mem h g;obtain⟨j,m,o,rfl⟩:=iT l;exact Int.le_trans (f i hi (by omega)) (e _ _ m o)
theorem qR{l:Bool}{b:Nat}(h:sX K a)(f:b+n<=a.size):Ij K l k a b n:=λi j e g c=>by have:=h (b+i) (b+j) (by omega) (by omega);unfold bb at*;cases l with|true=>simp only[if_true,decide_eq_true_eq]at*;omega|false=>simp only[false_eq_true,if_false,not_eq_true',decide_eq_false_iff_not]at*;omega
end
section
variable{M:Model}{A:Around}{E:Value->Shared->Prop}{s:Shared}{κ:SortKind}{ok:Keyed->Prop}{K:Keyed->Int}
theorem Df{e f:Type}{T:PUnit->e->SM f}{c:Prop}{d:Decidable c}{x y:e}{Q:f->SortSt->Prop}{st:SortSt}(h:∀r u,wpS M A E s (T r u) Q st):wpS M A E s (@ite _ c d (T ⟨⟩ x) (T ⟨⟩ y)) Q st:=by split<;>exact h _ _
theorem m6{e f g:Type}{T:PUnit->e->f->SM g}{c:Prop}{d:Decidable c}{B:SM g}{x:e}{y:f}{Q:g->SortSt->Prop}{st:SortSt}(C:e->f->Prop)(h:∀r u v,C u v->wpS M A E s (T r u v) Q st)(l:c->(∀r u v,C u v->wpS M A E s (T r u v) Q st)->wpS M A E s B Q st)(m:¬ c->C x y):wpS M A E s (@ite _ c d B (T ⟨⟩ x y)) Q st:=by
 split;.exact l ‹_› h
 .exact h _ _ _ (m ‹_›)
abbrev MQ{f:Type}(K:Keyed->Int)(a b:Array Keyed)(st:SortSt)(c:Option (Array Keyed)×f)(st':SortSt):Prop:=pq st st'/\∃e,c.1=some e/\Fin K a b e
abbrev MI1(K:Keyed->Int)(a b:Array Keyed)(st:SortSt)(x:Nat)(c:Option (Array Keyed)×Array Keyed×Nat×Nat×Nat)(st':SortSt):Prop:=pq st st'/\∃e ia ib mg,c=(none,e,ia,ib,mg)/\MI K a b e ia ib/\x+1<=ia+ib
abbrev MI2(K:Keyed->Int)(a b:Array Keyed)(st:SortSt)(n y:Nat)(c:Option (Array Keyed)×Array Keyed×Nat×Nat×Nat×Nat)(st':SortSt):Prop:=pq st st'/\∃e f g h l,c=(none,e,f,g,h,l)/\MI K a b e f g/\n+y<=f+g
abbrev MI3(K:Keyed->Int)(a b:Array Keyed)(st:SortSt)(n:Nat)(c:Option (Array Keyed)×Array Keyed×Nat×Nat×Nat×Nat×Nat)(st':SortSt):Prop:=pq st st'/\∃e f g mg h l,c=(none,e,f,g,mg,h,l)/\MI K a b e f g/\n+1<=f+g
abbrev MQ2(K:Keyed->Int)(a b:Array Keyed)(st:SortSt)(n:Nat)(c:Option (Array Keyed)×Array Keyed×Nat×Nat×Nat×Nat)(st':SortSt):Prop:=pq st st'/\((∃e,c.1=some e/\Fin K a b e)\/∃e f g h l,c=(none,e,f,g,h,l)/\MI K a b e f g/\n+1<=f+g)
abbrev MQ3(K:Keyed->Int)(a b:Array Keyed)(st:SortSt)(n:Nat)(c:Option (Array Keyed)×Array Keyed×Nat×Nat×Nat×Nat×Nat)(st':SortSt):Prop:=pq st st'/\((∃e,c.1=some e/\Fin K a b e)\/∃e f g mg h l,c=(none,e,f,g,mg,h,l)/\MI K a b e f g/\n+1<=f+g)
set_option maxHeartbeats 1000000 in
theorem NZ(R:Rk M A E s κ ok K){Q:Array Keyed->SortSt->Prop}{st:SortSt}(W:∀x∈a.toList,ok x)(X:∀x∈b.toList,ok x)(hs:kindOf st=κ)(z:sX K a)(H:sX K b)(a1:1<=a.size)(b1:1<=b.size)(h0:K (it b 0)<=K (it a 0))(N:∀i,i<b.size->K (it b i)<=K (it a (a.size-1)))(q:∀f st',Fin K a b f->pq st st'->Q f st'):wpS M A E s (mlo a b) Q st:=by
 show wpS M A E s (liftM (rule "list.sort.merge-lo")>>=_) Q st;refine wpS_bind (wp_rule ?_);extract_lets+onlyGivenNames-merge-underBinder x0 x1 x2;refine wpS_bind (aV (by omega) ?_);extract_lets+onlyGivenNames-merge-underBinder x3 x4 x5;dsimp-zeta-zetaHave only[x0,x1,x2,x3,x4,x5];have w0:MW K (a.toList++b.toList) (#[]:Array Keyed).toList (a.toList.drop 0) (b.toList.drop 0):=⟨by simp,by simpa using oR z,by simpa using oR H⟩;have O:=w0.pQ (by omega) z (λ_=>h0);rw[show(#[]:Array Keyed).push (it b 0)=#[it b 0]from rfl]at O;by_cases c1:1=b.size;.rw[if_pos (by simpa using c1)];exact wpS_pure (q _ _ (jb c1 O) (.refl _))
 rw[if_neg (by simpa using c1)];by_cases c2:0+1=a.size;.rw[if_pos (by simpa using c2)];exact wpS_pure (q _ _ (kI c2 N O) (.refl _))
 rw[if_neg (by simpa using c2)];refine wpS_bind (wpS_get ?_);extract_lets+onlyGivenNames-merge-underBinder x6;refine wpS_bind (wpS_mono (wpS_forRange (I:=MI1 K a b st) (Q:=MQ K a b st) ?_ ?_ ⟨.refl _,_,0,1,_,rfl,⟨by omega,by omega,O⟩,by omega⟩) ?_)
 . rintro x c st1 _ hx⟨s1,f,ia,ib,mg,rfl,h,hp⟩;extract_lets+onlyGivenNames-merge-underBinder y0 y1 y2 y3 y4 y5 y6 y7 y8;dsimp-zeta-zetaHave only[x0,x1,x2,x3,x4,x5,y0,y1,y2,y3,y4,y5,y6,y7,y8];refine wpS_bind (wpS_mono (wpS_forRange (I:=MI2 K a b st (ia+ib)) (Q:=MQ2 K a b st (ia+ib)) ?_ ?_ ⟨s1,f,ia,ib,0,0,rfl,h,by omega⟩) ?_)
   . rintro y c st2 _ hy⟨s2,f,l,g,B,C,rfl,h,o⟩;have i1:=h.i1;have i2:=h.i2;try dsimp only
     refine wpS_bind (aV i2 (wpS_bind (aV (by omega) (wpS_bind (R.lt (X _ (cT i2)) (W _ (cT (by omega))) (s2.kind.trans hs) ?_)))));by_cases c:K (it b g)<K (it a l)
     . rw[decide_eq_true c];try dsimp only
       rw[if_pos rfl];refine wpS_bind (aV i2 ?_);try dsimp only
       have w:=h.w.pQ i2 z (λ_=>by omega);by_cases e:g+1=b.size;.rw[if_pos (by simpa using e)];exact wpS_pure ⟨s2,.inl ⟨_,rfl,jb e w⟩⟩
       . rw[if_neg (by simpa using e)];have r:MI K a b (f.push (it b g)) l (g+1):=⟨i1,by omega,w⟩;split;.exact wpS_pure ⟨s2,.inr ⟨_,_,_,_,_,rfl,r,by omega⟩⟩
         .exact wpS_pure ⟨s2,_,_,_,_,_,rfl,r,by omega⟩
     . rw[decide_eq_false c];try dsimp only
       rw[if_neg (by simp)];refine wpS_bind (aV (by omega) ?_);try dsimp only
       have w:=h.w.pR (by omega) H (λ_=>by omega);by_cases e:l+1+1=a.size;.rw[if_pos (by simpa using e)];exact wpS_pure ⟨s2,.inl ⟨_,rfl,kI e N w⟩⟩
       . rw[if_neg (by simpa using e)];have r:MI K a b (f.push (it a l)) (l+1) g:=⟨by omega,i2,w⟩;split;.exact wpS_pure ⟨s2,.inr ⟨_,_,_,_,_,rfl,r,by omega⟩⟩
         .exact wpS_pure ⟨s2,_,_,_,_,_,rfl,r,by omega⟩
   .rintro c st2⟨s2,f,l,g,B,C,rfl,h,o⟩;exact⟨s2,.inr ⟨_,_,_,_,_,rfl,h,by omega⟩⟩
   . rintro c st2⟨s2,⟨f,hc,J⟩|⟨f,l,g,B,C,rfl,h,o⟩⟩;.obtain⟨c1,c2,c3,c4,c5,c6⟩:=c;cases hc;exact wpS_pure ⟨s2,f,rfl,J⟩
     . extract_lets+onlyGivenNames-merge-underBinder z0 z1 z2 z3 z4 z5 z6 z7 z8 z9;dsimp-zeta-zetaHave only[z0,z1,z2,z3,z4,z5,z6,z7,z8,z9];refine wpS_bind (wp_rule ?_);extract_lets+onlyGivenNames-merge-underBinder za;refine wpS_bind (wpS_mono (wpS_forRange (I:=λ_=>MI3 K a b st (ia+ib)) (Q:=MQ3 K a b st (ia+ib)) ?_ ?_ ⟨s2,f,l,g,_,B,C,rfl,h,by omega⟩) ?_)
       . rintro y c st3 _ hy⟨s3,f,l,g,mg,B,C,rfl,h,o⟩;have i1:=h.i1;have i2:=h.i2;extract_lets+onlyGivenNames-merge-underBinder t0 t1 t2 t3 t4 t5 t6 t7 t8 t9 ta jp;dsimp only[t0,t1,t2,t3,t4,t5,t6,t7,t8,t9,ta];refine Df (T:=jp) ?_;intro _ mg;dsimp-zeta-zetaHave only[jp,t0,t1,t2,t3,t4,t5,t6,t7,t8,t9,ta];refine wpS_bind (m9 λEt Y=>?_);have s4:=s3.trans Y;refine wpS_bind (aV i2 ?_);refine wpS_bind (lA R (X _ (cT i2)) W (by omega) (by omega) (s4.kind.trans hs) (qR z (by omega)) λk k1 k2 k3=>?_);have Z:∀j,j<k->K (it a (l+j))<=K (it b g):=λj t=>by have:=k2 j t;simp[bb]at this;omega
         have J3:∀j,k<=j->j<a.size-l->K (it b g)<=K (it a (l+j)):=λj h1 h2=>by have:=k3 j h1 h2;simp[bb]at this;omega
         try dsimp-zeta-zetaHave only
         extract_lets+onlyGivenNames-merge-underBinder u0 jp2;dsimp only[u0];refine m6 (T:=jp2) (x:=f) (y:=l) (λxH p=>(l<=p/\p+1<a.size)/\MW K (a.toList++b.toList) xH.toList (a.toList.drop p) (b.toList.drop g)/\K (it b g)<=K (it a p)) ?_ (λc v=>?_) (λc=>⟨⟨cD,i1⟩,h.w,J3 0 (by omega) (by omega)⟩)
         . rintro _ xH p⟨⟨j0,j1⟩,w,k4⟩;dsimp-zeta-zetaHave only[jp2,u0];refine wpS_bind (aV i2 ?_);have w2:=w.pQ i2 z λ_=>k4;extract_lets+onlyGivenNames-merge-underBinder v0 v1;dsimp-zeta-zetaHave only[v0,v1];by_cases e3:g+1=b.size;.rw[if_pos (by simpa using e3)];exact wpS_pure ⟨s4,.inl ⟨_,rfl,jb e3 w2⟩⟩
           rw[if_neg (by simpa using e3)];have j3:g+1<b.size:=by omega
           refine wpS_bind (aV (by omega) ?_);refine wpS_bind (lA R (W _ (cT (by omega))) X (by omega) (by omega) (s4.kind.trans hs) (qR H (by omega)) λm m1 m2 m3=>?_);have ae:∀j,j<m->K (it b (g+1+j))<=K (it a p):=λj t=>by have:=m2 j t;simp[bb]at this;omega
           have L:∀j,m<=j->j<b.size-(g+1)->K (it a p)<=K (it b (g+1+j)):=λj h1 h2=>by have:=m3 j h1 h2;simp[bb]at this;omega
           try dsimp-zeta-zetaHave only
           extract_lets+onlyGivenNames-merge-underBinder v2 Vl;dsimp only[v2];refine m6 (T:=Vl) (x:=xH.push (it b g)) (y:=g+1) (λxJ G=>(g+1<=G/\G<b.size)/\MW K (a.toList++b.toList) xJ.toList (a.toList.drop p) (b.toList.drop G)/\K (it a p)<=K (it b G)) ?_ (λc v=>?_) (λc=>⟨⟨cD,j3⟩,w2,L 0 (by omega) (by omega)⟩)
           . rintro _ xJ G⟨⟨j4,j2⟩,U,m4⟩;dsimp only[Vl,v2];refine wpS_bind (aV (by omega) ?_);have w4:=U.pR (by omega) H λ_=>m4;try dsimp only
             by_cases e5:p+1+1=a.size;.rw[if_pos (by simpa using e5)];exact wpS_pure ⟨s4,.inl ⟨_,rfl,kI e5 N w4⟩⟩
             rw[if_neg (by simpa using e5)];have r:MI K a b (xJ.push (it a p)) (p+1) G:=⟨by omega,j2,w4⟩;split;.exact wpS_pure ⟨s4,.inr ⟨_,_,_,_,_,_,rfl,r,by omega⟩⟩
             .exact wpS_pure ⟨s4,_,_,_,_,_,_,rfl,r,by omega⟩
           . have U:=w2.Bx (k:=m) (by omega) z λj t _=>ae j t;by_cases e4:g+1+m=b.size;.rw[if_pos (by simpa using e4)];exact wpS_pure ⟨s4,.inl ⟨_,rfl,jb e4 U⟩⟩
             rw[if_neg (by simpa using e4)];exact v ⟨⟩ _ _ ⟨⟨by omega,by omega⟩,U,L m (cD) (by omega)⟩
         . have w:=h.w.BX (k:=k) (by omega) H λj t _=>Z j t;by_cases e1:l+k+1=a.size;.rw[if_pos (by simpa using e1)];exact wpS_pure ⟨s4,.inl ⟨_,rfl,kI e1 N w⟩⟩
           rw[if_neg (by simpa using e1)];by_cases e2:l+k=a.size;.rw[if_pos (by simpa using e2)];exact wpS_pure ⟨s4,.inl ⟨_,rfl,zF e2 w⟩⟩
           rw[if_neg (by simpa using e2)];exact v ⟨⟩ _ _ ⟨⟨by omega,by omega⟩,w,J3 k (cD) (by omega)⟩
       .rintro c st3⟨s3,f,l,g,mg,B,C,rfl,h,o⟩;exact⟨s3,.inr ⟨_,_,_,_,_,_,rfl,h,o⟩⟩
       . rintro c st3⟨s3,⟨f,hc,J⟩|⟨f,l,g,mg,B,C,rfl,h,o⟩⟩;.obtain⟨c1,c2,c3,c4,c5,c6,c7⟩:=c;cases hc;exact wpS_pure ⟨s3,f,rfl,J⟩
         . try dsimp only
           exact wpS_bind (m9 λEt Y=>wpS_pure ⟨s3.trans Y,_,_,_,_,rfl,h,by omega⟩)
 .rintro c st1⟨s1,f,ia,ib,mg,rfl,h,hp⟩;have:=h.i1;have:=h.i2;omega
 .rintro c st1⟨s1,f,hc,J⟩;obtain⟨c1,c2,c3,c4,c5⟩:=c;cases hc;exact wpS_pure (q _ _ J s1)
end
section
variable{K:Keyed->Int}{T A B S P:List Keyed}{z:Keyed}
structure MH(K:Keyed->Int)(T A B S:List Keyed):Prop where
 perm:(A++(B++S)).Perm T
 sa:SL K (A++S)sb:SL K (B++S)
theorem MH.Ur(w:MH K T (A++P) B S)(h:∀x∈P,∀y∈B,K y<=K x):MH K T A B (P++S):=by
 have h1:=bZ.mp w.sb;have e:=bZ.mp (show SL K (A++(P++S))by simpa using w.sa);refine⟨?_,by simpa using w.sa,bZ.mpr ⟨h1.1,e.2.1,λx c y hy=>?_⟩⟩;.refine List.Perm.trans ?_ w.perm;rw[append_assoc];refine List.Perm.append_left A ?_;rw[<-append_assoc,<-append_assoc];exact List.perm_append_comm.append_right S
 . rcases mem_append.mp hy with hy|hy;.exact h y hy x c
   .exact h1.2.2 x c y hy
theorem MH.RL(w:MH K T A (B++P) S)(h:∀x∈P,∀y∈A,K y<=K x):MH K T A B (P++S):=by
 have h1:=bZ.mp w.sa;have e:=bZ.mp (show SL K (B++(P++S))by simpa using w.sb);refine⟨by simpa using w.perm,bZ.mpr ⟨h1.1,e.2.1,λx c y hy=>?_⟩,by simpa using w.sb⟩;rcases mem_append.mp hy with hy|hy;.exact h y hy x c
 .exact h1.2.2 x c y hy
theorem MH.first(w:MH K T A [z] S)(h:∀x∈A,K z<=K x):([z]++A++S).Perm T/\SL K ([z]++A++S):=by
 refine⟨?_,?_⟩;.refine List.Perm.trans ?_ w.perm;rw[<-append_assoc];exact List.perm_append_comm.append_right S
 . rw[append_assoc];refine bZ.mpr ⟨List.pairwise_singleton _ _,w.sa,λx c y hy=>?_⟩;rw[mem_singleton.mp c];rcases mem_append.mp hy with hy|hy;.exact h y hy
   .exact(bZ.mp w.sb).2.2 z (by simp) y hy
theorem fU(h:n<=a.size):(a.extract 0 n).toList=a.toList.take n:=by rw[iK h];simp
theorem gO(hi:i<=n)(h:n<=a.size):a.toList.take n=a.toList.take i++(a.extract i n).toList:=by
 rw[iK h];have e:n=i+(n-i):=by omega
 conv=>lhs;rw[e,List.take_add]
theorem sH(h0:1<=n)(h:n<=a.size):a.toList.take n=a.toList.take (n-1)++[it a (n-1)]:=by
 have e:it a (n-1)=a.toList[n-1]'(by simp;omega):=by unfold it;simp[getD,show n-1<a.size by omega]
 have c:n=(n-1)+1:=by omega
 conv=>lhs;rw[c]
 rw[List.take_succ_eq_append_getElem (by simp;omega),e]
theorem iQ(h:n<=a.size)(c:x∈a.toList.take n):∃j,j<n/\x=it a j:=by obtain⟨j,f,e⟩:=List.mem_iff_getElem.mp c;simp only[length_take,length_toList]at f;refine⟨j,by omega,?_⟩;rw[<-e];unfold it;simp[getD,show j<a.size by omega]
theorem ou(hi:i<=n)(h:n<=a.size)(c:x∈(a.extract i n).toList):∃j,i<=j/\j<n/\x=it a j:=by obtain⟨j,f,e⟩:=ext_mem (a:=a) (i:=i) (k:=n-i) (by omega) (by rw[show i+(n-i)=n by omega];exact c);exact⟨i+j,by omega,by omega,e⟩
end
section
variable{M:Model}{A:Around}{E:Value->Shared->Prop}{s:Shared}{κ:SortKind}{ok:Keyed->Prop}{K:Keyed->Int}
noncomputable def mhi:Array Keyed->Array Keyed->SM (Array Keyed):=sortPriv%PySem.Builtin.mergeHi
abbrev MV(K:Keyed->Int)(a b c:Array Keyed)(na nb:Nat):Prop:=MH K (a.toList++b.toList) (a.toList.take na) (b.toList.take nb) c.toList.reverse
structure MJ(K:Keyed->Int)(a b out:Array Keyed)(na nb:Nat):Prop where
 i1:1<=na
 i2:2<=nb
 i3:na<=a.size
 i4:nb<=b.size
 w:MV K a b out na nb
theorem iI{c:Array Keyed}:c.reverse.toList=c.toList.reverse:=Array.toList_reverse
theorem sr{c:Array Keyed}(h:na=0)(f:nb<=b.size)(w:MV K a b c na nb):Fin K a b (a.extract 0 na++b.extract 0 nb++c.reverse):=by
 subst h;have e:(a.extract 0 0++b.extract 0 nb++c.reverse).toList=b.toList.take nb++c.toList.reverse:=by rw[Array.toList_append,Array.toList_append,fU (uI),fU f,iI];simp
 exact⟨by rw[e];simpa using w.perm,by rw[e];exact w.sb⟩
theorem Lw{c:Array Keyed}(h:nb=0)(f:na<=a.size)(w:MV K a b c na nb):Fin K a b (a.extract 0 na++b.extract 0 nb++c.reverse):=by
 subst h;have e:(a.extract 0 na++b.extract 0 0++c.reverse).toList=a.toList.take na++c.toList.reverse:=by rw[Array.toList_append,Array.toList_append,fU (uI),fU f,iI];simp
 exact⟨by rw[e];simpa using w.perm,by rw[e];exact w.sa⟩
theorem jg{c:Array Keyed}(h:nb=1)(g:na<=a.size)(l:nb<=b.size)(o:sX K a)(h0:K (it b 0)<=K (it a 0))(w:MV K a b c na nb):Fin K a b (b.extract 0 nb++a.extract 0 na++c.reverse):=by
 subst h;have m:b.toList.take 1=[it b 0]:=by rw[sH (le_refl 1) l];simp
 have e:(b.extract 0 1++a.extract 0 na++c.reverse).toList=[it b 0]++a.toList.take na++c.toList.reverse:=by rw[Array.toList_append,Array.toList_append,fU l,fU g,iI,m]
 have f:=w;unfold MV at f;rw[m]at f;obtain⟨h1,p⟩:=f.first λx q=>by obtain⟨j,r,rfl⟩:=iQ g q;exact Int.le_trans h0 (o 0 j (by omega) (by omega))
 exact⟨by rw[e];exact h1,by rw[e];exact p⟩
theorem MH.pR{c:Array Keyed}(h:1<=na)(e:na<=a.size)(f:nb<=b.size)(w:MV K a b c na nb)(g:sX K b)(l:1<=nb->K (it b (nb-1))<=K (it a (na-1))):MV K a b (c.push (it a (na-1))) (na-1) nb:=by unfold MV at*;rw[sH h e]at w;rw[toList_push,List.reverse_append];refine MH.Ur (P:=[it a (na-1)]) w λx m y o=>?_;rw[mem_singleton.mp m];obtain⟨j,p,rfl⟩:=iQ f o;exact Int.le_trans (g j (nb-1) (by omega) (by omega)) (l (by omega))
theorem MH.pQ{c:Array Keyed}(h:1<=nb)(e:na<=a.size)(f:nb<=b.size)(w:MV K a b c na nb)(g:sX K a)(l:1<=na->K (it a (na-1))<=K (it b (nb-1))):MV K a b (c.push (it b (nb-1))) na (nb-1):=by unfold MV at*;rw[sH h f]at w;rw[toList_push,List.reverse_append];refine MH.RL (P:=[it b (nb-1)]) w λx m y o=>?_;rw[mem_singleton.mp m];obtain⟨j,p,rfl⟩:=iQ e o;exact Int.le_trans (g j (na-1) (by omega) (by omega)) (l (by omega))
theorem MH.BX{c:Array Keyed}(h:i<=na)(e:na<=a.size)(f:nb<=b.size)(w:MV K a b c na nb)(g:sX K b)(m:∀j,i<=j->j<na->1<=nb->K (it b (nb-1))<=K (it a j)):MV K a b (c++(a.extract i na).reverse) i nb:=by unfold MV at*;rw[gO h e]at w;rw[Array.toList_append,List.reverse_append,iI,List.reverse_reverse];refine MH.Ur w λx o y p=>?_;obtain⟨j,q,r,rfl⟩:=ou h e o;obtain⟨l,t,rfl⟩:=iQ f p;exact Int.le_trans (g l (nb-1) (by omega) (by omega)) (m j q r (by omega))
theorem MH.Bx{c:Array Keyed}(h:i<=nb)(f:na<=a.size)(e:nb<=b.size)(w:MV K a b c na nb)(g:sX K a)(m:∀j,i<=j->j<nb->1<=na->K (it a (na-1))<=K (it b j)):MV K a b (c++(b.extract i nb).reverse) na i:=by unfold MV at*;rw[gO h e]at w;rw[Array.toList_append,List.reverse_append,iI,List.reverse_reverse];refine MH.RL w λx o y p=>?_;obtain⟨j,q,r,rfl⟩:=ou h e o;obtain⟨l,t,rfl⟩:=iQ f p;exact Int.le_trans (g l (na-1) (by omega) (by omega)) (m j q r (by omega))
set_option maxHeartbeats 1000000 in
theorem Ld(R:Rk M A E s κ ok K){Q:Array Keyed->SortSt->Prop}{st:SortSt}(Y:∀x∈a.toList,ok x)(Z:∀x∈b.toList,ok x)(hs:kindOf st=κ)(v:sX K a)(H:sX K b)(a1:1<=a.size)(b1:1<=b.size)(h0:K (it b 0)<=K (it a 0))(hl:∀i,i<b.size->K (it b i)<=K (it a (a.size-1)))(q:∀f st',Fin K a b f->pq st st'->Q f st'):wpS M A E s (mhi a b) Q st:=by
 show wpS M A E s (liftM (rule "list.sort.merge-hi")>>=_) Q st;refine wpS_bind (wp_rule ?_);extract_lets+onlyGivenNames-merge-underBinder x0 x1 x2 x3 x4;refine wpS_bind (aV (by omega) ?_);extract_lets+onlyGivenNames-merge-underBinder x5;dsimp-zeta-zetaHave only[x0,x1,x2,x3,x4,x5];have L:∀c:Array Keyed,c.toList.take c.size=c.toList:=λc=>take_of_length_le (by simp);have w0:MV K a b #[] a.size b.size:=by unfold MV;rw[L,L];exact⟨by simp,by simpa using oR v,by simpa using oR H⟩
 have z:=MH.pR a1 (cD) (cD) w0 H (λ_=>hl _ (by omega));rw[show(#[]:Array Keyed).push (it a (a.size-1))=#[it a (a.size-1)]from rfl]at z;by_cases c1:a.size-1=0;.rw[if_pos (by simpa using c1)];exact wpS_pure (q _ _ (sr c1 (cD) z) (.refl _))
 rw[if_neg (by simpa using c1)];by_cases c2:b.size=1;.rw[if_pos (by simpa using c2)];exact wpS_pure (q _ _ (jg c2 (by omega) (cD) v h0 z) (.refl _))
 rw[if_neg (by simpa using c2)];refine wpS_bind (wpS_get ?_);extract_lets+onlyGivenNames-merge-underBinder x6;refine wpS_bind (wpS_mono (wpS_forRange (I:=λx c st'=>pq st st'/\∃na nb f mg,c=(none,na,nb,f,mg)/\MJ K a b f na nb/\x+1+na+nb<=a.size+b.size) (Q:=λc st'=>pq st st'/\∃f,c.1=some f/\Fin K a b f) ?_ ?_ ⟨.refl _,_,_,_,_,rfl,⟨by omega,by omega,by omega,cD,z⟩,by omega⟩) ?_)
 . rintro x c st1 _ hx⟨s1,na,nb,f,mg,rfl,l,hp⟩;extract_lets+onlyGivenNames-merge-underBinder y0 y1 y2 y3 y4 y5 y6 y7 y8;dsimp-zeta-zetaHave only[x0,x1,x2,x3,x4,x5,y0,y1,y2,y3,y4,y5,y6,y7,y8];refine wpS_bind (wpS_mono (wpS_forRange (I:=λy c st'=>pq st st'/\∃h g f o p,c=(none,h,g,f,o,p)/\MJ K a b f h g/\h+g+y<=na+nb) (Q:=λc st'=>pq st st'/\((∃f,c.1=some f/\Fin K a b f)\/∃h g f o p,c=(none,h,g,f,o,p)/\MJ K a b f h g/\h+g+1<=na+nb)) ?_ ?_ ⟨s1,na,nb,f,0,0,rfl,l,by omega⟩) ?_)
   . rintro y c st2 _ hy⟨s2,h,g,f,o,p,rfl,l,r⟩;obtain⟨i1,i2,i3,i4,w⟩:=l;try dsimp only
     refine wpS_bind (aV (by omega) (wpS_bind (aV (by omega) (wpS_bind (R.lt (Z _ (cT (by omega))) (Y _ (cT (by omega))) (s2.kind.trans hs) ?_)))));by_cases c:K (it b (g-1))<K (it a (h-1))
     . rw[decide_eq_true c];try dsimp only
       rw[if_pos rfl];refine wpS_bind (aV (by omega) ?_);try dsimp only
       have N:=MH.pR i1 i3 i4 w H (λ_=>by omega);by_cases e:h-1=0;.rw[if_pos (by simpa using e)];exact wpS_pure ⟨s2,.inl ⟨_,rfl,sr e i4 N⟩⟩
       . rw[if_neg (by simpa using e)];have B:MJ K a b (f.push (it a (h-1))) (h-1) g:=⟨by omega,i2,by omega,i4,N⟩;split;.exact wpS_pure ⟨s2,.inr ⟨_,_,_,_,_,rfl,B,by omega⟩⟩
         .exact wpS_pure ⟨s2,_,_,_,_,_,rfl,B,by omega⟩
     . rw[decide_eq_false c];try dsimp only
       rw[if_neg (by simp)];refine wpS_bind (aV (by omega) ?_);try dsimp only
       have N:=MH.pQ (by omega) i3 i4 w v (λ_=>by omega);by_cases e:g-1=1;.rw[if_pos (by simpa using e)];exact wpS_pure ⟨s2,.inl ⟨_,rfl,jg e i3 (by omega) v h0 N⟩⟩
       . rw[if_neg (by simpa using e)];have B:MJ K a b (f.push (it b (g-1))) h (g-1):=⟨i1,by omega,i3,by omega,N⟩;split;.exact wpS_pure ⟨s2,.inr ⟨_,_,_,_,_,rfl,B,by omega⟩⟩
         .exact wpS_pure ⟨s2,_,_,_,_,_,rfl,B,by omega⟩
   .rintro c st2⟨s2,h,g,f,o,p,rfl,l,r⟩;exact⟨s2,.inr ⟨_,_,_,_,_,rfl,l,by omega⟩⟩
   . rintro c st2⟨s2,⟨f,hc,O⟩|⟨h,g,f,o,p,rfl,l,r⟩⟩;.obtain⟨c1,c2,c3,c4,c5,c6⟩:=c;cases hc;exact wpS_pure ⟨s2,f,rfl,O⟩
     . extract_lets+onlyGivenNames-merge-underBinder z0 z1 z2 z3 z4 z5 z6 z7 z8 z9;dsimp-zeta-zetaHave only[z0,z1,z2,z3,z4,z5,z6,z7,z8,z9];refine wpS_bind (wp_rule ?_);extract_lets+onlyGivenNames-merge-underBinder za;refine wpS_bind (wpS_mono (wpS_forRange (I:=λy c st'=>pq st st'/\∃h g f mg o p,c=(none,h,g,f,mg,o,p)/\MJ K a b f h g/\h+g+1<=na+nb) (Q:=λc st'=>pq st st'/\((∃f,c.1=some f/\Fin K a b f)\/∃h g f mg o p,c=(none,h,g,f,mg,o,p)/\MJ K a b f h g/\h+g+1<=na+nb)) ?_ ?_ ⟨s2,h,g,f,_,o,p,rfl,l,by omega⟩) ?_)
       . rintro y c st3 _ hy⟨s3,h,g,f,mg,o,p,rfl,l,r⟩;obtain⟨i1,i2,i3,i4,w⟩:=l;extract_lets+onlyGivenNames-merge-underBinder t0 t1 t2 t3 t4 t5 t6 t7 t8 t9 L jp;dsimp only[t0,t1,t2,t3,t4,t5,t6,t7,t8,t9,L];refine Df (T:=jp) ?_;intro _ mg;dsimp-zeta-zetaHave only[jp,t0,t1,t2,t3,t4,t5,t6,t7,t8,t9,L];refine wpS_bind (m9 λEt Pq=>?_);have s4:=s3.trans Pq;refine wpS_bind (aV (by omega) ?_);refine wpS_bind (lA R (Z _ (cT (by omega))) Y (by omega) (by omega) (s4.kind.trans hs) (qR v (by omega)) λk k1 k2 k3=>?_);have U:∀j,j<k->K (it a j)<=K (it b (g-1)):=λj hj=>by have:=k2 j hj;simp[bb]at this;omega
         have J3:∀j,k<=j->j<h->K (it b (g-1))<=K (it a j):=λj h1 C=>by have:=k3 j h1 C;simp[bb]at this;omega
         try dsimp-zeta-zetaHave only
         extract_lets+onlyGivenNames-merge-underBinder u0 u1 jp2;dsimp only[u0,u1];refine m6 (T:=jp2) (x:=h) (y:=f) (λt xH=>(1<=t/\t<=h)/\MV K a b xH t g/\K (it a (t-1))<=K (it b (g-1))) ?_ (λc G=>?_) (λc=>⟨⟨i1,cD⟩,w,U _ (by omega)⟩)
         . rintro _ t xH⟨⟨j1,j0⟩,z,k4⟩;dsimp-zeta-zetaHave only[jp2,u0,u1];extract_lets+onlyGivenNames-merge-underBinder v0;refine wpS_bind (aV (by dsimp only[v0];omega) ?_);have w2:=MH.pQ (by omega) (by omega) i4 z v (λ_=>k4);extract_lets+onlyGivenNames-merge-underBinder v1;dsimp-zeta-zetaHave only[v0,v1];by_cases e3:g-1=1;.rw[if_pos (by simpa using e3)];exact wpS_pure ⟨s4,.inl ⟨_,rfl,jg e3 (by omega) (by omega) v h0 w2⟩⟩
           rw[if_neg (by simpa using e3)];refine wpS_bind (aV (by omega) ?_);refine wpS_bind (lA R (Y _ (cT (by omega))) Z (by omega) (by omega) (s4.kind.trans hs) (qR H (by omega)) λm m1 m2 m3=>?_);have W:∀j,j<m->K (it b j)<=K (it a (t-1)):=λj hj=>by have:=m2 j hj;simp[bb]at this;omega
           have ae:∀j,m<=j->j<g-1->K (it a (t-1))<=K (it b j):=λj h1 C=>by have:=m3 j h1 C;simp[bb]at this;omega
           try dsimp-zeta-zetaHave only
           extract_lets+onlyGivenNames-merge-underBinder v2 v3 Vl;dsimp only[v2,v3];refine m6 (T:=Vl) (x:=g-1) (y:=xH.push (it b (g-1))) (λJ xJ=>(2<=J/\J<=g-1)/\MV K a b xJ t J/\K (it b (J-1))<=K (it a (t-1))) ?_ (λc G=>?_) (λc=>⟨⟨by omega,cD⟩,w2,W _ (by omega)⟩)
           . rintro _ J xJ⟨⟨j2,j3⟩,X,m4⟩;dsimp only[Vl,v2,v3];refine wpS_bind (aV (by omega) ?_);have w4:=MH.pR j1 (by omega) (by omega) X H (λ_=>m4);try dsimp only
             by_cases e6:t-1=0;.rw[if_pos (by simpa using e6)];exact wpS_pure ⟨s4,.inl ⟨_,rfl,sr e6 (by omega) w4⟩⟩
             rw[if_neg (by simpa using e6)];have B:MJ K a b (xJ.push (it a (t-1))) (t-1) J:=⟨by omega,j2,by omega,by omega,w4⟩;split;.exact wpS_pure ⟨s4,.inr ⟨_,_,_,_,_,_,rfl,B,by omega⟩⟩
             .exact wpS_pure ⟨s4,_,_,_,_,_,_,rfl,B,by omega⟩
           . have X:=MH.Bx m1 (by omega) (by omega) w2 v λj h1 C _=>ae j h1 C;by_cases e4:m=1;.rw[if_pos (by simpa using e4)];exact wpS_pure ⟨s4,.inl ⟨_,rfl,jg e4 (by omega) (by omega) v h0 X⟩⟩
             rw[if_neg (by simpa using e4)];by_cases e5:m=0;.rw[if_pos (by simpa using e5)];exact wpS_pure ⟨s4,.inl ⟨_,rfl,Lw e5 (by omega) X⟩⟩
             rw[if_neg (by simpa using e5)];exact G ⟨⟩ _ _ ⟨⟨by omega,m1⟩,X,W _ (by omega)⟩
         . have z:=MH.BX k1 i3 i4 w H λj h1 C _=>J3 j h1 C;by_cases e1:k=0;.rw[if_pos (by simpa using e1)];exact wpS_pure ⟨s4,.inl ⟨_,rfl,sr e1 i4 z⟩⟩
           rw[if_neg (by simpa using e1)];exact G ⟨⟩ _ _ ⟨⟨by omega,k1⟩,z,U _ (by omega)⟩
       .rintro c st3⟨s3,h,g,f,mg,o,p,rfl,l,r⟩;exact⟨s3,.inr ⟨_,_,_,_,_,_,rfl,l,r⟩⟩
       . rintro c st3⟨s3,⟨f,hc,O⟩|⟨h,g,f,mg,o,p,rfl,l,r⟩⟩;.obtain⟨c1,c2,c3,c4,c5,c6,c7⟩:=c;cases hc;exact wpS_pure ⟨s3,f,rfl,O⟩
         . try dsimp only
           exact wpS_bind (m9 λEt Pq=>wpS_pure ⟨s3.trans Pq,_,_,_,_,rfl,l,by omega⟩)
 .rintro c st1⟨s1,na,nb,f,mg,rfl,l,hp⟩;have:=l.i1;have:=l.i2;omega
 .rintro c st1⟨s1,f,hc,O⟩;obtain⟨c1,c2,c3,c4,c5⟩:=c;cases hc;exact wpS_pure (q _ _ O s1)
end
section
variable{K:Keyed->Int}
def Seg(K:Keyed->Int)(xs:Array Keyed)(lo hi:Nat):Prop:=∀i j,lo<=i->i<=j->j<hi->K (it xs i)<=K (it xs j)
theorem yg{l:Bool}{b:Nat}(h:Seg K a b (b+n)):Ij K l k a b n:=λi j e f c=>by have:=h (b+i) (b+j) (by omega) (by omega) (by omega);unfold bb at*;cases l with|true=>simp only[if_true,decide_eq_true_eq]at*;omega|false=>simp only[false_eq_true,if_false,not_eq_true',decide_eq_false_iff_not]at*;omega
theorem gC:it xs i=xs.toList.getD i (Value.none,Value.none):=by
 unfold it;by_cases h:i<xs.size;.simp[getD,h]
 .simp[getD,h]
theorem lO(h:n<=a.size)(g:j<n-i):it (a.extract i n) j=it a (i+j):=by
 have:j<(a.extract i n).size:=by simp;omega
 have e:(a.extract i n)[j]?=a[i+j]?:=by rw[Array.getElem?_extract,if_pos (by omega)]
 have c:=qU this;have f:=qU (show i+j<a.size by omega);rw[e,f]at c;injection c with c;exact c.symm
theorem rK(h:n<=a.size)(hs:Seg K a i n):sX K (a.extract i n):=λu v f e=>by
 have c:(a.extract i n).size=n-i:=by simp;omega
 rw[c]at e;rw[lO h (by omega),lO h e];exact hs _ _ (by omega) (by omega) (by omega)
theorem uA:∀(m:List Keyed)(arr:Array Keyed)(o k:Nat),o+k+m.length<=arr.size->((m.zipIdx k).foldl (λa x=>match x with|(p,j)=>a.setIfInBounds (o+j) p) arr).toList=arr.toList.take (o+k)++(m++arr.toList.drop (o+k+m.length))
 |[],arr,o,k,h=>by simp|x::m,arr,o,k,h=>by
   have c:o+k<arr.size:=by simp at h;omega
   rw[List.zipIdx_cons,List.foldl_cons];have e:=uA m (arr.setIfInBounds (o+k) x) o (k+1) (by simp at h ⊢;omega);rw[e,Array.toList_setIfInBounds];have f:(arr.toList.set (o+k) x).take (o+(k+1))=arr.toList.take (o+k)++[x]:=by rw[<-add_assoc,List.take_succ_eq_append_getElem (by simpa using c),List.take_set_of_le (cD)];simp
   have g:(arr.toList.set (o+k) x).drop (o+(k+1)+m.length)=arr.toList.drop (o+k+(x::m).length):=by rw[List.drop_set_of_lt (by omega)];congr 1;simp;omega
   rw[f,g];simp
theorem Fin.mem{c:Array Keyed}{z:Keyed}(f:Fin K a b c)(h:z∈c.toList):z∈a.toList\/z∈b.toList:=mem_append.mp (f.perm.mem_iff.mp h)
theorem vp{P Q S:List Keyed}(e:xs.toList=P++(Q++S))(g:P.length=lo)(hh:P.length+Q.length=hi)(h:SL K Q):Seg K xs lo hi:=λi j h1 m l=>by
 rw[gC,gC,e];have f:∀n,lo<=n->n<hi->(P++(Q++S)).getD n (Value.none,Value.none)=Q.getD (n-lo) (Value.none,Value.none):=λn o p=>by rw[getD_eq_getElem?_getD,getD_eq_getElem?_getD,getElem?_append_right (by omega),getElem?_append_left (by omega),g]
 rw[f i h1 (by omega),f j (by omega) l];by_cases c:i=j;.rw[c];exact Int.le_refl _
 .have:=List.pairwise_iff_getElem.mp h (i-lo) (j-lo) (by omega) (by omega) (by omega);simpa[getD_eq_getElem?_getD,show i-lo<Q.length by omega,show j-lo<Q.length by omega]using this
end
section
variable{M:Model}{A:Around}{E:Value->Shared->Prop}{s:Shared}{κ:SortKind}{ok:Keyed->Prop}{K:Keyed->Int}
theorem three(hi:i<=n)(h:n<=a.size):a.toList=a.toList.take i++((a.extract i n).toList++a.toList.drop n):=by rw[<-append_assoc,<-gO hi h,List.take_append_drop]
theorem Ca(h:n<=a.size)(hs:Seg K a i n):SL K (a.extract i n).toList:=oR (rK h hs)
structure Q3(K:Keyed->Int)(xs ys:Array Keyed)(lo hi:Nat):Prop where
 perm:ys.toList.Perm xs.toList
 pre:ys.toList.take lo=xs.toList.take lo
 post:ys.toList.drop hi=xs.toList.drop hi
 seg:Seg K ys lo hi
theorem uf(h:Seg K xs lo hi):Q3 K xs xs lo hi:=⟨.refl _,rfl,rfl,h⟩
theorem M5{v:Nat}{m:List Keyed}(h1:lo<=u)(g:u<=v)(l:v<=hi)(w:hi<=xs.size)(o:ys.toList=xs.toList.take u++(m++xs.toList.drop v))(p:m.Perm (xs.extract u v).toList)(hs:SL K ((xs.extract lo u).toList++(m++(xs.extract v hi).toList))):Q3 K xs ys lo hi:=by
 have h:m.length=v-u:=by rw[p.length_eq];simp;omega
 have q:xs.toList.take u=xs.toList.take lo++(xs.extract lo u).toList:=gO h1 (by omega);have r:xs.toList.drop v=(xs.extract v hi).toList++xs.toList.drop hi:=by have:=jw (a:=xs) (i:=v) (k:=hi-v) (by omega);rwa[show v+(hi-v)=hi by omega]at this
 have e:ys.toList=xs.toList.take lo++(((xs.extract lo u).toList++(m++(xs.extract v hi).toList))++xs.toList.drop hi):=by rw[o,q,r];simp
 have f:(xs.toList.take lo).length=lo:=by simp;omega
 have c:((xs.extract lo u).toList++(m++(xs.extract v hi).toList)).length=hi-lo:=by simp[h];omega
 refine⟨?_,?_,?_,vp e f (by omega) hs⟩;.have t:=three g (show v<=xs.size by omega);rw[o];refine List.Perm.trans (List.Perm.append_left _ (List.Perm.append_right _ p)) (.of_eq t.symm)
 .rw[e,List.take_append_of_le_length (by omega),take_of_length_le (by omega)]
 .rw[e,<-append_assoc,List.drop_append,List.drop_eq_nil_of_le (le_of_eq (by rw[length_append,f,c,Nat.add_sub_cancel' (le_trans h1 (le_trans g l))])),nil_append,length_append,f,c,Nat.add_sub_cancel' (le_trans h1 (le_trans g l)),Nat.sub_self];rfl
end
section
variable{M:Model}{A:Around}{E:Value->Shared->Prop}{s:Shared}{κ:SortKind}{ok:Keyed->Prop}{K:Keyed->Int}
theorem Mw{st:SortSt}{Q:PUnit->SortSt->Prop}(h:Q ⟨⟩ st'):wpS M A E s (set st':SM PUnit) Q st:=by unfold wpS;rw[StateT.run_set];exact wpAny_pure ⟨rfl,h⟩
theorem jy(hi:i<=n)(h:n<=a.size)(c:x∈(a.extract i n).toList):∃j,i<=j/\j<n/\x=it a j:=ou hi h c
theorem K8{arr merged:Array Keyed}{sa sb v:Nat}(h1:sa<=u)(m:u<=sb)(o:sb<=v)(l:v<=hi)(h:hi<=arr.size)(r:u<sb)(t:sb<v)(s1:Seg K arr sa sb)(s2:Seg K arr sb hi)(f:Fin K (arr.extract u sb) (arr.extract sb v) merged)(k2:∀j,sa<=j->j<u->K (it arr j)<=K (it arr sb))(p:∀j,v<=j->j<hi->K (it arr (sb-1))<=K (it arr j)):SL K ((arr.extract sa u).toList++(merged.toList++(arr.extract v hi).toList)):=by
 have Rm:∀z∈merged.toList,(∃j,u<=j/\j<sb/\z=it arr j)\/∃j,sb<=j/\j<v/\z=it arr j:=λz hz=>(f.mem hz).imp (jy m (by omega)) (jy o (by omega));refine bZ.mpr ⟨Ca (by omega) λi j a b c=>s1 i j a b (by omega),bZ.mpr ⟨f.qz,Ca h λi j a b c=>s2 i j (by omega) b c,λz hz y hy=>?_⟩,λx q y hy=>?_⟩
 . obtain⟨j,e,g,rfl⟩:=jy l h hy;rcases Rm z hz with⟨i,i1,i2,rfl⟩|⟨i,i1,i2,rfl⟩;.exact Int.le_trans (s1 i (sb-1) (by omega) (by omega) (by omega)) (p j e g)
   .exact s2 i j (by omega) (by omega) (by omega)
 . obtain⟨i,i1,i2,rfl⟩:=jy h1 (by omega) q;rcases mem_append.mp hy with hy|hy
   . rcases Rm y hy with⟨j,e,g,rfl⟩|⟨j,e,g,rfl⟩;.exact s1 i j (by omega) (by omega) (by omega)
     .exact Int.le_trans (k2 i i1 i2) (s2 sb j (by omega) (by omega) (by omega))
   .obtain⟨j,e,g,rfl⟩:=jy l h hy;exact Int.le_trans (k2 i i1 i2) (s2 sb j (by omega) (by omega) (by omega))
set_option maxHeartbeats 1000000 in
theorem K7(R:Rk M A E s κ ok K){sa pw sb g:Nat}{Q:Bool->SortSt->Prop}{st:SortSt}(hs:kindOf st=κ)(ho:∀x∈(arrOf st).toList,ok x)(h:failedOf st=none)(hi:(pendingOf st)[i]?=some (sa,na,pw))(l:(pendingOf st)[i+1]?=some (sb,nb,g))(C:sb=sa+na)(n1:1<=na)(m1:1<=nb)(hz:sb+nb<=(arrOf st).size)(s1:Seg K (arrOf st) sa sb)(s2:Seg K (arrOf st) sb (sb+nb))(q:∀st',kindOf st'=κ->failedOf st'=none->pendingOf st'=((pendingOf st).setIfInBounds i (sa,na+nb,pw)).eraseIdxIfInBounds (i+1)->Q3 K (arrOf st) (arrOf st') sa (sb+nb)->Q true st'):wpS M A E s (mergeAt' i) Q st:=by
 obtain⟨O,arr,pend,gm,U⟩:=st;replace hs:O=κ:=hs;replace ho:∀x∈arr.toList,ok x:=ho;replace h:U=none:=h;replace hi:pend[i]?=some (sa,na,pw):=hi;replace l:pend[i+1]?=some (sb,nb,g):=l;replace hz:sb+nb<=arr.size:=hz;replace s1:Seg K arr sa sb:=s1;replace s2:Seg K arr sb (sb+nb):=s2;replace q:∀st',kindOf st'=κ->failedOf st'=none->pendingOf st'=(pend.setIfInBounds i (sa,na+nb,pw)).eraseIdxIfInBounds (i+1)->Q3 K arr (arrOf st') sa (sb+nb)->Q true st':=q;show wpS M A E s (get>>=_) Q _;refine wpS_bind (wpS_get ?_);dsimp only;rw[hi,l];try dsimp only
 refine wpS_bind (Mw ?_);refine wpS_bind (aV (by omega) ?_);refine wpS_bind (lA R (ho _ (cT (by omega))) ho (by omega) (by omega) hs (yg (by rw[<-C];exact s1)) λk k1 k2 k3=>?_);have o:∀j,sa<=j->j<sa+k->K (it arr j)<=K (it arr sb):=λj h1 W=>by have:=k2 (j-sa) (by omega);rw[show sa+(j-sa)=j by omega]at this;simp[bb]at this;omega
 try dsimp only
 by_cases c1:na-k=0
 . rw[if_pos (by simpa using c1)];refine wpS_pure (q _ hs h rfl (uf λu v r t w=>?_));by_cases G:v<sb;.exact s1 u v r t G
   . by_cases hu:u<sb;.exact Int.le_trans (o u r (by omega)) (s2 sb v (by omega) (by omega) w)
     .exact s2 u v (by omega) t w
 rw[if_neg (by simpa using c1)];rw[show sa+k+(na-k)-1=sb-1 by omega];refine wpS_bind (aV (by show sb-1<arr.size;omega) ?_);refine wpS_bind (lA R (ho _ (cT (by omega))) ho (by omega) (by omega) hs (yg s2) λm ae m2 m3=>?_);have H:∀j,sb<=j->j<sb+m->K (it arr j)<K (it arr (sb-1)):=λj h1 W=>by have:=m2 (j-sb) (by omega);rw[show sb+(j-sb)=j by omega]at this;simpa[bb]using this
 have y:∀j,sb+m<=j->j<sb+nb->K (it arr (sb-1))<=K (it arr j):=λj h1 W=>by have:=m3 (j-sb) (by omega) (by omega);rw[show sb+(j-sb)=j by omega]at this;simp[bb]at this;omega
 have J3:K (it arr sb)<=K (it arr (sa+k)):=by have:=k3 k (cD) (by omega);simp[bb]at this;omega
 try dsimp only
 by_cases c2:m=0
 . rw[if_pos (by simpa using c2)];refine wpS_pure (q _ hs h rfl (uf λu v r t w=>?_));by_cases G:v<sb;.exact s1 u v r t G
   . by_cases hu:u<sb;.exact Int.le_trans (s1 u (sb-1) r (by omega) (by omega)) (y v (by omega) w)
     .exact s2 u v (by omega) t w
 rw[if_neg (by simpa using c2)];have I:(arr.extract (sa+k) sb).size=sb-(sa+k):=by simp;omega
 have J:(arr.extract sb (sb+m)).size=m:=by simp;omega
 have X:sX K (arr.extract (sa+k) sb):=rK (by omega) λu v a b c=>s1 u v (by omega) b c;have Y:sX K (arr.extract sb (sb+m)):=rK (by omega) λu v a b c=>s2 u v a b (by omega);have Z:∀x∈(arr.extract (sa+k) sb).toList,ok x:=λx L=>by obtain⟨j,j1,j2,rfl⟩:=jy (by omega) (by omega) L;exact ho _ (cT (by omega))
 have oy:∀x∈(arr.extract sb (sb+m)).toList,ok x:=λx L=>by obtain⟨j,j1,j2,rfl⟩:=jy (by omega) (by omega) L;exact ho _ (cT (by omega))
 have z:K (it (arr.extract sb (sb+m)) 0)<=K (it (arr.extract (sa+k) sb) 0):=by rw[lO (by omega) (by omega),lO (by omega) (by omega)];exact J3
 have B:∀j,j<(arr.extract sb (sb+m)).size->K (it (arr.extract sb (sb+m)) j)<=K (it (arr.extract (sa+k) sb) ((arr.extract (sa+k) sb).size-1)):=λj l=>by rw[J]at l;rw[I,lO (by omega) (by omega),lO (by omega) (by omega),show sa+k+(sb-(sa+k)-1)=sb-1 by omega];exact Int.le_of_lt (H _ (by omega) (by omega))
 have fin:∀(merged:Array Keyed)(st':SortSt),Fin K (arr.extract (sa+k) sb) (arr.extract sb (sb+m)) merged->pq (SortSt.mk' O arr ((pend.setIfInBounds i (sa,na+nb,pw)).eraseIdxIfInBounds (i+1)) gm U) st'->wpS M A E s ((modify λs=>setArr s (foldl (λa x=>match x with|(p,j)=>a.setIfInBounds (sa+k+j) p) (arrOf s) merged.toList.zipIdx))>>=λ_=>get>>=λs=>pure (failedOf s).isNone) Q st':=λmerged st' f e=>by
  refine wpS_bind (wpS_modify (wpS_bind (wpS_get (wpS_pure ?_))));have e1:arrOf st'=arr:=e.arr;have e2:failedOf st'=none:=e.fail.trans h;have N:merged.toList.length=sb+m-(sa+k):=by rw[f.perm.length_eq];simp;omega
  show Q (failedOf st').isNone _;rw[e2];refine q _ (e.kind.trans hs) e2 e.pend ?_;show Q3 K arr (foldl _ (arrOf st') merged.toList.zipIdx) sa (sb+nb);rw[e1];have hy:=uA merged.toList arr (sa+k) 0 (by omega);rw[Nat.add_zero,N,show sa+k+(sb+m-(sa+k))=sb+m by omega]at hy;have he:arr.extract (sa+k) (sb+m)=arr.extract (sa+k) sb++arr.extract sb (sb+m):=by simp[Array.extract_append_extract];congr 1<;>omega
  refine M5 (u:=sa+k) (v:=sb+m) (by omega) (by omega) (by omega) hz hy (f.perm.trans (.of_eq ?_)) (K8 (by omega) (by omega) (by omega) (by omega) hz (by omega) (by omega) s1 s2 f o y);rw[he,Array.toList_append]
 try dsimp only
 split;.exact wpS_bind (NZ R Z oy hs X Y (by omega) (by omega) z B λmerged st' f e=>fin merged st' f e)
 .exact wpS_bind (Ld R Z oy hs X Y (by omega) (by omega) z B λmerged st' f e=>fin merged st' f e)
end
section
variable{K:Keyed->Int}
theorem tL:it xs i=(xs[i]?).getD (Value.none,Value.none):=by unfold it;by_cases h:i<xs.size<;>simp[getD,h]
theorem ju(c:j<=xs.size)(k:Nat):it (mirror xs i j ((j-i)/2)) k=if i<=k/\k<j then it xs (i+j-1-k)else it xs k:=by rw[tL,getElem?_mirror_all c];split<;>rw[tL]
theorem xj{d:Nat}(hs:u<xs.size)(hd:d<=u)(k:Nat):it (bubble xs u d) k=if k=u-d then it xs u else if u-d<k/\k<=u then it xs (k-1)else it xs k:=by
 rw[tL,getElem?_bubble hs d hd];by_cases h1:k=u-d;.rw[if_pos h1,if_pos h1,tL]
 .rw[if_neg h1,if_neg h1];split<;>rw[tL]
structure m7(xs ys:Array Keyed)(lo:Nat):Prop where
 perm:ys.toList.Perm xs.toList
 pre:∀i,i<lo->it ys i=it xs i
theorem m7.refl(xs:Array Keyed)(lo:Nat):m7 xs xs lo:=⟨.refl _,λ_ _=>rfl⟩
theorem m7.trans{xs ys c:Array Keyed}{lo:Nat}(a:m7 xs ys lo)(b:m7 ys c lo):m7 xs c lo:=⟨b.perm.trans a.perm,λi h=>(b.pre i h).trans (a.pre i h)⟩
theorem m7.size{xs ys:Array Keyed}{lo:Nat}(h:m7 xs ys lo):ys.size=xs.size:=by simpa using h.perm.length_eq
theorem jj(h:lo<=i)(c:j<=xs.size):m7 xs (mirror xs i j ((j-i)/2)) lo:=⟨Array.perm_iff_toList_perm.mp (mirror_perm ..),λk e=>by rw[ju c,if_neg (by omega)]⟩
theorem Hk{d:Nat}(hs:u<xs.size)(hd:d<=u)(h:lo<=u-d):m7 xs (bubble xs u d) lo:=⟨Array.perm_iff_toList_perm.mp (bubble_perm ..),λk c=>by rw[xj hs hd,if_neg (by omega),if_neg (by omega)]⟩
def Gy(K:Keyed->Int)(xs:Array Keyed)(lo hi:Nat):Prop:=∀i j,lo<=i->i<=j->j<hi->K (it xs j)<=K (it xs i)
end
section
variable{M:Model}{A:Around}{E:Value->Shared->Prop}{s:Shared}{κ:SortKind}{ok:Keyed->Prop}{K:Keyed->Int}
structure Sx(κ:SortKind)(ok:Keyed->Prop)(st:SortSt)(xs:Array Keyed)(st':SortSt):Prop where
 kind:kindOf st'=κ
 arr:arrOf st'=xs
 pend:pendingOf st'=pendingOf st
 fail:failedOf st'=none
 ok:∀x∈xs.toList,ok x
theorem Sx.set{st:SortSt}(h:Sx κ ok st xs st')(c:m7 xs ys lo):Sx κ ok st ys (setArr st' ys):=⟨h.kind,rfl,h.pend,h.fail,λx e=>h.ok x (c.perm.mem_iff.mp e)⟩
theorem jR(R:Rk M A E s κ ok K){st:SortSt}{Q:Option Bool->SortSt->Prop}(h:Sx κ ok st xs st')(hi:i<xs.size)(c:j<xs.size)(q:Q (some (decide (K (it xs i)<K (it xs j)))) st'):wpS M A E s (ltAt' i j) Q st':=by rw[ltAt'_eq];refine wpS_bind (wpS_get ?_);show wpS M A E s (elem' (arrOf st') i>>=λx=>elem' (arrOf st') j>>=λy=>lt' x y) Q st';rw[h.arr];exact wpS_bind (aV hi (wpS_bind (aV c (R.lt (h.ok _ (cT hi)) (h.ok _ (cT c)) h.kind q))))
theorem nY{st:SortSt}{Q:Unit->SortSt->Prop}(h:Sx κ ok st xs st')(c:lo<=i)(e:j<=xs.size)(q:∀st2,Sx κ ok st (mirror xs i j ((j-i)/2)) st2->Q () st2):wpS M A E s (reverseSlice' i j) Q st':=by rw[reverseSlice'_eq];refine wpS_modify ?_;rw[h.arr];exact q _ (h.set (jj c e))
theorem xn(R:Rk M A E s κ ok K){st:SortSt}{a:Nat}{Q:Option (Option Nat)×Nat->SortSt->Prop}(h:Sx κ ok st xs st')(r:lo+n<=xs.size)(t:1<=a)(g:a<=n)(hs:Seg K xs lo (lo+a))(q:∀m,a<=m->m<=n->Seg K xs lo (lo+m)->(m=n\/K (it xs (lo+m))<K (it xs (lo+m-1)))->Q (none,m) st'):wpS M A E s (forIn [a:n] ((none,a):Option (Option Nat)×Nat) λ_ c=>ltAt' (lo+c.2) (lo+c.2-1)>>=λo=>match o with|some b=>if b=true then pure (.done (none,c.2))else pure (.yield (none,c.2+1))|_=>pure (.done (some none,c.2))) Q st':=by
 refine wpS_forRange (I:=λx c st2=>st2=st'/\c=(none,x)/\Seg K xs lo (lo+x)) ?_ ?_ ⟨rfl,rfl,hs⟩
 . rintro x c st2 h1 v⟨rfl,rfl,f⟩;try dsimp only
   refine wpS_bind (jR R h (by omega) (by omega) ?_);by_cases c:K (it xs (lo+x))<K (it xs (lo+x-1))
   . rw[decide_eq_true c];try dsimp only
     rw[if_pos rfl];exact wpS_pure (q x h1 (by omega) f (.inr c))
   . rw[decide_eq_false c];try dsimp only
     rw[if_neg (by simp)];refine wpS_pure ⟨rfl,rfl,λi j i1 l w=>?_⟩;by_cases p:j<lo+x;.exact f i j i1 l p
     . have:j=lo+x:=by omega
       subst this;by_cases e:i=lo+x;.rw[e];exact Int.le_refl _
       .have:=f i (lo+x-1) i1 (by omega) (by omega);omega
 .rintro c st2⟨rfl,rfl,f⟩;rw[show max a n=n by omega]at f ⊢;exact q n g (cD) f (.inl rfl)
theorem Hw(R:Rk M A E s κ ok K){st:SortSt}{a:Nat}{Q:Option (Option Nat)×Nat×Nat->SortSt->Prop}(h:Sx κ ok st xs st')(G:lo+n<=xs.size)(H:1<=a)(p:a<=n)(hs:Gy K xs lo (lo+a))(q:∀ys st2 m e,m7 xs ys lo->Sx κ ok st ys st2->a<=m->m<=n->Gy K ys lo (lo+m)->e+1<=m->(∀i,lo+m-(e+1)<=i->i<lo+m->K (it ys i)=K (it ys (lo+m-1)))->Q (none,m,e) st2):wpS M A E s (forIn [a:n] ((none,a,0):Option (Option Nat)×Nat×Nat) λ_ c=>ltAt' (lo+c.2.1) (lo+c.2.1-1)>>=λo=>match o with
  |some b=>if b=true then(if c.2.2>0 then reverseSlice' (lo+c.2.1-(c.2.2+1)) (lo+c.2.1)>>=λ_=>pure (.yield (none,c.2.1+1,0))else pure (.yield (none,c.2.1+1,0)))else ltAt' (lo+c.2.1-1) (lo+c.2.1)>>=λo=>match o with|some b=>if b=true then pure (.done (none,c.2.1,c.2.2))else pure (.yield (none,c.2.1+1,c.2.2+1))|_=>pure (.done (some none,c.2.1,c.2.2))
  |_=>pure (.done (some none,c.2.1,c.2.2))) Q st':=by
 refine wpS_forRange (I:=λx c st2=>∃ys e,c=(none,x,e)/\m7 xs ys lo/\Sx κ ok st ys st2/\Gy K ys lo (lo+x)/\e+1<=x/\∀i,lo+x-(e+1)<=i->i<lo+x->K (it ys i)=K (it ys (lo+x-1))) ?_ ?_ ⟨xs,0,rfl,.refl _ _,h,hs,by omega,λi h1 r=>by rw[show i=lo+a-1 by omega]⟩
 . rintro x c st2 h1 r⟨ys,e,rfl,hc,f,hd,he,g⟩;have y:=hc.size;try dsimp only
   refine wpS_bind (jR R f (by omega) (by omega) ?_);by_cases c:K (it ys (lo+x))<K (it ys (lo+x-1))
   . rw[decide_eq_true c];try dsimp only
     rw[if_pos rfl];have more:∀t:Array Keyed,(∀i,K (it t i)=K (it ys i))->Gy K t lo (lo+(x+1)):=λt hz i j i1 v z=>by
      rw[hz,hz];by_cases w:j<lo+x;.exact hd i j i1 v w
      . have:j=lo+x:=by omega
        subst this;by_cases e:i=lo+x;.rw[e];exact Int.le_refl _
        .have:=hd i (lo+x-1) i1 (by omega) (by omega);omega
     by_cases c2:e>0
     . rw[if_pos c2];refine wpS_bind (nY (lo:=lo) f (by omega) (by omega) λst3 B=>wpS_pure ⟨_,0,rfl,hc.trans (jj (by omega) (by omega)),B,more _ λi=>?_,by omega,λi h1 r=>by rw[show i=lo+(x+1)-1 by omega]⟩);rw[ju (by omega)];split;.rw[g _ (by omega) (by omega),g i (by omega) (by omega)]
       .rfl
     .rw[if_neg c2];exact wpS_pure ⟨ys,0,rfl,hc,f,more ys λ_=>rfl,by omega,λi h1 r=>by rw[show i=lo+(x+1)-1 by omega]⟩
   . rw[decide_eq_false c];try dsimp only
     rw[if_neg (by simp)];refine wpS_bind (jR R f (by omega) (by omega) ?_);by_cases c2:K (it ys (lo+x-1))<K (it ys (lo+x))
     . rw[decide_eq_true c2];try dsimp only
       rw[if_pos rfl];exact wpS_pure (q ys st2 x e hc f h1 (by omega) hd he g)
     . rw[decide_eq_false c2];try dsimp only
       rw[if_neg (by simp)];have l:K (it ys (lo+x))=K (it ys (lo+x-1)):=by omega
       refine wpS_pure ⟨ys,e+1,rfl,hc,f,λi j i1 v z=>?_,by omega,λi i1 i2=>?_⟩
       . by_cases w:j<lo+x;.exact hd i j i1 v w
         . have:j=lo+x:=by omega
           subst this;by_cases e:i=lo+x;.rw[e];exact Int.le_refl _
           .rw[l];exact hd i (lo+x-1) i1 (by omega) (by omega)
       . rw[show lo+(x+1)-1=lo+x by omega];by_cases C:i=lo+x;.rw[C]
         .rw[l];exact g i (by omega) (by omega)
 .rintro c st2⟨ys,e,rfl,hc,f,hd,he,g⟩;rw[show max a n=n by omega]at*;exact q ys st2 n e hc f p (cD) hd he g
end
section
variable{M:Model}{A:Around}{E:Value->Shared->Prop}{s:Shared}{κ:SortKind}{ok:Keyed->Prop}{K:Keyed->Int}
theorem Bb(c:lo+n<=xs.size)(h:Gy K xs lo (lo+n)):Seg K (mirror xs lo (lo+n) ((lo+n-lo)/2)) lo (lo+n):=λi j i1 e f=>by rw[ju c,ju c,if_pos (by omega),if_pos (by omega)];exact h _ _ (by omega) (by omega) (by omega)
theorem Dd(R:Rk M A E s κ ok K){st:SortSt}{Q:Option Nat->SortSt->Prop}(h:Sx κ ok st xs st')(hn:lo+n<=xs.size)(h1:1<=n)(q:∀ys st2 m,m7 xs ys lo->Sx κ ok st ys st2->1<=m->m<=n->Seg K ys lo (lo+m)->Q (some m) st2):wpS M A E s (countRun' lo n) Q st':=by
 have one:∀ys:Array Keyed,Seg K ys lo (lo+1):=λys i j i1 t v=>by rw[show i=j by omega];exact Int.le_refl _
 show wpS M A E s (_>>=_) Q st';refine wpS_bind (xn (a:=1) (n:=n) R h hn (le_refl 1) h1 (one xs) λm m1 N w z=>?_);dsimp only;by_cases c1:m=n;.rw[if_pos (by simpa using c1)];exact wpS_pure (q xs st' m (.refl _ _) h m1 N w)
 rw[if_neg (by simpa using c1)];have B:=z.resolve_left c1;by_cases c2:m>1;rw[if_pos c2];refine wpS_bind (jR R h (by omega) (by omega) ?_);by_cases c3:K (it xs lo)<K (it xs (lo+m-1))
 . rw[decide_eq_true c3];try dsimp only
   rw[if_pos rfl];exact wpS_pure (q xs st' m (.refl _ _) h m1 N w)
 rw[decide_eq_false c3];try dsimp only
 rw[if_neg (by simp)];have hall:∀k,lo<=k->k<lo+m->K (it xs k)=K (it xs (lo+m-1)):=λk k1 k2=>by have a1:=w lo k (cD) k1 k2;have a2:=w k (lo+m-1) k1 (by omega) (by omega);omega
 refine wpS_bind (nY (lo:=lo) h (cD) (by omega) λst2 C=>?_);have hc:m7 xs (mirror xs lo (lo+m) ((lo+m-lo)/2)) lo:=jj (cD) (by omega);have hd:Gy K (mirror xs lo (lo+m) ((lo+m-lo)/2)) lo (lo+(m+1)):=λi j i1 t v=>by
  have e:∀k,lo<=k->k<lo+m->K (it (mirror xs lo (lo+m) ((lo+m-lo)/2)) k)=K (it xs (lo+m-1)):=λk k1 k2=>by rw[ju (by omega),if_pos (by omega)];exact hall _ (by omega) (by omega)
  by_cases hj:j<lo+m;.rw[e i i1 (by omega),e j (by omega) hj];exact Int.le_refl _
  . have:j=lo+m:=by omega
    subst this;by_cases e':i=lo+m;.rw[e'];exact Int.le_refl _
    .rw[e i i1 (by omega),ju (by omega),if_neg (by omega)];omega
 generalize mirror xs lo (lo+m) ((lo+m-lo)/2)=ys at C hc hd;rotate_left;rw[if_neg c2];have G:Gy K xs lo (lo+(m+1)):=λi j i1 t v=>by
  by_cases e:i=j;.rw[e];exact Int.le_refl _
  . have e1:i=lo:=by omega
    have e2:j=lo+m:=by omega
    rw[e1,e2];rw[show lo+m-1=lo by omega]at B;omega
 obtain⟨ys,hc,C,hd⟩:∃ys,m7 xs ys lo/\Sx κ ok st ys st'/\Gy K ys lo (lo+(m+1)):=⟨xs,.refl _ _,h,G⟩;all_goals
  have ae:=hc.size;refine wpS_bind (wp_rule ?_);refine wpS_bind (Hw (a:=m+1) R C (by omega) (by omega) (by omega) hd λf st3 p e y l p1 O o he U=>?_);have W:=y.size;dsimp only;by_cases X:e>0
  . rw[if_pos X];refine wpS_bind (nY (lo:=lo) l (by omega) (by omega) λEt Y=>?_);have g:m7 xs (mirror f (lo+p-(e+1)) (lo+p) ((lo+p-(lo+p-(e+1)))/2)) lo:=hc.trans (y.trans (jj (by omega) (by omega)));have Z:Gy K (mirror f (lo+p-(e+1)) (lo+p) ((lo+p-(lo+p-(e+1)))/2)) lo (lo+p):=λi j i1 t v=>by
     have ez:∀k,K (it (mirror f (lo+p-(e+1)) (lo+p) ((lo+p-(lo+p-(e+1)))/2)) k)=K (it f k):=λk=>by
      rw[ju (by omega)];split;.rw[U _ (by omega) (by omega),U k (by omega) (by omega)]
      .rfl
     rw[ez,ez];exact o i j i1 t v
    generalize mirror f (lo+p-(e+1)) (lo+p) ((lo+p-(lo+p-(e+1)))/2)=us at Y g Z;have H:=g.size;have c:m7 us (mirror us lo (lo+p) ((lo+p-lo)/2)) lo:=jj (cD) (by omega);refine wpS_bind (nY (lo:=lo) Y (cD) (by omega) λI r=>?_);refine wpS_bind (xn R r (by rw[c.size];omega) (by omega) O (Bb (by omega) Z) λu u1 J L _=>?_);exact wpS_pure (q _ I u (g.trans c) r (by omega) J L)
  .rw[if_neg X];have H:=(hc.trans y).size;have c:m7 f (mirror f lo (lo+p) ((lo+p-lo)/2)) lo:=jj (cD) (by omega);refine wpS_bind (nY (lo:=lo) l (cD) (by omega) λI r=>?_);refine wpS_bind (xn R r (by rw[c.size];omega) (by omega) O (Bb (by omega) o) λu u1 J L _=>?_);exact wpS_pure (q _ I u ((hc.trans y).trans c) r (by omega) J L)
theorem Mf(R:Rk M A E s κ ok K){st:SortSt}{o:Nat}{Q:Bool->SortSt->Prop}(h:Sx κ ok st xs st')(B:lo+n<=xs.size)(ho:o<=n)(hs:Seg K xs lo (lo+o))(q:∀ys st2,m7 xs ys lo->Sx κ ok st ys st2->Seg K ys lo (lo+n)->Q true st2):wpS M A E s (binarySort' lo n o) Q st':=by
 show wpS M A E s (_>>=_) Q st';refine wpS_bind (wpS_mono (wpS_forRange (I:=λk c st2=>∃ys,c=(none,())/\m7 xs ys lo/\Sx κ ok st ys st2/\Seg K ys lo (lo+min k n)) (Q:=λc st2=>∃ys,c=(none,())/\m7 xs ys lo/\Sx κ ok st ys st2/\Seg K ys lo (lo+n)) ?_ ?_ ?_) ?_)
 . rintro k c st2 k1 k2⟨ys,rfl,hc,g,f⟩;rw[show min k n=k by omega]at f;have y:=hc.size;refine wpS_bind (wpS_mono (wpS_forRange (I:=λx c st3=>st3=st2/\∃l r,c=(none,l,r)/\l<=r/\r<=k/\r-l<=k-x/\(∀i,lo<=i->i<lo+l->K (it ys i)<=K (it ys (lo+k)))/\∀i,lo+r<=i->i<lo+k->K (it ys (lo+k))<K (it ys i)) (Q:=λc st3=>st3=st2/\∃l r,c=(none,l,r)/\l<=k/\(∀i,lo<=i->i<lo+l->K (it ys i)<=K (it ys (lo+k)))/\∀i,lo+l<=i->i<lo+k->K (it ys (lo+k))<K (it ys i)) ?_ ?_ ⟨rfl,0,k,rfl,by omega,by omega,by omega,λi a b=>by omega,λi a b=>by omega⟩) ?_)
   . rintro x c st3 _ C⟨rfl,l,r,rfl,z,a2,a3,m,a5⟩;dsimp only;by_cases e:l ≥ r
     . rw[if_pos e];have:l=r:=by omega
       subst this;exact wpS_pure ⟨rfl,l,l,rfl,a2,m,a5⟩
     . rw[if_neg e];refine wpS_bind (jR R g (by omega) (by omega) ?_);by_cases c:K (it ys (lo+k))<K (it ys (lo+(l+r)/2));.rw[decide_eq_true c];dsimp only;rw[if_pos rfl];exact wpS_pure ⟨rfl,_,_,rfl,by omega,by omega,by omega,m,λi i1 i2=>Int.lt_of_lt_of_le c (f _ _ (by omega) i1 i2)⟩
       .rw[decide_eq_false c];dsimp only;rw[if_neg (by simp)];exact wpS_pure ⟨rfl,_,_,rfl,by omega,a2,by omega,λi i1 i2=>Int.le_trans (f i (lo+(l+r)/2) i1 (by omega) (by omega)) (Int.not_lt.mp c),a5⟩
   . rintro c st3⟨rfl,l,r,rfl,z,a2,a3,m,a5⟩;have:l=r:=by omega
     subst this;exact⟨rfl,l,l,rfl,a2,m,a5⟩
   . rintro c st3⟨rfl,l,r,rfl,a2,m,a5⟩;show wpS M A E s (moveDown' (lo+k) (lo+l)>>=λ_=>pure (ForInStep.yield (none,()))) _ _;rw[moveDown'_eq];refine wpS_bind (wpS_modify (wpS_pure ?_));rw[g.arr];have t:m7 ys (bubble ys (lo+k) (lo+k-(lo+l))) lo:=Hk (by omega) (by omega) (by omega);refine⟨_,rfl,hc.trans t,g.set t,λi j i1 v w=>?_⟩;rw[show min (k+1) n=k+1 by omega]at w;rw[xj (by omega) (by omega),xj (by omega) (by omega),show lo+k-(lo+k-(lo+l))=lo+l by omega];repeat' split
     all_goals first|(exfalso;omega)|exact Int.le_refl _|exact m _ (by omega) (by omega)|exact Int.le_of_lt (a5 _ (by omega) (by omega))|exact f _ _ (by omega) (by omega) (by omega)
 .rintro c st2⟨ys,p,hc,g,f⟩;rw[show min (max (max o 1) n) n=n by omega]at f;exact⟨ys,p,hc,g,f⟩
 . refine⟨xs,rfl,.refl _ _,h,λi j i1 v w=>?_⟩;by_cases e:i=j;.rw[e];exact Int.le_refl _
   .exact hs i j i1 v (by omega)
 .rintro c st2⟨ys,rfl,hc,g,f⟩;exact wpS_pure (q ys st2 hc g f)
end
noncomputable abbrev Rn:=Nat×Nat×Nat
variable{l:List Rn}
section
variable{K:Keyed->Int}{xs ys:Array Keyed}
def zT(K:Keyed->Int)(xs:Array Keyed):Nat->List Rn->Nat->Prop|a,[],b=>a=b|a,r::l,b=>r.1=a/\1<=r.2.1/\Seg K xs a (a+r.2.1)/\zT K xs (a+r.2.1) l b
theorem fB:∀{l k:List Rn}{a b:Nat},zT K xs a (l++k) b↔∃m,zT K xs a l m/\zT K xs m k b
 |[],k,a,b=>⟨λh=>⟨a,rfl,h⟩,λ⟨m,h1,c⟩=>by cases(show a=m from h1);exact c⟩|r::l,k,a,b=>by
   rw[List.cons_append];constructor;.rintro⟨h1,c,e,f⟩;obtain⟨m,g,o⟩:=fB.mp f;exact⟨m,⟨h1,c,e,g⟩,o⟩
   .rintro⟨m,⟨h1,c,e,f⟩,g⟩;exact⟨h1,c,e,fB.mpr ⟨m,f,g⟩⟩
theorem o6:∀{l:List Rn}{a b:Nat},zT K xs a l b->a+l.length<=b|[],a,b,h=>by cases(show a=b from h);simp|r::l,a,b,⟨_,e,_,c⟩=>by have:=o6 c;simp only[length_cons];omega
theorem tG(h:∀i,lo<=i->i<hi->it ys i=it xs i)(s:Seg K xs lo hi):Seg K ys lo hi:=λi j i1 e c=>by rw[h i i1 (by omega),h j (by omega) c];exact s i j i1 e c
theorem j9:∀{l:List Rn}{a b:Nat},(∀i,a<=i->i<b->it ys i=it xs i)->zT K xs a l b->zT K ys a l b|[],_,_,_,h=>h|r::l,a,b,e,⟨h1,f,g,c⟩=>by have:=o6 c;exact⟨h1,f,tG (λi i1 i2=>e i i1 (by omega)) g,j9 (λi i1 i2=>e i (by omega) i2) c⟩
theorem HX{r r':Rn}{a b:Nat}(h1:r'.1=r.1)(c:r'.2.1=r.2.1)(h:zT K xs a (l++[r]) b):zT K xs a (l++[r']) b:=by obtain⟨m,e,f,p,g,o⟩:=fB.mp h;exact fB.mpr ⟨m,e,h1.trans f,by omega,by rw[c];exact g,by rw[c];exact o⟩
theorem Fv(h:ys.toList.take lo=xs.toList.take lo)(i:Nat)(hi:i<lo):it ys i=it xs i:=by rw[gC,gC,getD_eq_getElem?_getD,getD_eq_getElem?_getD];have e:=congrArg (λl=>l[i]?) h;simp only[getElem?_take,hi,if_true]at e;rw[e]
theorem yF(h:ys.toList.drop hi=xs.toList.drop hi)(i:Nat)(h1:hi<=i):it ys i=it xs i:=by rw[gC,gC,getD_eq_getElem?_getD,getD_eq_getElem?_getD];have e:=congrArg (λl=>l[i-hi]?) h;simp only[List.getElem?_drop,show hi+(i-hi)=i by omega]at e;rw[e]
theorem Hd{f l2:List Rn}{a b:Nat}{r1 c:Rn}{p:Nat}(h:zT K xs a (f++r1::c::l2) b)(g:Q3 K xs ys r1.1 (c.1+c.2.1)):zT K ys a (f++(r1.1,r1.2.1+c.2.1,p)::l2) b:=by
 obtain⟨m,r,s,t,v,o,w,y,q⟩:=fB.mp h;subst s;have e:=o6 q;refine fB.mpr ⟨r1.1,j9 (λi i1 i2=>Fv g.pre i i2) r,rfl,by show 1<=r1.2.1+c.2.1;omega,?_,?_⟩;.show Seg K ys r1.1 (r1.1+(r1.2.1+c.2.1));have:=g.seg;rw[o]at this;rwa[<-add_assoc]
 .show zT K ys (r1.1+(r1.2.1+c.2.1)) l2 b;rw[<-add_assoc];exact j9 (λi i1 i2=>yF g.post i (by rw[o];exact i1)) q
theorem DP(h:i+1<l.length):∃c r1 e l2,l=c++r1::e::l2/\c.length=i:=by refine⟨l.take i,l[i],l[i+1],l.drop (i+2),?_,by simp;omega⟩;rw[<-drop_eq_getElem_cons (by omega),<-drop_eq_getElem_cons (by omega),List.take_append_drop]
theorem oY:∀{l:List Rn},l≠[]->∃k r,l=k++[r]|[],h=>absurd rfl h|[r],_=>⟨[],r,rfl⟩|r::x::l,_=>by obtain⟨k,q,e⟩:=oY (l:=x::l) (by simp);exact⟨r::k,q,by rw[e];rfl⟩
theorem yE(x r1 e:Rn)(l2:List Rn):∀c:List Rn,((c++r1::e::l2).set c.length x).eraseIdx (c.length+1)=c++x::l2|[]=>rfl|r::c=>by show r::((c++r1::e::l2).set c.length x).eraseIdx (c.length+1)=r::(c++x::l2);rw[yE x r1 e l2 c]
end
section
variable{M:Model}{A:Around}{E:Value->Shared->Prop}{s:Shared}{κ:SortKind}{ok:Keyed->Prop}{K:Keyed->Int}
structure SR(κ:SortKind)(ok:Keyed->Prop)(K:Keyed->Int)(x0 ys:Array Keyed)(l:List Rn)(lo:Nat)(st:SortSt):Prop where
 kind:kindOf st=κ
 arr:arrOf st=ys
 fail:failedOf st=none
 pend:(pendingOf st).toList=l
 perm:ys.toList.Perm x0.toList
 ok:∀x∈ys.toList,ok x
 Ro:zT K ys 0 l lo
 le:lo<=ys.size
theorem SR.sx{st:SortSt}(h:SR κ ok K x0 ys l lo st):Sx κ ok st ys st:=⟨h.kind,h.arr,rfl,h.fail,h.ok⟩
theorem yx(R:Rk M A E s κ ok K){st:SortSt}{Q:Bool->SortSt->Prop}(h:SR κ ok K x0 ys l lo st)(hi:i+1<l.length)(q:∀t k st2,SR κ ok K x0 t k lo st2->k.length+1=l.length->(∀j,lo<=j->it t j=it ys j)->Q true st2):wpS M A E s (mergeAt' i) Q st:=by
 obtain⟨w,r1,f,l2,e,g⟩:=DP hi;have hr:=h.Ro;rw[e]at hr;obtain⟨m,U,y,z,B,v,C,G,H⟩:=fB.mp hr;have I:=o6 H;have hz:=h.le;have o:=h.pend;have J:(pendingOf st)[i]?=some (r1.1,r1.2.1,r1.2.2):=by rw[<-Array.getElem?_toList,o,e,<-g];simp
 have L:(pendingOf st)[i+1]?=some (f.1,f.2.1,f.2.2):=by rw[<-Array.getElem?_toList,o,e,<-g];simp
 refine K7 R h.kind (by rw[h.arr];exact h.ok) h.fail J L (by omega) z C (by rw[h.arr];omega) (by rw[h.arr,y,v];exact B) (by rw[h.arr,v];exact G) λst2 N a2 a3 c=>?_;rw[h.arr]at c;have r:=Hd (p:=r1.2.2) hr c;refine q (arrOf st2) (w++(r1.1,r1.2.1+f.2.1,r1.2.2)::l2) st2 ⟨N,rfl,a2,?_,c.perm.trans h.perm,λx O=>h.ok x (c.perm.mem_iff.mp O),r,?_⟩ (by rw[e];simp only[length_append,length_cons];omega) λj W=>yF c.post j (by omega);.rw[a3];rw[Array.toList_eraseIdxIfInBounds,Array.toList_setIfInBounds,o,e,<-g];exact yE _ _ _ _ _
 .have:=c.perm.length_eq;simp only[length_toList]at this;omega
end
section
variable{M:Model}{A:Around}{E:Value->Shared->Prop}{s:Shared}{κ:SortKind}{ok:Keyed->Prop}{K:Keyed->Int}
theorem SR.move{e:Array Keyed}{st st2:SortSt}(h:SR κ ok K x0 ys l lo st)(c:m7 ys e lo)(x:Sx κ ok st e st2):SR κ ok K x0 e l lo st2:=⟨x.kind,x.arr,x.fail,by rw[x.pend];exact h.pend,c.perm.trans h.perm,x.ok,j9 (λi _ i2=>c.pre i i2) h.Ro,by rw[c.size];exact h.le⟩
theorem um{r:Rn}{f:Rn->Rn}:∀k:List Rn,(k++[r]).modify (k.length+1-1) f=k++[f r]|[]=>rfl|x::k=>by show x::(k++[r]).modify k.length f=x::(k++[f r]);rw[<-um k];rfl
theorem oK{p:Array Rn}{k:List Rn}{r:Rn}{f:Rn->Rn}(h:p.toList=k++[r]):(p.modify (p.size-1) f).toList=k++[f r]:=by
 have hz:p.size=k.length+1:=by rw[<-length_toList,h];simp
 rw[Array.toList_modify,h,hz];exact um k
theorem SR.push{x0 ys:Array Keyed}{l:List Rn}{lo n:Nat}{st:SortSt}(h:SR κ ok K x0 ys l lo st)(h1:1<=n)(c:lo+n<=ys.size)(hs:Seg K ys lo (lo+n)):SR κ ok K x0 ys (l++[(lo,n,0)]) (lo+n) (setPending st ((pendingOf st).push (lo,n,0))):=⟨h.kind,h.arr,h.fail,by show((pendingOf st).push (lo,n,0)).toList=_;rw[toList_push,h.pend],h.perm,h.ok,fB.mpr ⟨lo,h.Ro,rfl,h1,hs,rfl⟩,c⟩
theorem SR.pow{pw:Nat}{st:SortSt}(h:SR κ ok K x0 ys l lo st)(f:l≠[]):∃k,k≠[]/\SR κ ok K x0 ys k lo (setPending st ((pendingOf st).modify ((pendingOf st).size-1) λ(a,b,_)=>(a,b,pw))):=by obtain⟨k,r,e⟩:=oY f;have hr:=h.Ro;have c:=h.pend;rw[e]at hr c;exact⟨k++[(r.1,r.2.1,pw)],by simp,h.kind,h.arr,h.fail,oK c,h.perm,h.ok,HX (r:=r) (r':=(r.1,r.2.1,pw)) rfl rfl hr,h.le⟩
theorem Ka{p:Prop}[Decidable p]{a:Nat}(h:a+1<n):(if p then a-1 else a)+1<n:=by split<;>omega
theorem HR(R:Rk M A E s κ ok K){Q:Unit->SortSt->Prop}{st:SortSt}(h:SR κ ok K x0 x0 [] 0 st)(q:∀ys st',arrOf st'=ys->failedOf st'=none->ys.toList.Perm x0.toList->Seg K ys 0 ys.size->Q () st'):wpS M A E s sortRuns' Q st:=by
 rw[sortRuns'_eq];refine wpS_bind (wpS_get ?_);dsimp only;simp only[h.arr];have big:∀{ys l lo st},SR κ ok K x0 ys l lo st->ys.size=x0.size:=λh=>by simpa using h.perm.length_eq
 generalize minRun' x0.size x0.size 0=H;refine wpS_bind (wpS_mono (wpS_forRange (I:=λx c st'=>∃ys l lo,c=(none,lo)/\SR κ ok K x0 ys l lo st'/\x<=lo) (Q:=λc st'=>∃ys l,c=(none,x0.size)/\SR κ ok K x0 ys l x0.size st') ?_ ?_ ⟨x0,[],0,rfl,h,cD⟩) ?_)
 . rintro x c st1 _ hx⟨ys,l,lo,rfl,f,U⟩;have hz:=big f;have av:=f.le;dsimp only;by_cases c1:lo ≥ x0.size
   . rw[if_pos c1];have:lo=x0.size:=by omega
     subst this;exact wpS_pure ⟨ys,l,rfl,f⟩
   rw[if_neg c1];refine wpS_bind (Dd R f.sx (lo:=lo) (n:=x0.size-lo) (by omega) (by omega) λW st2 m ch J m1 m2 sg=>?_);have o:=f.move ch J;have X:=big o;dsimp only;by_cases c2:m<H;case' pos=>
    rw[if_pos c2];refine wpS_bind (wpS_lift (wpAny_rule ⟨rfl,?_⟩));refine wpS_bind (Mf R J (lo:=lo) (n:=min (x0.size-lo) H) (by omega) (by omega) sg λt st3 Y Z v=>?_);simp only[Bool.not_true,false_eq_true,if_false];replace o:=f.move (ch.trans Y) Z;replace X:=big o;replace m1:1<=min (x0.size-lo) H:=by omega
    replace m2:min (x0.size-lo) H<=x0.size-lo:=by omega
    generalize min (x0.size-lo) H=n at*
   case' neg=>rw[if_neg c2];clear ch;obtain⟨t,ae⟩:∃t,t=W:=⟨_,rfl⟩;obtain⟨st3,af⟩:∃st3,st3=st2:=⟨_,rfl⟩;obtain⟨n,hn⟩:∃n,n=m:=⟨_,rfl⟩;subst ae af hn;have v:=sg
   all_goals refine wpS_bind (wpS_get ?_);cases hb:(pendingOf st3).back? with|none=>dsimp only;exact wpS_bind (wpS_modify (wpS_pure ⟨t,_,lo+n,rfl,o.push m1 (by omega) v,by omega⟩))|some r=>
      obtain⟨s1,n1,p1⟩:=r;dsimp only;have ag:l≠[]:=by rintro rfl;have:pendingOf st3=#[]:=Array.toList_inj.mp o.pend;rw[this]at hb;exact nomatch hb
      generalize power' x0.size (2*s1+n1) (2*s1+n1+n1+n) x0.size=pw;refine wpS_bind (wpS_mono (wpS_forRange (I:=λ_ c st'=>∃ys k,c=(none,())/\k≠[]/\SR κ ok K x0 ys k lo st'/\∀j,lo<=j->it ys j=it t j) (Q:=λc st'=>∃ys k,c=(none,())/\k≠[]/\SR κ ok K x0 ys k lo st'/\∀j,lo<=j->it ys j=it t j) ?_ (λ_ _ h=>h) ⟨t,l,rfl,ag,o,λ_ _=>rfl⟩) ?_)
      . rintro y c L _ _⟨w,k,rfl,z,G,O⟩;refine wpS_bind (wpS_get ?_);try dsimp only
        have stop:∃ys k,((none,()):Option Unit×Unit)=(none,())/\k≠[]/\SR κ ok K x0 ys k lo L/\∀j,lo<=j->it ys j=it t j:=⟨w,k,rfl,z,G,O⟩;split
        . rename_i ah ho;split;.exact wpS_pure stop
          . have aw:(pendingOf L).size>1:=by
             by_cases hh:(pendingOf L).size>1;.exact hh
             .rw[if_neg hh]at ho;exact nomatch ho
            have ai:k.length=(pendingOf L).size:=by rw[<-G.pend];simp
            refine wpS_bind (yx R G (by omega) λB k2 Im C N am=>?_);simp only[Bool.not_true,false_eq_true,if_false];exact wpS_pure ⟨B,k2,rfl,by rintro rfl;simp at N;omega,C,λj hj=>(am j hj).trans (O j hj)⟩
        .exact wpS_pure stop
      .rintro c L⟨w,k,rfl,z,G,O⟩;dsimp only;obtain⟨k2,_,ap⟩:=G.pow (pw:=pw) z;refine wpS_bind (wpS_modify ?_);have ax:=big G;exact wpS_bind (wpS_modify (wpS_pure ⟨w,_,lo+n,rfl,ap.push m1 (by omega) (tG (λi i1 _=>O i i1) v),by omega⟩))
 . rintro c st1⟨ys,l,lo,rfl,f,U⟩;have:=f.le;have:=big f;have:lo=x0.size:=by omega
   subst this;exact⟨ys,l,rfl,f⟩
 . rintro c st1⟨ys,l,rfl,f⟩;dsimp only;have hl:=o6 f.Ro;refine wpS_bind (wpS_mono (wpS_forRange (I:=λx c st'=>∃ys l,c=(none,())/\SR κ ok K x0 ys l x0.size st'/\l.length<=max 1 (x0.size-x)) (Q:=λc st'=>∃ys l,c=(none,())/\SR κ ok K x0 ys l x0.size st'/\l.length<=1) ?_ ?_ ⟨ys,l,rfl,f,by omega⟩) ?_)
   . rintro x c st2 _ hx⟨B,k,rfl,p,z⟩;refine wpS_bind (wpS_get ?_);try dsimp only
     have ai:k.length=(pendingOf st2).size:=by rw[<-p.pend];simp
     by_cases c1:(pendingOf st2).size<=1;.rw[if_pos c1];exact wpS_pure ⟨B,k,rfl,p,by omega⟩
     rw[if_neg c1];refine wpS_bind (yx R p (Ka (by omega)) λar k2 Im C N _=>?_);simp only[Bool.not_true,false_eq_true,if_false];exact wpS_pure ⟨ar,k2,rfl,C,by omega⟩
   .rintro c st2⟨B,k,rfl,p,z⟩;exact⟨B,k,rfl,p,by omega⟩
   .rintro c st2⟨B,k,rfl,p,z⟩;dsimp only;have hz:=big p;refine wpS_pure (q B st2 p.arr p.fail p.perm ?_);match k,z,p.Ro with|[],_,e=>have e:0=x0.size:=e;intro i j _ _ _;omega|[r],_,⟨_,_,g,e⟩=>have e:0+r.2.1=x0.size:=e;rw[e]at g;rwa[hz]
end
end HH
end
section
namespace HH
open PySem PySem.W PyProof.Rows PySem.Calls L2 PySem.Spec
theorem zr{i o:Type}{f:i->o}{p m:List o}(h:p.Perm m):∀{l:List i},m=l.map f->∃k:List i,k.Perm l/\k.map f=p:=by induction h with
 |nil=>intro l e;cases l with|nil=>exact⟨[],.refl _,rfl⟩|cons _ _=>cases e
 |cons x h r=>intro l e;cases l with|nil=>cases e|cons a l=>obtain⟨c,g⟩:=List.cons.inj e;obtain⟨k,h1,q⟩:=r g;exact⟨a::k,h1.cons a,by rw[map_cons,q,c]⟩
 |swap x y w=>intro l e;match l,e with|a::b::l,e=>obtain⟨c,g⟩:=List.cons.inj e;obtain⟨s,t⟩:=List.cons.inj g;exact⟨b::a::l,.swap ..,by rw[map_cons,map_cons,c,s,t]⟩
 |trans h1 q j n=>intro l e;obtain⟨k,u,c⟩:=n e;obtain⟨k2,v,g⟩:=j c.symm;exact⟨k2,v.trans u,g⟩
theorem Ga(a:List Int):aW a a=false:=by cases h:aW a a with|false=>rfl|true=>rw[jZ _ _ h]at h;cases h
theorem BK{a b x:List Int}(h:aW b a=false)(c:aW x a=true):aW x b=true:=by cases e:aW x b with|true=>rfl|false=>rw[vX _ _ _ h e]at c;cases c
theorem pZ{a:Type}{p q:a->Bool}(h:∀x,p x=true->q x=true):∀{l:List a},(∃x,x∈l/\q x=true/\p x=false)->l.countP p<l.countP q
 |[],⟨x,hx,_⟩=>by cases hx|y::l,⟨x,hx,h1,b⟩=>by
   rw[List.countP_cons,List.countP_cons];have m:=List.countP_mono_left (l:=l) (p:=p) (q:=q) λx _=>h x;rcases mem_cons.mp hx with rfl|hx;.rw[h1,b,if_pos rfl,if_neg (by simp)];omega
   .have:=pZ h ⟨x,hx,h1,b⟩;cases hp:p y with|true=>rw[h y hp];omega|false=>rw[if_neg (by simp)];omega
noncomputable def Kw(ds:List D)(d:D):Nat:=ds.countP λe=>aW (bD e) (bD d)
theorem CZ{ds:List D}{d e:D}(hd:d∈ds):decide ((Kw ds d:Int)<Kw ds e)=aW (bD d) (bD e):=by cases h:aW (bD d) (bD e)with|true=>have:=pZ (l:=ds) (p:=λx=>aW (bD x) (bD d)) (q:=λx=>aW (bD x) (bD e)) (λx a=>BK (jZ _ _ h) a) ⟨d,hd,h,Ga _⟩;rw[decide_eq_true_iff];unfold Kw;omega|false=>have:=List.countP_mono_left (l:=ds) (p:=λx=>aW (bD x) (bD e)) (q:=λx=>aW (bD x) (bD d)) λx _ a=>BK h a;rw[decide_eq_false_iff_not];unfold Kw;omega
open Classical in
noncomputable def ZQ(P:Value->D->Prop)(ds:List D)(x:Keyed):Int:=if h:∃d,d∈ds/\P x.1 d then(Kw ds h.choose:Int)else 0
theorem yH{P:Value->D->Prop}{ds:List D}{x:Keyed}{d:D}(fn:∀u d e,P u d->P u e->bD d=bD e)(hd:d∈ds)(a:P x.1 d):ZQ P ds x=Kw ds d:=by have h:∃d,d∈ds/\P x.1 d:=⟨d,hd,a⟩;unfold ZQ;rw[dif_pos h];unfold Kw;rw[fn _ _ _ h.choose_spec.2 a]
noncomputable def pick{a:Type}(d:a)(p:List Nat)(l:List a):List a:=p.map λi=>l.getD i d
theorem oh{a:Type}(d:a)(l:List a):pick d (List.range l.length) l=l:=by refine ext_getElem (by simp[pick]) λi h1 b=>?_;simp[pick,b]
theorem nD{a:Type}{d:a}{p:List Nat}{l:List a}{n:Nat}(h:p.Perm (List.range n)):(pick d p l).length=n:=by rw[pick,length_map,h.length_eq,length_range]
theorem jk{P:Value->D->Prop}:∀{a:List Value}{ds:List D},Paired P a ds->∀i,i<a.length->P (a.getD i .none) (ds.getD i .non)/\ds.getD i .non∈ds|_,_,.cons r _,0,_=>⟨by simpa using r,by simp⟩|_,_,.cons _ t,i+1,b=>by have:=jk t i (by simpa using b);exact⟨by simpa using this.1,by simpa using Or.inr this.2⟩
section
variable{prog:Program}{w:World}{A:Around}{E:Value->Shared->Prop}{s:Shared}{vs:List Value}{κ:SortKind}{P:Value->D->Prop}{ds:List D}
theorem zX{a:Addr}{n:Nat}{O:PySem.Fin->Shared->Prop}(ho:s.heap.get? a=some (seqObj "list" vs.toArray n))(so:sortable ds=true)(hz:vs.length<=16777216)(M:Paired P vs ds)(fn:∀u d e,P u d->P u e->bD d=bD e)(m:∀h',(∀b o,b≠a->s.heap.get? b=some o->h'.get? b=some o)->∀C:SortKind->Shared->Prop,C κ {s with heap:=h'}->2<=vs.length->wpAny (model prog w) A (keyKind' vs.toArray) C (λ_ _=>False) {s with heap:=h'})(hl:∀h',(∀b o,b≠a->s.heap.get? b=some o->h'.get? b=some o)->∀u v d e,P u d->P v e->∀C:Bool->Shared->Prop,C (aW (bD d) (bD e)) {s with heap:=h'}->wpAny (model prog w) A (keyLt' κ u v) C (λ_ _=>False) {s with heap:=h'})(h:∀h' c p,(∀b o,b≠a->s.heap.get? b=some o->h'.get? b=some o)->p.Perm (List.range vs.length)->pick .non p ds=qz ds->h'.get? a=some (seqObj "list" (pick .none p vs).toArray c)->O (.done (.ret .none)) {s with heap:=h'}):wpAny (model prog w) A (Builtin.«list.sort» ⟨[.ref a],[]⟩) O E s:=by
 have ha:a<s.heap.objs.size:=lt_size ho;have z:vs.length=ds.length:=Paired.length M;obtain⟨r,B⟩:∃r,(s.heap.update a (Obj.mapSeq λ_=>(#[]:Array Value))).get? a=some (seqObj "list" #[] r):=⟨_,get?_update_seq ho λ_=>#[]⟩;rw[list_sort_plain];refine wpAny_bind (listItems_at ho rfl ?_);refine wpAny_bind (listUpdate_at ho rfl ?_ (by rw[size_toArray,sizeLine_eq];omega) (uI));refine wpAny_bind (seqEpoch_at B rfl ?_);refine wpAny_bind (wpAny_newTuple ?_ (by show vs.length<=_;rw[sizeLine_eq];omega));refine wpAny_bind (wpAny_newList ?_ (uI));refine wpAny_holding ?_;generalize hH:(((s.heap.update a (Obj.mapSeq λ_=>(#[]:Array Value))).push {cls:=.type "tuple",data:=.seq vs.toArray}).push {cls:=.type "list",data:=.seq #[]}:Heap)=g;have G:g.get? a=some (seqObj "list" #[] r):=by rw[<-hH];exact gG (gG B)
 have keep:∀b o,b≠a->s.heap.get? b=some o->g.get? b=some o:=λb o N e=>by rw[<-hH];exact gG (gG ((get?_update_other _ _ (Ne.symm N)).trans e))
 have fin:∀p:List Nat,p.Perm (List.range vs.length)->pick .non p ds=qz ds->O (.done (.ret .none)) {s with heap:=g.update a (Obj.mapSeq λ_=>toArray (pick .none p vs))}:=by intro p h1 f;obtain⟨c2,W⟩:∃c2,(g.update a (Obj.mapSeq λ_=>toArray (pick Value.none p vs))).get? a=some (seqObj "list" (pick Value.none p vs).toArray c2):=⟨_,get?_update_seq G λ_=>toArray (pick Value.none p vs)⟩;exact h _ c2 p (λb o N e=>(get?_update_other _ _ (Ne.symm N)).trans (keep b o N e)) h1 f W
 show wpAny (model prog w) A _ O E {s with heap:=g};dsimp only;by_cases f:vs.toArray.size<2
 . rw[if_pos f,if_pos f];refine wpAny_bind (wpAny_pure ?_);rw[StateT.run_pure];refine wpAny_bind (wpAny_pure ?_);dsimp only;have eo:(arrOf (SortSt.mk' general' (vs.toArray.zip vs.toArray) #[] 7 none)).map (·.2)=toArray (pick Value.none (List.range vs.length) vs):=by rw[oh];apply Array.toList_inj.mp;show((vs.toArray.zip vs.toArray).map (·.2)).toList=vs;simp[List.map_snd_zip]
   rw[eo];refine wpAny_bind (seqEpoch_at G rfl ?_);refine wpAny_bind (listUpdate_at G rfl ?_ (uI) (by rw[size_toArray,nD (.refl _),sizeLine_eq];omega));simp only[bne_self_eq_false,false_eq_true,if_false];refine wpAny_pure (fin _ (.refl _) ?_);rw[z,oh];refine nG so (.refl _) ?_;match ds,(show ds.length<2 by simp at f;omega)with|[],_=>exact .nil|[_],_=>exact List.pairwise_singleton ..|_::_::_,f=>simp at f;omega
 . rw[if_neg f,if_neg f];have X:2<=vs.length:=by simpa using f
   refine wpAny_bind (m g keep _ ?_ X|>λq=>wpAny_mono q (λ_ _ x=>x) λ_ _ x=>x.elim);have H:(vs.toArray.zip vs.toArray).toList=(List.range vs.length).map λi=>(vs.getD i Value.none,vs.getD i Value.none):=by
    refine ext_getElem (by simp) λi h1 f=>?_;have:i<vs.length:=by simpa using f
    simp[this]
   have Y:∀x∈(vs.toArray.zip vs.toArray).toList,∃d,d∈ds/\P x.1 d:=λx hx=>by rw[H]at hx;obtain⟨i,I,rfl⟩:=mem_map.mp hx;have:=jk M i (List.mem_range.mp I);exact⟨_,this.2,this.1⟩
   have R:Rk (model prog w) A E {s with heap:=g} κ (λx=>∃d,d∈ds/\P x.1 d) (ZQ P ds):=⟨by rintro x y Q st⟨d,d1,d2⟩⟨e,r,U⟩Z hq;rw[yH fn d1 d2,yH fn r U,CZ d1]at hq;rw[lt'_eq];refine wpS_bind (wpS_get ?_);rw[Z];refine wpS_bind (wpS_lift (wpAny_attempt (wpAny_mono (hl g keep x.1 y.1 d e d2 U (λb s'=>s'={s with heap:=g}/\b=aW (bD d) (bD e)) ⟨rfl,rfl⟩) ?_ λ_ _ h=>h.elim)));rintro b s'⟨rfl,rfl⟩;exact⟨rfl,wpS_pure hq⟩⟩;have run:=HR R (x0:=vs.toArray.zip vs.toArray) (st:=SortSt.mk' κ (vs.toArray.zip vs.toArray) #[] 7 none) (Q:=λ_ l=>∃p:List Nat,p.Perm (List.range vs.length)/\pick .non p ds=qz ds/\(arrOf l).map (·.2)=(pick Value.none p vs).toArray/\failedOf l=none) ⟨rfl,rfl,rfl,rfl,.refl _,Y,rfl,uI⟩ λys l r U e3 e4=>by
     rw[H]at e3;obtain⟨p,t,J⟩:=zr e3 rfl;have hpl:p.length=vs.length:=by rw[t.length_eq,length_range]
     have ae:ys.size=vs.length:=by rw[<-length_toList,<-J,length_map,hpl]
     refine⟨p,t,nG so ?_ ?_,?_,U⟩;.have:=t.map λi=>ds.getD i .non;rw[z]at this;exact this.trans (.of_eq (oh D.non ds))
     . rw[List.pairwise_iff_getElem];intro i j I hj af;simp only[pick,length_map]at I hj;have sg:=e4 i j (uI) (by omega) (by omega);have at':∀k(m:k<p.length),it ys k=(vs.getD p[k] .none,vs.getD p[k] .none):=λk m=>by rw[gC,<-J];simp[m]
       have inn:∀k(m:k<p.length),p[k]<vs.length:=λk m=>List.mem_range.mp (t.mem_iff.mp (getElem_mem m));rw[at' i I,at' j hj]at sg;have a1:=jk M p[i] (inn i I);have a2:=jk M p[j] (inn j hj);rw[yH fn a1.2 a1.1,yH fn a2.2 a2.1]at sg;simp only[pick,List.getElem_map,mF,not_eq_true'];rw[<-CZ a2.2,decide_eq_false_iff_not];omega
     .apply Array.toList_inj.mp;rw[r,Array.toList_map,<-J,map_map];rfl
   refine wpAny_bind (wpAny_mono run ?_ λ_ _ e=>e);rintro⟨⟨⟩,l⟩s'⟨rfl,p,t,J,L,hf⟩;dsimp only;rw[L];refine wpAny_bind (seqEpoch_at G rfl ?_);refine wpAny_bind (listUpdate_at G rfl ?_ (uI) (by rw[size_toArray,nD t,sizeLine_eq];omega));rw[hf];simp only[bne_self_eq_false,false_eq_true,if_false];exact wpAny_pure (fin _ t J)
end
end HH
end
section
namespace HH
open PySem L2 PySem.Spec PyProof.Rows PySem.Calls PySem.W
section
variable{prog:Program}{w:World}{A:Around}{E:Value->Shared->Prop}{s:Shared}{vs:List Value}{κ:SortKind}{P:Value->D->Prop}{ds:List D}
theorem my{l:Addr}{Q:Value->Shared->Prop}(y:s.heap.IsList l vs.toArray)(z:sortable ds=true)(hz:vs.length<=16777216)(B:Paired P vs ds)(fn:∀u d e,P u d->P u e->bD d=bD e)(G:∀h',(∀b o,s.heap.get? b=some o->h'.get? b=some o)->∀C:SortKind->Shared->Prop,C κ {s with heap:=h'}->2<=vs.length->wpAny (model prog w) A.in1.in1 (keyKind' vs.toArray) C (λ_ _=>False) {s with heap:=h'})(j:∀h',(∀b o,s.heap.get? b=some o->h'.get? b=some o)->∀u v d e,P u d->P v e->∀C:Bool->Shared->Prop,C (aW (bD d) (bD e)) {s with heap:=h'}->wpAny (model prog w) A.in1.in1 (keyLt' κ u v) C (λ_ _=>False) {s with heap:=h'})(h:∀h' c p,(∀b o,s.heap.get? b=some o->h'.get? b=some o)->p.Perm (List.range vs.length)->pick .non p ds=qz ds->h'.get? (s.heap.objs.size+1)=some (seqObj "list" (pick .none p vs).toArray c)->Q (.ref (s.heap.objs.size+1)) {s with heap:=h'}):wpAny (model prog w) A (call (.builtin "sorted") [.ref l]) Q E s:=by
 refine Calls.call_function_entry kind_sorted plain_sorted entry_sorted (args_sorted1 _) ?_;unfold Builtin.«sorted»;refine wpAny_bind (m:=checkCount "sorted" 1 1 _) (wpAny_pure ?_);refine wpAny_bind (collect_list y ?_ (by rw[sizeLine_eq];omega));refine wpAny_bind (wpAny_newList ?_ (by rw[sizeLine_eq];omega));generalize t:((s.heap.push (seqObj "list" #[] 0)).update s.heap.objs.size (Obj.mapSeq (·++vs.toArray)):Heap)=k;have f:k.objs.size=s.heap.objs.size+1:=by rw[<-t,Heap.size_update,size_push']
 have keep:∀b o,s.heap.get? b=some o->k.get? b=some o:=λb o q=>by rw[<-t,Heap.get?_update_ne _ _ _ _ (ne_of_lt (lt_size q))];exact gG q
 generalize x:(k.push {cls:=.type "list",data:=.seq vs.toArray}:Heap)=i;have ho:i.get? (s.heap.objs.size+1)=some (seqObj "list" vs.toArray 0):=by rw[<-x,<-f];exact get?_push_size _ rfl
 have n:∀b o,s.heap.get? b=some o->i.get? b=some o:=λb o q=>by rw[<-x];exact gG (keep b o q)
 have a:∀b o,s.heap.get? b=some o->b≠s.heap.objs.size+1:=λb o q=>ne_of_lt (Nat.lt_succ_of_lt (lt_size q));show wpAny _ _ _ _ _ {s with heap:=i};rw[f];refine wpAny_bind (wpAny_holding (wpAny_call_entry slot_list_sort ⟨_,ho,rfl⟩ entry_list_sort ?body (args_list_sort _)));case body=>refine zX (s:={s with heap:=i}) (κ:=κ) ho z hz B fn (λh' g C r H=>G h' (λb o q=>g b o (a b o q) (n b o q)) C r H) (λh' g u v d e hd he C r=>j h' (λb o q=>g b o (a b o q) (n b o q)) u v d e hd he C r) λh' c p g I J e=>?_;exact⟨_,rfl,wpAny_pure ⟨_,rfl,h h' c p (λb o q=>g b o (a b o q) (n b o q)) I J e⟩⟩
theorem lV{b fin:Bool}{Q:Bool->Shared->Prop}:∀{xs ys:List Value}{is js:List Int}{i:Nat},IntsAre xs is->IntsAre ys js->fin=decide (is.length<js.length)->Q (aW is js) s->KatLex prog w A b fin Q (xs.zip ys) i s
 |_,_,_,_,_,.nil,.nil,e,h=>by subst e;exact kat_nil (by simpa[aW]using h)|_,_,_,_,_,.nil,.cons _ _ _,e,h=>by subst e;exact kat_nil (by simpa[aW]using h)|_,_,_,_,_,.cons _ _ _,.nil,e,h=>by subst e;exact kat_nil (by simpa[aW]using h)|_,_,_,_,i,.cons (ns:=is) x t r,.cons (ns:=js) y u r',e,h=>by
   refine kat_cons (wpAny_eqBool_int ?_);by_cases q:x=y;.subst q;rw[beq_self_eq_true];refine kat_yes (lV r r' (by rw[e];simp) ?_);simpa[aW]using h
   . rw[beq_eq_false_iff_ne.mpr q];refine kat_no ?_;have a:Q (decide (x<y)) s:=by simpa[aW,q]using h
     cases(b&&i==0)with|true=>exact oneLt_int a|false=>exact kat_one _ _ (wpAny_lt_int a)
def nZ(h:Heap)(u:Value)(d:D):Prop:=∃a b is,u=.ref a/\IsTup h a (toArray b)/\IntsAre b is/\is≠[]/\bD d=is
theorem lG{h h':Heap}(k:∀b o,h.get? b=some o->h'.get? b=some o){u:Value}{d:D}(t:nZ h u d):nZ h' u d:=by obtain⟨a,c,is,e,⟨o,h1,f⟩,g⟩:=t;exact⟨a,c,is,e,⟨o,k _ _ h1,f⟩,g⟩
theorem qp{h h':Heap}(k:∀b o,h.get? b=some o->h'.get? b=some o):∀{a:List Value}{ds:List D},Paired (nZ h) a ds->Paired (nZ h') a ds|_,_,.nil=>.nil|_,_,.cons r t=>.cons (lG k r) (qp k t)
theorem lZ{h:Heap}:∀{b:List Value}{ds:List D},Paired (nZ h) b ds->∃fs,KatTups h b fs/\fs.length=b.length/\∀f∈fs,∃n t,f=Value.int n t|_,_,.nil=>⟨[],trivial,rfl,by simp⟩|_,_,.cons r t=>by obtain⟨fs,h1,e,g⟩:=lZ t;obtain⟨a,i,is,rfl,⟨o,j,k,n,l⟩,m,c,_⟩:=r;cases m with|nil=>exact absurd rfl c|cons x p r'=>
     refine⟨.int x p::fs,KatTups.cons j k l (by simp) h1,by simp[e],λf hf=>?_⟩;rcases mem_cons.mp hf with rfl|hf;.exact⟨_,_,rfl⟩
     .exact g f hf
theorem zL{ds:List D}(t:Paired (nZ s.heap) vs ds)(e:2<=vs.length){C:SortKind->Shared->Prop}(a:C (tuples' (Value.type "int"!=Value.type "tuple")) s):wpAny (model prog w) A (keyKind' vs.toArray) C E s:=by obtain⟨fs,h1,f,b⟩:=lZ t;refine kat_kind (T:=.type "int") h1 (by omega) (λv c=>?_) rfl a;obtain⟨n,t,rfl⟩:=b v c;exact Looks.now
theorem HS{x y:Value}{d e:D}(i:nZ s.heap x d)(j:nZ s.heap y e){b:Bool}{C:Bool->Shared->Prop}(c:C (aW (bD d) (bD e)) s):wpAny (model prog w) A (keyLt' (tuples' b) x y) C E s:=by obtain⟨a,k,is,rfl,⟨o,l,v,n,m⟩,f,p,q⟩:=i;obtain⟨z,its',js,rfl,⟨B,r,G,H,t⟩,g,h,u⟩:=j;refine kat_lt l m r t ?_;rw[q,u]at c;refine lV (is:=is) (js:=js) (by simpa using f) (by simpa using g) ?_ c;rw[size_toArray,size_toArray,IntsAre.length f,IntsAre.length g]
end
theorem zQ{xs:List V}{a:List Value}(h:Vals xs a)(i:Nat):RelV (xs.getD i .non) (a.getD i .none):=by
 have g:=h.length;by_cases b:i<xs.length
 . obtain⟨u,e,r⟩:=h.get (i:=i) (x:=xs[i]) (getElem?_eq_getElem b);have c:xs.getD i .non=xs[i]:=by simp[b]
   have f:a.getD i .none=u:=by simp[e]
   rw[c,f];exact r
 . have c:xs.getD i .non=.non:=by simp[Nat.le_of_not_lt b]
   have f:a.getD i .none=.none:=by simp[show a.length<=i by omega]
   rw[c,f];rfl
theorem vh{f:Nat->V}{g:Nat->Value}(h:∀i,RelV (f i) (g i)):∀l:List Nat,Vals (l.map f) (l.map g)|[]=>.nil|i::l=>.cons (h i) (vh h l)
theorem Bk{p:List Nat}{xs:List V}{a:List Value}(h:Vals xs a):Vals (pick .non p xs) (pick .none p a):=vh (zQ h) _
theorem uZ{K:PySem.W.Frag}{F:Hp}{f:Nat->V}{g:Nat->D}(h:∀i,Rep K F (f i) (g i)):∀l:List Nat,aD K F (l.map f) (l.map g)|[]=>.nil|i::l=>.cons (h i) (uZ h l)
theorem Dn{K:PySem.W.Frag}{F:Hp}{p:List Nat}{xs:List V}{ds:List D}(h:aD K F xs ds):aD K F (pick .non p xs) (pick .non p ds):=uZ (λi=>by
 have f:=h.length;by_cases a:i<ds.length
 . obtain⟨u,e,r⟩:=h.get (i:=i) (d:=ds[i]) (getElem?_eq_getElem a);have b:ds.getD i .non=ds[i]:=by simp[a]
   have c:xs.getD i .non=u:=by simp[e]
   rw[b,c];exact r
 . have b:ds.getD i .non=.non:=by simp[Nat.le_of_not_lt a]
   have c:xs.getD i .non=.non:=by simp[show xs.length<=i by omega]
   rw[b,c,Rep]) _
def BJ(u:Value)(d:D):Prop:=∃n t,u=.int n t/\bD d=[n]
theorem GX(u:Value)(d e:D):BJ u d->BJ u e->bD d=bD e:=λ⟨n,t,h1,b⟩⟨m,t',a,c⟩=>by rw[h1]at a;cases a;rw[b,c]
theorem FQ{prog:Program}{w:World}{A:Around}{E:Value->Shared->Prop}{s:Shared}{x y:Value}{d e:D}(b:BJ x d)(c:BJ y e){C:Bool->Shared->Prop}(a:C (aW (bD d) (bD e)) s):wpAny (model prog w) A (keyLt' oneType' x y) C E s:=by obtain⟨n,t,rfl,k1⟩:=b;obtain⟨m,t',rfl,k2⟩:=c;refine kat_lt_int ?_;rw[k1,k2,show aW [n] [m]=decide (n<m)by simp[aW]]at a;exact a
theorem Jb:∀{a:List Value}{ns:List Int},IntsAre a ns->Paired BJ a (ns.map D.int)|_,_,.nil=>.nil|_,_,.cons n t r=>.cons ⟨n,t,rfl,rfl⟩ (Jb r)
theorem Dk{a:List Value}:∀{ns b:List Int},IntsAre a ns->IntsAre a b->ns=b:=by induction a with|nil=>intro ns b h1 c;cases h1;cases c;rfl|cons u a e=>intro ns b h1 c;cases h1 with|cons n t r=>cases c with|cons m t' r'=>rw[e r r']
theorem EY{h:Heap}(u:Value)(d e:D):nZ h u d->nZ h u e->bD d=bD e:=λ⟨a,i,is,h1,⟨o,j,t,n,k⟩,l,_,p⟩⟨b,q,js,c,⟨v,f,w,m,g⟩,r,_,s⟩=>by rw[h1]at c;cases c;rw[j]at f;cases f;rw[k]at g;cases g;rw[p,s,Dk l r]
theorem all_ints:∀{ds:List D},ds.all dR=true->ds=(ds.map lB).map D.int
 |[],_=>rfl|d::ds,h=>by
   simp only[all_cons,and_eq_true]at h;cases d<;>first|(have q:=h.1;simp[dR]at q;done)|skip
   rw[map_cons,map_cons,<-all_ints h.2];rfl
theorem intsAre_of:∀{ns:List Int}{a:List Value},Vals (ns.map V.int) a->IntsAre a ns|[],_,.nil=>.nil|n::ns,_,.cons r t=>by obtain⟨b,rfl⟩:=r;exact .cons n b (intsAre_of t)
section
variable{X:Cx}{c:Call}{a:Expr}{pa:P}{pos:Pos}
theorem yO{b:List (Addr×Obj)}{l:L2.St}{F H:Hp}{s:Shared}(I:L2.Inv X b l H s)(i:aM F H):∀{ds:List D}{ys:List V}{e:List Value},aD X.K F ys ds->Vals ys e->ds.all nQ=true->Paired (nZ s.heap) e ds|[],ys,e,h,v,_=>by rw[h.fX]at v;cases v;exact .nil|d::ds,ys,e,h,v,o=>by obtain⟨y,r,rfl,h1,m⟩:=h.cB;simp only[all_cons,and_eq_true]at o;cases v with|cons n p=>
     refine .cons ?_ (yO I i m p o.2);cases d<;>first|(have q:=o.1;simp[nQ]at q;done)|skip
     rename_i f;cases f with|nil=>exact absurd o.1 (by simp[nQ])|cons x xs=>obtain⟨ad,u,rfl,t,j,_⟩:=cU.tup i (.inl h1);cases n;obtain⟨g,k,it,_⟩:=I.tuple t;rw[all_ints o.1]at j;rw[dB j]at k;exact⟨ad,g,_,rfl,it,intsAre_of k,by simp,rfl⟩
theorem Bl:fP X (.builtin "sorted") (NP X.K λx=>blt .sorted [x]):=by
 rintro h s J H xs us Q I r⟨x,L,F,d,r',t,M,he,k⟩;have N:=dC (show(vU d).bind (λds=>if sortable ds then some (.own (qz ds))else none)=some r' from he);clear he;obtain⟨ds,z,he⟩:=N
 cases d with|lst O=>
   cases z;obtain⟨p,ys,rfl,U,n⟩:=M.lst t;subst L;obtain⟨u,rfl,W⟩:=r.one;cases W;obtain⟨f,i,B,hz⟩:=I.list U;by_cases j:sortable ds=true
   . rw[if_pos j]at he;cases he;have hl:f.length=ds.length:=by rw[<-i.length,n.length]
     have l:=j;simp only[sortable,and_eq_true,or_eq_true,decide_eq_true_eq]at l;have fin:∀h' c p,(∀b o,s.heap.get? b=some o->h'.get? b=some o)->p.Perm (List.range f.length)->pick .non p ds=qz ds->h'.get? (s.heap.objs.size+1)=some (seqObj "list" (pick .none p f).toArray c)->EP X h J Q (.ref (s.heap.objs.size+1)) {s with heap:=h'}:=by
      intro h' c p kp Y Z e;refine⟨.ref (s.heap.objs.size+1),_,I.laid (t':=s.toks) (o:=.lst (pick .non p ys)) (h':=h') kp (le_succ _) ⟨by rw[nD Y,<-i.length];exact hz,pick .none p f,c,Bk i,e⟩,rfl,?_⟩;have w:aD X.K F (pick .non p ys) (qz ds):=by rw[<-Z];exact Dn n
      exact Ai t w (I.hok.fresh (le_succ _)) k
     rcases l.2 with oi|ot
     . have m:=n;rw[all_ints oi]at m;have q:IntsAre f (ds.map lB):=intsAre_of (by rw[<-dB m];exact i);refine my (vs:=f) (κ:=oneType') B.isList j (by omega) (by have:=Jb q;rwa[<-all_ints oi]at this) GX (λh' kp C g y=>?_) (λh' kp u v d e hd he C g=>?_) fin;.match f,q,y with|v1::v2::G,q,_=>rw[keyKind_ints q];exact wpAny_pure g
       .exact FQ hd he g
     .have tt:=yO I t n i ot;refine my (vs:=f) (κ:=tuples' (Value.type "int"!=Value.type "tuple")) B.isList j (by omega) tt EY (λh' kp C g y=>zL (s:={s with heap:=h'}) (qp kp tt) y g) (λh' kp u v d e hd he C g=>?_) fin;exact HS (s:={s with heap:=h'}) (lG kp hd) (lG kp he) g
   .rw[if_neg j]at he;cases he|_=>cases z
theorem boot_sorted:bootBuiltins "sorted"=some (.builtin "sorted"):=by decide+kernel
theorem pP{x:Str}{p':Pos}(b:x="sorted")(e:Gl X x)(f:X.mg x=none)(g:SX X c a pa)(hs:starEach [a] X.env=(false,eval a X.env)::starEach [] X.env:=by rfl):SX X c (.Call (.Name x p') [a] [] pos) (.blt .sorted [pa]):=by subst b;exact pX (λh=>fW Bl e f boot_sorted h (he:=hs)) g (λρ=>rfl) rfl hs
end
end HH
end
section
namespace HH
open PySem L2 PySem.Spec PyProof.Rows PySem.Calls
theorem wQ(l b:Addr)(items a:List Value)(n J:Nat)(dd o:Option Addr)(L r:Array (Option Value))(is js:List Int)(H:IntsAre items is)(I:IntsAre a js):Meets (Builtin.«tuple.__lt__» ⟨[.ref l,.ref b],[]⟩) (λA R s=>s.heap.get? l=some {cls:=.type "tuple",dict:=dd,data:=.seq items.toArray n,slots:=L}/\s.heap.get? b=some {cls:=.type "tuple",dict:=o,data:=.seq a.toArray J,slots:=r}/\R (.ok (.ret (.bool (aW is js)))) s):=.of_wp λprog w A R s h=>by
  obtain⟨v,g,d,z,os⟩:=s;obtain⟨M,N,h⟩:=h;have f2:=AutoSeq1.sub_tuple_tuple;wp_walk using wpAny_loadPart' M,wpAny_loadPart' N,wpAny_forIn_list _ (λf b B=>b.1=none/\B=⟨v,g,d,z,os⟩/\∃xs ys c j,f=xs.zip ys/\IntsAre xs c/\IntsAre ys j/\decide (items.length<a.length)=decide (c.length<j.length)/\R (.ok (.ret (.bool (aW c j)))) ⟨v,g,d,z,os⟩) _;case turn=>rintro⟨y,x⟩f b B⟨i,rfl,xs,ys,c,j,hz,h1,k,C,m⟩;cases h1 with|nil=>cases hz|cons p t h1=>cases k with|nil=>cases hz|cons q u k=>
       injection hz with hyx hrest;cases hyx;refine wpAny_bind (wpAny_eqBool_int ?_);by_cases e:p=q;.subst e;rw[beq_self_eq_true];wp_walk;exact⟨rfl,rfl,_,_,_,_,hrest,h1,k,by rw[C];simp,by simpa[aW]using m⟩
       . rw[beq_eq_false_iff_ne.mpr e];have G:R (.ok (.ret (.bool (decide (p<q))))) ⟨v,g,d,z,os⟩:=by simpa[aW,e]using m
         simp only[Bool.not_false,if_true];refine wpAny_bind (wpAny_rule ?_);refine wpAny_bind (show wpAny (model prog w) A.in1 (compareOp .Lt (Value.int p t) (Value.int q u)) _ _ _ from wpAny_lt_int ?_);refine wpAny_bind (wpAny_pure ?_);exact wpAny_pure (wpAny_pure ⟨_,rfl,G⟩)
  case fin=>
   rintro⟨b1,b2⟩B⟨i,rfl,xs,ys,c,j,hz,h1,k,C,m⟩;simp only at i;subst i;have e:aW c j=decide (items.length<a.length):=by rw[C];cases h1 with|nil=>cases k<;>simp[aW]|cons _ _ _=>cases k with|nil=>simp[aW]|cons _ _ _=>cases hz
   rw[e]at m;wp_walk;exact⟨_,rfl,by simpa[Builtin.Tuple.tupleCompareSizes]using m⟩
  case h=>exact⟨rfl,rfl,items,a,is,js,by simp,H,I,by rw[IntsAre.length H,IntsAre.length I],h⟩
section
variable{X:Cx}
theorem gK(hu:X.A.units+8<cLine):dH X (compareOp .Lt) (rD X.K (lF .lt)):=by rintro f s σ H x y v u Q I L M⟨F,d,e,r,q,N,O,he,k⟩;obtain⟨t,c,z⟩:=map_some (show(R6 d e).map _=some r from he);subst z;cases d with
 |int i=>cases e with|int j=>exact N7 f s σ H x y v u Q I L M ⟨F,.int i,.int j,_,q,N,O,by have z:El (λi j=>decide (i<j)) (.int i) (.int j)=some t:=c;simp only[z];rfl,k⟩|_=>cases c
 |tup xs=>cases e with|tup ys=>obtain⟨hc,c⟩:=bA (show(if(xs.all dR&&ys.all dR)=true then some (aW (xs.map lB) (ys.map lB))else none)=some t from c);rw[and_eq_true]at hc;obtain⟨a,vs,rfl,h1,U,_⟩:=N.tup q;obtain⟨b,ws,rfl,h3,W,_⟩:=O.tup q;cases L;cases M;obtain⟨B,Y,it,_⟩:=I.tuple h1;obtain⟨g,h,C,_⟩:=I.tuple h3;rw[all_ints hc.1]at U;rw[all_ints hc.2]at W;rw[dB U]at Y;rw[dB W]at h;have i1:=intsAre_of Y;have i2:=intsAre_of h;obtain⟨⟨cls,dd,data,sl⟩,ho,l,n,hd⟩:=it;obtain⟨⟨Z,G,data2,J⟩,m,o,n2,p⟩:=C;simp only at l hd o p;subst l hd o p;refine(show wpAny (model X.prog X.w) X.A (richCompare .Lt (.ref a) (.ref b)) _ _ s from richCompare_meets_room (op:=.Lt) ⟨_,ho,rfl⟩ ⟨_,m,rfl⟩ PySem.F.slot_tuple_lt PySem.F.entry_tuple_lt (PySem.F.args_tuple_lt_2 _ _) (wQ a b B g n n2 dd G sl J _ _ i1 i2) ⟨ho,m,show Value.bool _≠Value.notImplemented/\_ from⟨(λx=>nomatch x),⟨.bl t,H,I,by rw[<-c];rfl,bQ.cV q (iy _) k⟩⟩⟩ (by omega))|_=>cases c
 |_=>cases c
end
end HH
end
section
namespace HH
open PySem L2 PySem.Spec PyProof.Rows
section
variable{X:Cx}{c:Call}{n:Nat}{W:Nat->Hp->Prop}{e:Expr}{p:P}{body:List Stmt}{ss:List S}{pos:Pos}
theorem Gj(M:PassesOwn (model X.prog X.w) X.A X.env X.xe)(N:ST X c e p)(O:SB X c n body ss)(v:K6 X c n W body ss):Tc X c n W (.While e body [] pos) (.whl p ss):=by refine dI (tD M N (Ni O v)) ?_;rintro D x H⟨F,ρ,k,h,Q,e,q⟩;rw[lz]at e;refine⟨λm j B=>∃l f,bK X.K F ρ x H l f j B/\pA (dY (HH.ev c p)) (bO c n ss) (bI c n ss) m f=some (k,h),⟨n,F,ρ,.refl Q,e⟩,?_⟩;rintro m j B⟨l,f,C,a⟩;cases m with|zero=>rw[pA]at a;cases a|succ m=>rw[pA]at a;cases et:dY (HH.ev c p) f with|stuck=>rw[et]at a;cases a|exc _ _=>rw[et]at a;cases a|ok b g=>rw[et]at a;refine⟨l,f,b,g,C.gs,et,λG U s1=>?_⟩;have s2:=C.trans s1;cases b with|false=>cases a|true=>dsimp only at a;rw[if_pos rfl];refine⟨λo I=>∃J,J<m+1/\∃l f,bK X.K F ρ x H l f o I/\pA (dY (HH.ev c p)) (bO c n ss) (bI c n ss) J f=some (k,h),λo I z=>z,?_⟩;cases Pu:bI c n ss g with|some y=>rw[Pu]at a;cases a;exact .inr ⟨G,g,k,h,s2.gs,Pu,λu s L s4=>q u s L (s2.trans s4)⟩|none=>rw[Pu]at a;dsimp only at a;cases eb:bO c n ss g with|stuck=>rw[eb]at a;cases a|exc _ _=>rw[eb]at a;cases a|ok t i=>rw[eb]at a;refine .inl ⟨G,g,t,i,s2.gs,eb,λu s L s4=>?_⟩;have s5:=s2.trans s4;cases t with|next=>exact⟨m,by omega,u,i,s5,a⟩|cont=>exact⟨m,by omega,u,i,s5,a⟩|brk=>cases a|ret r=>cases a
end
end HH
end
section
namespace L2
open PySem PySem.Spec PyProof.Rows
def Dh(X:Cx)(E:St->XK):Prop:=∀(a:List (Addr×Obj))(b:St)(H:Hp)(s:Shared)(C e:Addr),Inv X a b H s->TF X.s₀.heap H C e s.heap->Off X.pn e s.heap->E b (.ref e) (some C) H->X.xe (.ref e) s
def rC(CX:yo)(X:Cx)(E:St->XK):Prop:=∀(a:List (Addr×Obj))(b:St)(H:Hp)(s:Shared)(e:Value)(c:Shared),Inv X a b H s->CX X.stack H s (E b) e c->X.xe e c
def NK(sp:Sp)(b:List V)(E:St->XK)(t:TA):TE:=λa H Q=>t a H λvs c=>sp (vs++b) c Q (E a)
section
variable{X:Cx}{CX:yo}{k:Nat}{f C:Addr}{fd:FuncData}{ps:List Str}{sp:Sp}{vB:List V}{ds:List Value}{E:St->XK}{x m:Str}{p pos apos:Pos}{e o:Expr}{es:List Expr}{ta:TE}{t:TA}
theorem G7{a:List (Addr×Obj)}{c:St}{H:Hp}{s:Shared}{Q:VK}{b:List Value}{vs:List V}(F:gP X.prog X.w X.K X.mg X.base CX k f fd ps sp)(hr:eX k X.A)(j:Binds X.K fd ps ds)(hd:Vals vB ds)(l:rC CX X E)(I:Inv X a c H s)(r:Vals vs b)(h:sp (vs++vB) H Q (E c)):wpAny (model X.prog X.w) X.A (call (.ref f) b) (EP X a c Q) X.xe s:=by
 have i:Vals (vs++vB) (b++ds):=r.append hd;have n:(b++ds).length=ps.length:=by rw[<-i.length];exact F.len _ _ _ _ h
 refine wpAny_call (codeAny_mono (F.run X.A X.stack s H ⟨b,[]⟩ (b++ds) (vs++vB) Q (E c) hr I.env0 (j s b I.JV n) i h) λr q g=>?_);cases r with|error e=>exact l a c H s e q I g|ok v=>cases v with|ret u=>exact I.after g|next=>exact False.elim g|brk=>exact False.elim g|cont=>exact False.elim g
theorem Be(F:gP X.prog X.w X.K X.mg X.base CX k f fd ps sp)(hr:eX k X.A)(c:Gl X x)(g:X.mg x=some (.ref f))(i:keepIn X.K (.ref f)=true)(j:Binds X.K fd ps ds)(hd:Vals vB ds)(l:rC CX X E)(n:PA X (e::es) t)(b:(x==("__debug__":Str))=false:=by decide)(he:starEach (e::es) X.env=(false,eval e X.env)::starEach es X.env:=by rfl)(hpl:(backTo pos (starEach es X.env)).any (·.1)=false:=by rfl):PE X (.Call (.Name x p) (e::es) [] pos) (NK sp vB E t):=by intro a s u H Q I h;refine wpAny_Call_Name_kw (kh I c g ?_ b);refine callWith_K (h₀:=X.base) I.ok.mod.WR i (cJ (n pos a s u H _ I h) λv s1⟨vs,H1,I1,r,q⟩=>⟨I1.JV,?_⟩) he hpl;exact G7 F hr j hd l I1 r q
end
section
variable{X:Cx}
theorem Nh{E:St->XK}(j:X.ex=[])(G:Dh X E):rC (Av X.prog X.w) X E:=by
 rintro f l H s e J I⟨m,C,L,he,os,bare,un,ok,h,q⟩;subst he;obtain⟨hh,g,d,t,k⟩:=J;obtain rfl:k=s.os:=os;have M:Inv X f l m ⟨hh,g,d,t,s.os⟩:=I.call (h':=hh) (g':=g) (d':=d) (t':=t) (ch:=[]) un ok bare (λb z=>absurd z (by simp));have r:∀b,s.heap.get? b=none->X.s₀.heap.get? b=none:=λb n=>by cases z:X.s₀.heap.get? b with|none=>rfl|some o=>obtain⟨o',u⟩:=I.base.there b o z (by rw[j];simp);rw[n]at u;cases u
 obtain⟨N,v,x⟩:=h.ex;exact G f l m _ C L M ⟨h.free,r _ h.new,N,v,x.imp id λ⟨T,a,b,c,d',n⟩=>⟨T,a,b,c,d',r _ n⟩⟩ (λp O=>by
  have i:=(I.pin p (mem_append_left _ O)).1;refine⟨λz=>?_,λC2 Q U z=>?_⟩;.rw[z,h.new]at i;cases i
  . obtain⟨o,vs,W,_,Y,Z,_⟩:=v;obtain⟨o2,ae,r1,_,y,B,_⟩:=U;rw[W]at r1;cases r1;rw[Y]at y;cases y;rw[Z]at B;cases B;rcases x with t|⟨T,t,_,_,_,n⟩;.rw[t]at z;cases z
    .rw[t]at z;cases z;rw[n]at i;cases i) q
end
section
variable{X:Cx}{pins qC:List (Addr×Obj)}{σ:St}{H:Hp}{s:Shared}{jH:Value->Shared->Prop}{e:Addr}
theorem Gk{x:Str}{C:Addr}{bm:List Value}{m:String}{E:St->XK}{body h:List Stmt}{b0:Stmt}{np l pos:Pos}{tb th:TS}(hg:Gl X x)(O:OwnCls x C bm m X.mg X.base)(r:bm.contains (.type "BaseException")=true)(t:X.ex=[])(L:X.stack=X.env::X.outer/\X.env.frame=some X.env.locals)(hE:∀e,PassesOwnAt (model X.prog X.w) (X.A.mark (some (.ref e))) X.A X.env X.xe)(hb:∀pins jH,PassesOwn (model X.prog X.w) X.A X.env jH->Dh (kj X pins jH) E->mL (kj X pins jH) body tb)(hh:∀e,mL (mz X e) (b0::h) th)(hd:(x==("__debug__":Str))=false:=by decide):PS X (.Try body [.ExceptHandler (some (.Name x np)) none (b0::h) l] [] [] pos) (λD σ H=>tb D σ H/\∀g e C' j,g.length=X.N.length->E g (.ref e) (some C') j->Under X.base C' C/\th D g j):=by
 rintro pins s σ H D I⟨h1,h2⟩;refine wpAny_Try_except ?_;generalize W2:(λ(e:Value)(M:Shared)=>wpAny (model X.prog X.w) X.A (noteFrame e X.env) (λ_ Q=>wpAny (model X.prog X.w) X.A (setFlight e none) (λ_ U=>wpAny (model X.prog X.w) X.A (handleBy e X.env [.ExceptHandler (some (.Name x np)) none (b0::h) l]) (SP X pins D) X.xe U) X.xe Q) X.xe M)=jH;have W:PassesOwn (model X.prog X.w) X.A X.env jH:=by rw[<-W2];exact PassesOwn.looking
 have hX:Dh (kj X pins jH) E:=by
  intro qC g j k C' e I' fl af q;obtain⟨un,ht⟩:=h2 g e C' j I'.len q;obtain⟨Y,Z,v⟩:=fl.ex;have J:Inv X pins g j k:=jT I';show jH (.ref e) k;rw[<-W2];show wpAny (model X.prog X.w) X.A (noteFrame (.ref e) X.env) _ X.xe k;refine qt (base:=X.base) (env:=X.env) (outer:=X.outer) (by rw[J.ok.frames,L.1]) (by rw[<-L.1];exact J.stack) L.2 Z (v.imp id λ⟨T,a,b,c,_⟩=>⟨T,a,b,c⟩) λh' B n1 n2 b x' t'=>?_;have b':mq (frs X.stack) (e::Gp Y) k.heap h':=by rw[L.1];exact b
  obtain⟨u,ok,ah⟩:=p8 (X:=X) (outer:=X.outer) J t L fl Z v n1 n2 b' x' t';have nT:∀T,Y=.ref T->Eh k.heap T .none:=λT z=>by
   rcases v with y|⟨T2,y,_,q,_⟩;.rw[y]at z;cases z
   .rw[y]at z;cases z;exact q
  have i:Inv X pins g j {k with heap:=h'}:=J.but b' (by rw[t];exact u) ok (λz=>by
   rcases mem_cons.mp z with z|z;.exact(Z.nl J).1 z
   .exact((nT _ (rN z)).nl J).1 rfl) (λy c hc z=>by
   rcases mem_cons.mp z with z|z;.exact(Z.nl J).2 y c hc z
   .exact((nT _ (rN z)).nl J).2 y c hc rfl) (λp W z=>by
   have o:=af p W;rcases mem_cons.mp z with z|z;.exact o.1 z
   .exact o.2 _ _ Z (rN z));have I3:Inv (mz X e) pins g j {k with heap:=h'}:=uz i;obtain⟨oe,vs,q1,q2,q3,q4,q5⟩:=id x';obtain⟨oT,ts,z1,z2,z3⟩:=id t';refine rE r (kh (X:=mz X e) I3 hg O.bound ⟨rfl,O.keeps i.bk,un.keeps i.bk,⟨oe,q1,q2⟩,?_⟩ hd);unfold setFlight;refine wpAny_bind (wpAny_field q1 q3 q4 ?_);rw[if_pos (show(Value.ref B !=Value.none)=true from by simp)];refine wpAny_setField z1 z2 (Array.getElem?_eq_some_iff.mp z3).1 ?_;have ag:j B=none:=J.hok.fresh n1;have ae:k.heap.get? B=none:=get?_none_of_le n1;have b2:mq (frs X.stack) [B] h' (h'.update B (Obj.mapFields (·.setIfInBounds 3 ((none:Option Addr).elim Value.none λf=>rawInt f)))):=mq.set _ _ _;have G:∀c o,X.s₀.heap.get? c=some o->c≠B:=λc o z y=>by obtain⟨o',w⟩:=J.base.there c o z (by rw[t];simp);rw[y,ae]at w;cases w
  have I4:Inv X pins g j {k with heap:=h'.update B (Obj.mapFields (·.setIfInBounds 3 ((none:Option Addr).elim Value.none λf=>rawInt f)))}:=i.but b2 ⟨λc o q n nf ne=>by rw[get?_update_other _ _ (Ne.symm (G c o q))];exact i.base.keep c o q n nf ne,λc o q n hf ne=>by rw[get?_update_other _ _ (Ne.symm (G c o q))];exact i.base.slot c o q n hf ne,i.base.free,λc o q ne=>by rw[get?_update_other _ _ (Ne.symm (G c o q))];exact i.base.there c o q ne,i.base.tups,i.base.o9,i.base.pG⟩ (b2.hok i.hok i.mY λc hc=>by rw[mem_singleton.mp hc];exact ag) (λz=>(t'.nl i).1 (mem_singleton.mp z)) (λy c hc z=>(t'.nl i).2 y c hc (mem_singleton.mp z)) (λp W z=>by have w:=(J.pin p W).1;rw[mem_singleton.mp z,ae]at w;cases w);refine wpAny_passesOwnAt (hE e) (cJ (hh e pins _ g j D (uz I4) ht) λf s5 y=>?_);cases f with|next=>obtain⟨a,b,c,d⟩:=y;exact⟨a,b,jK J.ok c,d⟩|brk=>obtain⟨a,b,c,d⟩:=y;exact⟨a,b,jK J.ok c,d⟩|cont=>obtain⟨a,b,c,d⟩:=y;exact⟨a,b,jK J.ok c,d⟩|ret u=>obtain⟨a,b,c,d,y⟩:=y;exact⟨a,b,c,jK J.ok d,y⟩
 have w:=hb pins jH W hX [] s σ H D (Fo I) h1;refine wpAny_mono w (λf s5 y=>?_) λe s5 y=>?_;.cases f with|next=>obtain⟨a,b,c,d⟩:=y;show wpAny (model X.prog X.w) X.A (execs [] X.env) _ _ s5;exact wpAny_execs_nil ⟨a,b,jT c,d⟩|brk=>obtain⟨a,b,c,d⟩:=y;exact⟨a,b,jT c,d⟩|cont=>obtain⟨a,b,c,d⟩:=y;exact⟨a,b,jT c,d⟩|ret u=>obtain⟨a,b,c,d,y⟩:=y;exact⟨a,b,c,jT d,y⟩
 .exact y
end
end L2
namespace HH
open PySem L2 PySem.Spec PyProof.Rows
section
variable{X:Cx}{c:Call}{n:Nat}{W:L2.St->Nat->Hp->Prop}{e:Expr}{pos:Pos}
theorem zV{cl:Nat->Addr}{kk o np:Nat}{y:Str}{p' cpos:Pos}{f:List Expr}{ps:List P}(r:X.ex=[])(C:Dh X (λa=>EW cl (W a)))(G:pM X.prog X.w X.K X.mg X.base cl kk c o y np)(hr:eX kk X.A)(I:SG X c (e::f) ps)(J:Gl X y:=by rfl)(L:(e::f).length=np:=by rfl)(t:(y==("__debug__":Str))=false:=by rfl)(he:starEach (e::f) X.env=(false,eval e X.env)::starEach f X.env:=by exact cG rfl)(hpl:(backTo cpos (starEach f X.env)).any (·.1)=false:=by rfl)(u:ps.length=(e::f).length:=by rfl):∃te:TE,PE X (.Call (.Name y p') (e::f) [] cpos) te/\∀a H Q,(∃F ρ k h,GS X.K F ρ a H/\dz c (.call o ps) ρ=some (k,h)/\∀v m,bK X.K F ρ a H v h a m->W a k m)->te a H Q:=by
 obtain⟨fa,fd,z,h1,M,N,O,U⟩:=G.ex;have Y:=Be (p:=p') (pos:=cpos) (E:=λa=>EW cl (W a)) h1 hr J M N O .nil (Nh r C) I t he hpl;refine⟨_,Y,?_⟩;rintro a H Q⟨F,ρ,k,h,g,b,q⟩;unfold dz fH at b;dsimp only at b;split at b
 . rename_i xs x B;split at b
   . rename_i args j;split at b
     . rename_i k' i hc;cases b;refine⟨F,ρ,xs,x,g,B,λvs Z H1 s1 A=>?_⟩;have l:vs.length=z.length:=by rw[<-A.len,G4 B,u,L,U]
       show UJ X.K cl z.length (c o) (vs++[]) H1 _ (EW cl (W a));rw[append_nil];refine⟨l,Z,args,k,i,args_gs s1.gs A j,hc,λv ae m e2 s=>⟨k,rfl,?_⟩⟩;obtain⟨z1,_⟩:=tH s1 A j s;exact q v m z1
     .cases b
   .cases b
 .cases b
variable{cl:Nat->Addr}
theorem G8{kk i L kf Vn:Nat}{x y fn:Str}{bm:List Value}{B:String}{np M u f j p' cpos:Pos}{m:List Expr}{ps:List P}{U:Expr}{C:P}(hg:Gl X x)(O:OwnCls x (cl kk) bm B X.mg X.base)(G:bm.contains (.type "BaseException")=true)(Q:X.ex=[])(pH:X.stack=X.env::X.outer/\X.env.frame=some X.env.locals)(hE:∀e,PassesOwnAt (model X.prog X.w) (X.A.mark (some (.ref e))) X.A X.env X.xe)(hN:X.N.Nodup)(hi:X.N[i]?=some y)(hy:Loc X.env.scope y)(Cf:pM X.prog X.w X.K X.mg X.base cl kf c L fn Vn)(hr:eX kf X.A)(ha:∀a l,SG (kj X a l) c (e::m) ps)(hb:∀a l,PassesOwn (model X.prog X.w) X.A X.env l->SS (kj X a l) c n (.Assign [.Name y j] (.Call (.Name fn p') (e::m) [] cpos) f) (.asg i (.call L ps)))(hh:∀e,SX (mz X e) c U C)(Y:Gl X fn:=by rfl)(hl:(e::m).length=Vn:=by rfl)(Z:(fn==("__debug__":Str))=false:=by rfl)(he:starEach (e::m) X.env=(false,eval e X.env)::starEach m X.env:=by exact cG rfl)(hpl:(backTo cpos (starEach m X.env)).any (·.1)=false:=by rfl)(ae:ps.length=(e::m).length:=by rfl)(hs:swapsWith (.Call (.Name fn p') (e::m) [] cpos) (some (.Name y j)) f.line X.env=pure false:=by rfl)(hf:X.fn y=true\/X.env.scope.names.lookup y=some .local:=by first|exact .inl rfl|exact .inr rfl|assumption)(hd:(x==("__debug__":Str))=false:=by rfl):SS X c n (.Try [.Assign [.Name y j] (.Call (.Name fn p') (e::m) [] cpos) f] [.ExceptHandler (some (.Name x np)) none [.Return (some U) u] M] [] [] pos) (.Ip i L ps kk C):=by
 rintro a s b H D I⟨F,ρ,fl,t,g,o,q⟩;have af:∀e,mL (mz X e) [.Return (some U) u] (λD b H=>vN X.K (HH.ev c C) b H D.rt):=λe=>nH (yM (wO (hh e).ev)) λD b H h=>h;have ag:∀a l,PassesOwn (model X.prog X.w) X.A X.env l->Dh (kj X a l) (λb=>EW cl (λk p=>k=kk/\vN X.K (HH.ev c C) b p D.rt))->mL (kj X a l) [.Assign [.Name y j] (.Call (.Name fn p') (e::m) [] cpos) f] (λD' b H=>Uw X.K (ex c n (.asg i (.call L ps))) D' b H\/∃F ρ k t,GS X.K F ρ b H/\dz c (.call L ps) ρ=some (k,t)/\∀F' p,bK X.K F ρ b H F' t b p->k=kk/\vN X.K (HH.ev c C) b p D.rt):=λa l hp hX=>by have z1:=hb a l hp;unfold SS at z1;obtain⟨te,h1,h2⟩:=zV (X:=kj X a l) (W:=λb k p=>k=kk/\vN X.K (HH.ev c C) b p D.rt) (p':=p') (cpos:=cpos) Q hX Cf hr (ha a l) Y hl Z he hpl ae;have z2:PS (kj X a l) (.Assign [.Name y j] (.Call (.Name fn p') (e::m) [] cpos) f) _:=Cp (X:=kj X a l) hN hi hy h1 hs hf;exact yM (Jx z1 (dI z2 λD' b H h=>h2 b H _ h))
 refine Gk (E:=λb=>EW cl (λk p=>k=kk/\vN X.K (HH.ev c C) b p D.rt)) hg O G Q pH hE ag af hd a s b H D I ⟨?_,λah e' C' p _⟨k,hC,hk,hr⟩=>?_⟩
 . rw[HH.X17]at o;split at o;.rename_i r J z;exact .inl ⟨F,ρ,fl,t,g,(by show(HH.ev c (.call L ps) ρ).bind _=_;rw[z];exact o),q⟩
   . split at o
     . rename_i k' J z;split at o;.rename_i hk;subst hk;obtain⟨r,ai,e2,o⟩:=ak o;cases o;exact .inr ⟨F,ρ,_,J,g,z,λF' p s=>⟨rfl,F',J,r,_,s.gs,e2,λv F2 H2 s2 rr=>q F2 b H2 (s.trans s2) v (.later s rr)⟩⟩
       .cases o
     .cases o
 .cases hC;subst hk;exact⟨L2.OwnCls.self O,hr⟩
end
end HH
end
noncomputable section
set_option maxHeartbeats 4000000
namespace T
open PySem L2 PySem.Spec PyProof.Rows HH
local macro_rules|`(term|⇑$n)=>`(P.con (.int $n))
local macro_rules|`(term|↑$n)=>`(P.var $n)
local macro_rules|`(tactic|ac_rfl)=>`(tactic|first|exact Or.inl rfl|exact Or.inr (Or.inl rfl))
set_option hygiene false
local macro_rules|`(term|↥($a,$b,$d))=>`(gP Pg w K mg base Bt (k+1) f fd $a (Ey K $b (λargs=>enter c n $d args)))
local macro_rules|`(term|↥($a,$b,$d,0))=>`(aZ Pg w K mg base k c $a $b $d)
set_option hygiene true
local macro_rules|`(term|⇑($x))=>`(λ_ _ _ _ _=>$x)
local macro_rules|`(term|nofun)=>`(⟨rfl,rfl,rfl,by decide+kernel,rfl,by decide+kernel,by decide+kernel⟩)
local macro_rules|`(tactic|exists$e)=>`(tactic|with_reducible refine$e)
local macro_rules|`(tactic|lia)=>`(tactic|with_reducible refine aQ ?_ ?_)
set_option hygiene false
local macro_rules|`(tactic|exists$i,$e)=>`(tactic|((with_reducible refine rT (i:=$i) ?_ ?_ ?_ ?_ ?_ ?_);exact nd;exact rfl;exact oi;rotate_left;rfl;exact oi;exact$e))
local macro_rules|`(tactic|exists$i,$e,0)=>`(tactic|((with_reducible refine G9 (i:=$i) ?_ ?_ ?_ ?_ ?_ ?_ ?_ ?_ ?_);exact PassesOwn.never;exact hc;exact nd;exact rfl;exact oi;exact$e;rotate_left;(· intro _;rfl);exact oi))
local macro_rules|`(tactic|exists$a,$b,0,0)=>`(tactic|(refine Rx $a $b rfl rfl λcdv A outer s H E hr=>?_;have nd:=($b).nd))
local macro_rules|`(tactic|exists(),$e)=>`(tactic|((with_reducible refine Ku ?_);exact$e))
set_option hygiene true
local macro_rules|`(term|‹$l›)=>`((show(($l):List Str).Nodup by decide+kernel))
theorem hc:true=true:=rfl
theorem oi{b:Type}{a:b}{p:Prop}:a=a\/p:=.inl rfl
theorem bf{X:Cx}{c:Call}{a:Expr}{b:List Expr}{e:P}{ps:List P}(f:SX X c a e)(hr:SG X c b ps)(h:XX a=true):SG X c (a::b) (e::ps):=Fb f hr (cG h)
theorem cY{X:Cx}{c:Call}{a:Expr}{b:List Expr}{e:P}{ps:List P}(f:SX X c a e)(hr:SA X c b ps)(h:XX a=true):SA X c (a::b) (e::ps):=yf f hr (cG h)
variable{Pg:Program}{w:World}{K:PySem.W.Frag}{mg:Str->Option Value}{base:Heap}{f:Addr}{fd:FuncData}{k n:Nat}{c:Call}{cl:Nat->Addr}
noncomputable def top(i:Nat):Stmt:=PySem.Challenge.pw_hourhaul_k11_whole_soonest_is_least.main.body.getD i (.Pass ⟨0,0,0,0⟩)
abbrev s0:Stmt:=top 7
noncomputable def b0:List S:=[.ret (.comp (.Vc (.idx ↑0 ⇑1)) 2 [2,3] false (some (.cmp .eq (.idx ↑3 ⇑0) ↑1)) ↑2)]
def f0:Fd:=⟨2,2,b0⟩
theorem sc0:aN ["net","place"] ["net","place"] (au s0):=nofun
include cl in
theorem d0(a:il K "ways_out" "ways_out" s0 f fd)(iY:mg "enumerate"=none):↥(["net","place"],2,f0):=by
 exists a,sc0,0,0;refine aQ ?_ ?_;.exists(),mX (N':=["net","place","number","way"]) hc (QB rfl (by rfl)) (Oe rfl (by rfl) iY (aj (sv 0) aa)) ⇑(N5 hc (uH (fj (i:=2) ‹["net","place","number","way"]› rfl (Or.inl rfl) (Or.inr rfl)) (uH (fj (i:=3) ‹["net","place","number","way"]› rfl (Or.inl rfl) (Or.inr rfl)) Fp))) (Ge rfl (uV (show 2<=2 by decide) (uV (show 2<=3 by decide) Gi))) ⇑(xZ (aF (cC (aO hr)) (aj (sv 3) aa) (sv 1) (aB _))) ⇑((sv 2))
 exact aq
abbrev s1:Stmt:=top 8
noncomputable def b1:List S:=[.ifs (.not (.chain .le .lt ⇑0 ↑1 (.blt .len [.idx ↑0 ⇑1]))) [.lq 2] [],.ret (.idx (.idx ↑0 ⇑1) ↑1)]
def f1:Fd:=⟨2,2,b1⟩
theorem sc1:aN ["net","number"] ["net","number"] (au s1):=nofun
include cl in
theorem d1(a:il K "known_way" "known_way" s1 f fd)(bH:mg "len"=none):↥(["net","number"],2,f1):=by
 exists a,sc1,0,0;refine aQ ?_ ?_;.exists bz ?_ ?_ ?_;exact ik (jX rR (gK (aO hr)) aa (sv 1) (cL rfl (by rfl) bH (aj (sv 0) aa)));(· lia;exact cX;exact aq);exact aq
 lia;.exists(),aj (aj (sv 0) aa) (sv 1)
 exact aq
abbrev s2:Stmt:=top 9
noncomputable def b2:List S:=[.asg 1 (.bin .sub (.idx ↑0 ⇑0) ⇑1),.asg 2 (.comp (.idx ↑0 ⇑1) 1 [3] true none (.tup [.bin .sub ↑1 (.idx ↑3 ⇑1),.bin .sub ↑1 (.idx ↑3 ⇑0),.idx ↑3 ⇑2,.idx ↑3 ⇑3])),.ret (.tup [.idx ↑0 ⇑0,.blt .tuple [↑2]])]
def f2:Fd:=⟨1,3,b2⟩
theorem sc2:aN ["net","end","ways"] ["net"] (au s2):=nofun
include cl in
theorem d2(a:il K "turned_net" "turned_net" s2 f fd)(bT:mg "tuple"=none):↥(["net"],1,f2):=by
 exists a,sc2,0,0;refine aQ ?_ ?_;.exists rT (i:=1) ?_ ?_ ?_ ?_ ?_ ?_;exact nd;exact rfl;exact Or.inr rfl;rotate_left;rfl;exact oi;exact az bB (aj (sv 0) aa) aa
 lia;.exact(yd (i:=2) (N':=["net","end","ways","way"]) hc nd rfl oi (QB rfl (by rfl)) (fJ (aj (sv 0) aa)) ⇑(fj (i:=3) ‹["net","end","ways","way"]› rfl (Or.inl rfl) (Or.inr rfl)) (iV (cD)) ⇑(mZ) ⇑((bY (cY (az bB (sv 1) (aj (sv 3) aa)) (cY (az bB (sv 1) (aj (sv 3) aa)) (cY (aj (sv 3) aa) (cY (aj (sv 3) aa) aK rfl) rfl) rfl) rfl))) (by rfl) (by intro _;rfl) (Or.inl rfl))
 lia;.exists(),bY (cY (aj (sv 0) aa) (cY (iD rfl (by rfl) bT (sv 2)) aK rfl) rfl)
 exact aq
abbrev s3:Stmt:=top 10
noncomputable def b3:List S:=[.ret (.Vb (.cmp .eq ↑1 ↑0) (.bin .add ↑0 ⇑1) ↑1)]
def f3:Fd:=⟨2,2,b3⟩
theorem sc3:aN ["end","place"] ["end","place"] (au s3):=nofun
include cl in
theorem d3(a:il K "end_moved" "end_moved" s3 f fd):↥(["end","place"],2,f3):=by
 exists a,sc3,0,0;refine aQ ?_ ?_;.exists(),Ms (aF (cC (aO hr)) (sv 1) (sv 0) (aB _)) (az aY (sv 0) aa) (sv 1)
 exact aq
abbrev s4:Stmt:=top 11
noncomputable def b4:List S:=[.asg 3 (.idx (.call 1 [↑0,↑1]) ⇑3),.ifs (.not (.chain .le .lt ⇑1 ↑2 ↑3)) [.lq 4] [],.asg 4 (.bin .sub (.idx ↑0 ⇑0) ⇑1),.asg 5 (.comp (.idx ↑0 ⇑1) 1 [7] true none (.tup [.call 3 [↑4,.idx ↑7 ⇑0],.call 3 [↑4,.idx ↑7 ⇑1],.idx ↑7 ⇑2,.idx ↑7 ⇑3])),.asg 6 (.idx ↑5 ↑1),.vC 5 ↑1 (.tup [.idx ↑6 ⇑0,↑4,.idx ↑6 ⇑2,↑2]),.app 5 (.tup [↑4,.idx ↑6 ⇑1,.idx ↑6 ⇑2,.bin .sub (.idx ↑6 ⇑3) ↑2]),.ret (.tup [.bin .add (.idx ↑0 ⇑0) ⇑1,.blt .tuple [↑5]])]
def f4:Fd:=⟨3,7,b4⟩
theorem sc4:aN ["net","number","hours","way_hours","new","ways","whole"] ["net","number","hours"] (au s4):=nofun
include cl in
theorem d4(b:il K "parted_net" "parted_net" s4 f fd)(bT:mg "tuple"=none)(a:↥(3,"end_moved",2,0))(e:↥(1,"known_way",2,0)):↥(["net","number","hours"],3,f4):=by
 exists b,sc4,0,0;refine aQ ?_ ?_;.exists 3,aj (dj e hr (bf (sv 0) (bf (sv 1) aA rfl) rfl)) aa
 lia;.exists bz ?_ ?_ ?_;exact ik (jX rR (gK (aO hr)) aa (sv 2) (sv 3));(· lia;exact cX;exact aq);exact aq
 lia;.exists rT (i:=4) ?_ ?_ ?_ ?_ ?_ ?_;exact nd;exact rfl;exact Or.inr rfl;rotate_left;rfl;exact oi;exact az bB (aj (sv 0) aa) aa
 lia;.exact(yd (i:=5) (N':=["net","number","hours","way_hours","new","ways","whole","way"]) hc nd rfl oi (QB rfl (by rfl)) (fJ (aj (sv 0) aa)) ⇑(fj (i:=7) ‹["net","number","hours","way_hours","new","ways","whole","way"]› rfl (Or.inl rfl) (Or.inr rfl)) (iV (cD)) ⇑(mZ) ⇑((bY (cY (dj a hr (bf (sv 4) (bf (aj (sv 7) aa) aA rfl) rfl)) (cY (dj a hr (bf (sv 4) (bf (aj (sv 7) aa) aA rfl) rfl)) (cY (aj (sv 7) aa) (cY (aj (sv 7) aa) aK rfl) rfl) rfl) rfl))) (by rfl) (by intro _;rfl) (Or.inl rfl))
 lia;.exists 6,aj (sv 5) (sv 1)
 lia;.exact(jL (k:=5) rfl (by ac_rfl) (sv 1) (bY (cY (aj (sv 6) aa) (cY (sv 4) (cY (aj (sv 6) aa) (cY (sv 2) aK rfl) rfl) rfl) rfl)))
 lia;.exact(bw (k:=5) rfl (by ac_rfl) (bY (cY (sv 4) (cY (aj (sv 6) aa) (cY (aj (sv 6) aa) (cY (az bB (aj (sv 6) aa) (sv 2)) aK rfl) rfl) rfl) rfl)))
 lia;.exists(),bY (cY (az aY (aj (sv 0) aa) aa) (cY (iD rfl (by rfl) bT (sv 5)) aK rfl) rfl)
 exact aq
abbrev s5:Stmt:=top 14
noncomputable def b5:List S:=[.asg 2 (.bin .mul (.lst [.con .non]) (.idx ↑0 ⇑0)),.vC 2 ↑1 ⇑0,.asg 3 (.con (.bl true)),.whl ↑3 [.asg 3 (.con (.bl false)),.gZ (.idx ↑0 ⇑1) [4] true [.ifs (.and (.cmp .gt (.idx ↑4 ⇑2) ⇑0) (.cmp .sS (.idx ↑2 (.idx ↑4 ⇑0)) (.con .non))) [.asg 5 (.bin .add (.idx ↑2 (.idx ↑4 ⇑0)) (.idx ↑4 ⇑3)),.ifs (.or (.cmp .Rh (.idx ↑2 (.idx ↑4 ⇑1)) (.con .non)) (.cmp .lt ↑5 (.idx ↑2 (.idx ↑4 ⇑1)))) [.vC 2 (.idx ↑4 ⇑1) ↑5,.asg 3 (.con (.bl true))] []] []]],.ret ↑2]
def f5:Fd:=⟨2,6,b5⟩
theorem sc5:aN ["net","start","hours","changed","way","come"] ["net","start"] (au s5):=nofun
include cl in
theorem d5(a:il K "hours_from" "hours_from" s5 f fd):↥(["net","start"],2,f5):=by
 exists a,sc5,0,0;refine aQ ?_ ?_;.exists 2,az fc (cN (cY eE aK rfl)) (aj (sv 0) aa)
 lia;.exact(jL (k:=2) rfl (by ac_rfl) (sv 1) aa)
 lia;.exists 3,ig
 lia;.exact(qD PassesOwn.never (lJ (sv 3)) (by lia;(· exists 3,ig);(· lia;(· exists 4,fJ (aj (sv 0) aa),0;(· lia;(· exists bz ?_ ?_ ?_;exact SW.st (iW (aF cM (aj (sv 4) aa) aa (aB _)) (eZ (aF ji (aj (sv 2) (aj (sv 4) aa)) eE (aB _))));(· lia;(· exists 5,az aY (aj (sv 2) (aj (sv 4) aa)) (aj (sv 4) aa));(· lia;(· exists bz ?_ ?_ ?_;exact SW.st (nJ (aF xr (aj (sv 2) (aj (sv 4) aa)) eE (aB _)) (lD (aF (gK (aO hr)) (sv 5) (aj (sv 2) (aj (sv 4) aa)) (aB _))));(· lia;exact jL (k:=2) rfl (by ac_rfl) (aj (sv 4) aa) (sv 5);(· lia;(· exists 3,ig);exact aq));exact aq);exact aq));exact aq);exact aq));exact aq)))
 lia;.exists(),sv 2
 exact aq
abbrev s6:Stmt:=top 15
noncomputable def b6:List S:=[.ret (.call 5 [↑0,⇑0])]
def f6:Fd:=⟨1,1,b6⟩
theorem sc6:aN ["net"] ["net"] (au s6):=nofun
include cl in
theorem d6(a:il K "soonest_hours" "soonest_hours" s6 f fd)(b:↥(5,"hours_from",2,0)):↥(["net"],1,f6):=by
 exists a,sc6,0,0;refine aQ ?_ ?_;.exists(),dj b hr (bf (sv 0) (bf aa aA rfl) rfl)
 exact aq
abbrev s7:Stmt:=top 16
noncomputable def b7:List S:=[.ret (.blt .Io [.call 5 [.call 2 [↑0],.bin .sub (.bin .sub (.idx ↑0 ⇑0) ⇑1) ↑1]])]
def f7:Fd:=⟨2,2,b7⟩
theorem sc7:aN ["net","place"] ["net","place"] (au s7):=nofun
include cl in
theorem d7(a:il K "hours_to" "hours_to" s7 f fd)(xK:mg "list"=none)(jC:mg "reversed"=none)(b:↥(5,"hours_from",2,0))(e:↥(2,"turned_net",1,0)):↥(["net","place"],2,f7):=by
 exists a,sc7,0,0;refine aQ ?_ ?_;.exists(),xf rfl rfl hc (by rfl) xK (by rfl) jC (dj b hr (bf (dj e hr (bf (sv 0) aA rfl)) (bf (az bB (az bB (aj (sv 0) aa) aa) (sv 1)) aA rfl) rfl))
 exact aq
abbrev s8:Stmt:=top 17
noncomputable def b8:List S:=[.ret (.and (.cmp .gt (.idx ↑0 ⇑2) ⇑0) (.and (.cmp .sS (.idx ↑1 (.idx ↑0 ⇑1)) (.con .non)) (.cmp .eq (.bin .add (.idx ↑0 ⇑3) (.idx ↑1 (.idx ↑0 ⇑1))) (.idx ↑1 (.idx ↑0 ⇑0)))))]
def f8:Fd:=⟨2,2,b8⟩
theorem sc8:aN ["way","left"] ["way","left"] (au s8):=nofun
include cl in
theorem d8(a:il K "is_soonest_step" "is_soonest_step" s8 f fd):↥(["way","left"],2,f8):=by
 exists a,sc8,0,0;refine aQ ?_ ?_;.exists(),qF (gJ cM (aj (sv 0) aa) aa (aB _)) (qF (gJ ji (aj (sv 1) (aj (sv 0) aa)) eE (aB _)) (rP (gJ (cC (aO hr)) (az aY (aj (sv 0) aa) (aj (sv 1) (aj (sv 0) aa))) (aj (sv 1) (aj (sv 0) aa)) (aB _)))).ev
 exact aq
abbrev s9:Stmt:=top 18
noncomputable def b9:List S:=[.ifs (.not (.chain .le .lt ⇑0 ↑1 (.idx ↑0 ⇑0))) [.lq 3] [],.asg 2 (.call 7 [↑0,↑1]),.ifs (.cmp .Rh (.idx ↑2 ⇑0) (.con .non)) [.lq 3] [],.asg 3 (.lst []),.asg 4 ⇑0,.whl (.cmp .ne ↑4 ↑1) [.asg 5 (.blt .DX [.comp (.call 0 [↑0,↑4]) 1 [6] true (some (.call 8 [.idx (.idx ↑0 ⇑1) ↑6,↑2])) ↑6]),.app 3 ↑5,.asg 4 (.idx (.idx (.idx ↑0 ⇑1) ↑5) ⇑1)],.ret (.blt .tuple [↑3])]
def f9:Fd:=⟨2,6,b9⟩
theorem sc9:aN ["net","place","left","walk","here","step"] ["net","place"] (au s9):=nofun
include cl in
theorem d9(a:il K "soonest_walk" "soonest_walk" s9 f fd)(gh:mg "min"=none)(bT:mg "tuple"=none)(b:↥(7,"hours_to",2,0))(e:↥(8,"is_soonest_step",2,0))(g:↥(0,"ways_out",2,0)):↥(["net","place"],2,f9):=by
 exists a,sc9,0,0;refine aQ ?_ ?_;.exists bz ?_ ?_ ?_;exact ik (jX rR (gK (aO hr)) aa (sv 1) (aj (sv 0) aa));(· lia;exact cX;exact aq);exact aq
 lia;.exists rT (i:=2) ?_ ?_ ?_ ?_ ?_ ?_;exact nd;exact rfl;exact Or.inr rfl;rotate_left;rfl;exact oi;exact dj b hr (bf (sv 0) (bf (sv 1) aA rfl) rfl)
 lia;.exists bz ?_ ?_ ?_;exact aF xr (aj (sv 2) aa) eE (aB _);(· lia;exact cX;exact aq);exact aq
 lia;.exists 3,cN aK
 lia;.exists 4,aa
 lia;.exact(qD PassesOwn.never (aF (jB (aO hr)) (sv 4) (sv 1) (aB _)) (by lia;(· exists 5,Hm rfl hc (by rfl) gh (mX (N':=["net","place","left","walk","here","step","number"]) hc (QB rfl (by rfl)) (fJ (dj g hr (bf (sv 0) (bf (sv 4) aA rfl) rfl))) ⇑(fj (i:=6) ‹["net","place","left","walk","here","step","number"]› rfl (Or.inl rfl) (Or.inr rfl)) (iV (cD)) ⇑(xZ (lJ (dj e hr (bf (aj (aj (sv 0) aa) (sv 6)) (bf (sv 2) aA rfl) rfl)))) ⇑((sv 6))));(· lia;exact bw (k:=3) rfl (by ac_rfl) (sv 5);(· lia;(· exists 4,aj (aj (aj (sv 0) aa) (sv 5)) aa);exact aq))))
 lia;.exists(),iD rfl (by rfl) bT (sv 3)
 exact aq
abbrev U3:Stmt:=top 19
noncomputable def b10:List S:=[.asg 3 (.lst []),.gZ (.call 0 [↑0,.idx ↑2 (.neg ⇑1)]) [4] true [.asg 5 (.idx (.idx ↑0 ⇑1) ↑4),.ifs (.and (.cmp .gt (.idx ↑5 ⇑2) ⇑0) (.cmp .yW (.idx ↑5 ⇑1) ↑2)) [.app 3 (.tup [.bin .add ↑1 (.tup [↑4]),.bin .add ↑2 (.tup [.idx ↑5 ⇑1])])] []],.ret ↑3]
def VJ:Fd:=⟨3,6,b10⟩
theorem YL:aN ["net","walk","places","further","number","way"] ["net","walk","places"] (au U3):=nofun
include cl in
theorem d10(a:il K "steps_on" "steps_on" U3 f fd)(b:↥(0,"ways_out",2,0)):↥(["net","walk","places"],3,VJ):=by
 exists a,YL,0,0;refine aQ ?_ ?_;.exists 3,cN aK
 lia;.exists 4,fJ (dj b hr (bf (sv 0) (bf (aj (sv 2) (dN aa)) aA rfl) rfl)),0;(· lia;(· exists 5,aj (aj (sv 0) aa) (sv 4));(· lia;(· exists bz ?_ ?_ ?_;exact SW.st (iW (aF cM (aj (sv 5) aa) aa (aB _)) (eZ (aF zU (aj (sv 5) aa) (sv 2) (by with_unfolding_all rfl))));(· lia;exact bw (k:=3) rfl (by ac_rfl) (bY (cY (az aY (sv 1) (bY (cY (sv 4) aK rfl))) (cY (az aY (sv 2) (bY (cY (aj (sv 5) aa) aK rfl))) aK rfl) rfl));exact aq);exact aq);exact aq))
 lia;.exists(),sv 3
 exact aq
abbrev QX:Stmt:=top 20
noncomputable def b11:List S:=[.asg 1 (.lst []),.asg 2 (.lst [.tup [.tup [],.tup [⇑0]]]),.whl (.cmp .gt (.blt .len [↑2]) ⇑0) [.asg 3 (.pop 2),.ifs (.cmp .eq (.idx (.idx ↑3 ⇑1) (.neg ⇑1)) (.bin .sub (.idx ↑0 ⇑0) ⇑1)) [.app 1 (.idx ↑3 ⇑0)] [.xF 2 (.call 10 [↑0,.idx ↑3 ⇑0,.idx ↑3 ⇑1])],.ifs (.cmp .gt (.blt .len [↑1]) (.glob "MOST_WALKS" (.int 60))) [.lq 1] []],.ret (.blt .sorted [↑1])]
def f11:Fd:=⟨1,4,b11⟩
theorem Lq:aN ["net","found","begun","latest"] ["net"] (au QX):=nofun
include cl in
theorem d11(a:il K "all_walks" "all_walks" QX f fd)(bH:mg "len"=none)(gj:mg "sorted"=none)(bC:∃t,mg "MOST_WALKS"=some (Value.int 60 t))(b:↥(10,"steps_on",3,0)):↥(["net"],1,f11):=by
 exists a,Lq,0,0;refine aQ ?_ ?_;.exists 1,cN aK
 lia;.exists 2,cN (cY (bY (cY (bY aK) (cY (bY (cY aa aK rfl)) aK rfl) rfl)) aK rfl)
 lia;.exact(qD PassesOwn.never (aF cM (cL rfl (by rfl) bH (sv 2)) aa (aB _)) (by lia;(· exists 3,rQ (k:=2) rfl (by ac_rfl));(· lia;(· exists bz ?_ ?_ ?_;exact aF (cC (aO hr)) (aj (aj (sv 3) aa) (dN aa)) (az bB (aj (sv 0) aa) aa) (aB _);(· lia;exact bw (k:=1) rfl (by ac_rfl) (aj (sv 3) aa);exact aq);(· lia;exact n8 (k:=2) rfl (by ac_rfl) (dj b hr (bf (sv 0) (bf (aj (sv 3) aa) (bf (aj (sv 3) aa) aA rfl) rfl) rfl));exact aq));(· lia;(· exists bz ?_ ?_ ?_;exact aF cM (cL rfl (by rfl) bH (sv 1)) (ir (by rfl) bC.choose_spec (by rfl)) (aB _);(· lia;exact cX;exact aq);exact aq);exact aq))))
 lia;.exists(),pP rfl (by rfl) gj (sv 1)
 exact aq
include cl in
theorem YK(b:il K "all_walks" "all_walks" QX f fd)(bH:mg "len"=none)(gj:mg "sorted"=none)(bC:∃t,mg "MOST_WALKS"=some (Value.int 60 t))(a:↥(10,"steps_on",3,0))(dX:OwnCls "TooMany" (cl 1) [.type "ValueError",.type "Exception",.type "BaseException",.type "object"] "ValueError.__new__" mg base):gP Pg w K mg base (Av Pg w) (k+1) f fd ["net"] (UJ K cl 1 (λargs=>enter c n f11 args)):=by
 refine Le b Lq rfl rfl λcdv A outer s H E W hr e=>?_;have nd:=Lq.nd;have g:Vq (lL (Av Pg w) Pg w K mg base ["net","found","begun","latest"] "all_walks" (au QX) f cdv A outer s H E) E:=Dr;refine cP ?_ ?_ ?_;.exists 1,cN aK
 .exact(fO (by intro _;rfl))
 exists cP ?_ ?_ ?_;.exists 2,cN (cY (bY (cY (bY aK) (cY (bY (cY aa aK rfl)) aK rfl) rfl)) aK rfl)
 .exact(fO (by intro _;rfl))
 exists cP ?_ ?_ ?_;.exact(qD uO (aF cM (cL rfl (by rfl) bH (sv 2)) aa (aB _)) (by lia;(· exists 3,rQ (k:=2) rfl (by ac_rfl));(· lia;(· exists bz ?_ ?_ ?_;exact aF (cC (aO hr)) (aj (aj (sv 3) aa) (dN aa)) (az bB (aj (sv 0) aa) aa) (aB _);(· lia;exact bw (k:=1) rfl (by ac_rfl) (aj (sv 3) aa);exact aq);(· lia;exact n8 (k:=2) rfl (by ac_rfl) (dj a hr (bf (sv 0) (bf (aj (sv 3) aa) (bf (aj (sv 3) aa) aA rfl) rfl) rfl));exact aq));(· lia;(· exists bz ?_ ?_ ?_;exact aF cM (cL rfl (by rfl) bH (sv 1)) (ir (by rfl) bC.choose_spec (by rfl)) (aB _);(· lia;exact cX;exact aq);exact aq);exact aq))))
 .exact(Gj uO (aF cM (cL rfl (by rfl) bH (sv 2)) aa (aB _)) (by lia;(· exists 3,rQ (k:=2) rfl (by ac_rfl));(· lia;(· exists bz ?_ ?_ ?_;exact aF (cC (aO hr)) (aj (aj (sv 3) aa) (dN aa)) (az bB (aj (sv 0) aa) aa) (aB _);(· lia;exact bw (k:=1) rfl (by ac_rfl) (aj (sv 3) aa);exact aq);(· lia;exact n8 (k:=2) rfl (by ac_rfl) (dj a hr (bf (sv 0) (bf (aj (sv 3) aa) (bf (aj (sv 3) aa) aA rfl) rfl) rfl));exact aq));(· lia;(· exists bz ?_ ?_ ?_;exact aF cM (cL rfl (by rfl) bH (sv 1)) (ir (by rfl) bC.choose_spec (by rfl)) (aB _);(· lia;exact cX;exact aq);exact aq);exact aq))) (cP (by exists 3,rQ (k:=2) rfl (by ac_rfl)) (fO (by intro _;rfl)) (cP (by exists bz ?_ ?_ ?_;exact aF (cC (aO hr)) (aj (aj (sv 3) aa) (dN aa)) (az bB (aj (sv 0) aa) aa) (aB _);(· lia;exact bw (k:=1) rfl (by ac_rfl) (aj (sv 3) aa);exact aq);(· lia;exact n8 (k:=2) rfl (by ac_rfl) (dj a hr (bf (sv 0) (bf (aj (sv 3) aa) (bf (aj (sv 3) aa) aA rfl) rfl) rfl));exact aq)) (DG (aF (cC (aO hr)) (aj (aj (sv 3) aa) (dN aa)) (az bB (aj (sv 0) aa) aa) (aB _)) (cP (bw (k:=1) rfl (by ac_rfl) (aj (sv 3) aa)) fO jl) (cP (n8 (k:=2) rfl (by ac_rfl) (dj a hr (bf (sv 0) (bf (aj (sv 3) aa) (bf (aj (sv 3) aa) aA rfl) rfl) rfl))) fO jl)) (cP (by exists bz ?_ ?_ ?_;exact aF cM (cL rfl (by rfl) bH (sv 1)) (ir (by rfl) bC.choose_spec (by rfl)) (aB _);(· lia;exact cX;exact aq);exact aq) (DG (aF cM (cL rfl (by rfl) bH (sv 1)) (ir (by rfl) bC.choose_spec (by rfl)) (aB _)) (cP cX (Bs hc rfl (by rfl) dX PySem.F.excBase_ValueError g (λH z=>e 1 H z)) jl) jl) jl))))
 exists cP ?_ ?_ ?_;.exists(),pP rfl (by rfl) gj (sv 1)
 .exact fO
 exact jl
abbrev s12:Stmt:=top 21
noncomputable def vM:List S:=[.asg 2 (.lst []),.gZ ↑1 [3] true [.ifs (.or (.not (.chain .le .lt ⇑0 ↑3 (.blt .len [.idx ↑0 ⇑1]))) (.cmp .lt (.idx (.idx (.idx ↑0 ⇑1) ↑3) ⇑2) ⇑1)) [.lq 3] [],.asg 4 (.idx (.idx ↑0 ⇑1) ↑3),.ifs (.cmp .eq (.blt .len [↑2]) ⇑0) [.app 2 (.idx ↑4 ⇑0)] [],.ifs (.or (.cmp .ne (.idx ↑4 ⇑0) (.idx ↑2 (.neg ⇑1))) (.cmp .inn (.idx ↑4 ⇑1) ↑2)) [.lq 3] [],.app 2 (.idx ↑4 ⇑1)],.ret (.blt .tuple [↑2])]
def f12:Fd:=⟨2,5,vM⟩
theorem aae:aN ["net","walk","places","number","way"] ["net","walk"] (au s12):=nofun
include cl in
theorem d12(a:il K "walk_places" "walk_places" s12 f fd)(bH:mg "len"=none)(bT:mg "tuple"=none):↥(["net","walk"],2,f12):=by
 exists a,aae,0,0;refine aQ ?_ ?_;.exists 2,cN aK
 lia;.exists 3,fJ (sv 1),0;(· lia;(· exists bz ?_ ?_ ?_;exact SW.st (nJ (ik (jX rR (gK (aO hr)) aa (sv 3) (cL rfl (by rfl) bH (aj (sv 0) aa)))) (lD (aF (gK (aO hr)) (aj (aj (aj (sv 0) aa) (sv 3)) aa) aa (aB _))));(· lia;exact cX;exact aq);exact aq);(· lia;(· exists 4,aj (aj (sv 0) aa) (sv 3));(· lia;(· exists bz ?_ ?_ ?_;exact aF (cC (aO hr)) (cL rfl (by rfl) bH (sv 2)) aa (aB _);(· lia;exact bw (k:=2) rfl (by ac_rfl) (aj (sv 4) aa);exact aq);exact aq);(· lia;(· exists bz ?_ ?_ ?_;exact SW.st (nJ (aF (jB (aO hr)) (aj (sv 4) aa) (aj (sv 2) (dN aa)) (aB _)) (lD (aF HN (aj (sv 4) aa) (sv 2) (by with_unfolding_all rfl))));(· lia;exact cX;exact aq);exact aq);(· lia;exact bw (k:=2) rfl (by ac_rfl) (aj (sv 4) aa);exact aq)))))
 lia;.exists(),iD rfl (by rfl) bT (sv 2)
 exact aq
abbrev ZJ:Stmt:=top 22
noncomputable def b13:List S:=[.expr (.call 12 [↑0,↑1]),.ret (.blt .sum [.comp ↑1 1 [2] true none (.idx (.idx (.idx ↑0 ⇑1) ↑2) ⇑3)])]
def V2:Fd:=⟨2,2,b13⟩
theorem Z3:aN ["net","walk"] ["net","walk"] (au ZJ):=nofun
include cl in
theorem d13(a:il K "walk_length" "walk_length" ZJ f fd)(Ed:mg "sum"=none)(b:↥(12,"walk_places",2,0)):↥(["net","walk"],2,V2):=by
 exists a,Z3,0,0;refine aQ ?_ ?_;.exact(HJ (dj b hr (bf (sv 0) (bf (sv 1) aA rfl) rfl)))
 lia;.exists(),O2 rfl hc (by rfl) Ed (mX (N':=["net","walk","number"]) hc (QB rfl (by rfl)) (fJ (sv 1)) ⇑(fj (i:=2) ‹["net","walk","number"]› rfl (Or.inl rfl) (Or.inr rfl)) (iV (cD)) ⇑(mZ) ⇑((aj (aj (aj (sv 0) aa) (sv 2)) aa)))
 exact aq
abbrev Zq:Stmt:=top 24
noncomputable def b14:List S:=[.ifs (.cmp .ge ↑0 (.bin .pow ⇑10 ⇑18)) [.ret (.lst [.bin .sub ↑0 (.bin .pow ⇑10 ⇑18)])] [],.asg 1 ⇑0,.asg 2 (.bin .add (.bin .mod ↑0 ⇑2147483647) ⇑16807),.gZ (.xu ⇑0 ⇑48) [3] true [.asg 2 (.bin .mod (.bin .add (.bin .add (.bin .mul ↑2 ⇑48271) (.bin .mul (.bin .mul ⇑7919 ↑3) ↑3)) ⇑104729) ⇑2147483647),.asg 4 (.bin .mod (.bin .mul ↑2 ↑2) ⇑2147483629),.asg 1 (.bin .add (.bin .mul ↑1 ⇑65536) (.bin .mod (.bin .fdiv ↑4 ⇑512) ⇑65536))],.ret (.lst [↑1])]
def WL:Fd:=⟨1,5,b14⟩
theorem Ys:aN ["cell","number","one","k","two"] ["cell"] (au Zq):=nofun
include cl in
theorem d14(a:il K "_law_pot" "_law_pot" Zq f fd)(bN:mg "range"=none):↥(["cell"],1,WL):=by
 exists a,Ys,0,0;refine aQ ?_ ?_;.exists bz ?_ ?_ ?_;exact aF La (sv 0) (az ni aa aa) (aB _);(· lia;(· exists(),cN (cY (az bB (sv 0) (az ni aa aa)) aK rfl));exact aq);exact aq
 lia;.exists 1,aa
 lia;.exists 2,az aY (az fC (sv 0) aa) aa
 lia;.exists 3,mW rfl (by rfl) bN aa,0;(· lia;(· exists 2,az fC (az aY (az aY (az fc (sv 2) aa) (az fc (az fc aa (sv 3)) (sv 3))) aa) aa);(· lia;(· exists 4,az fC (az fc (sv 2) (sv 2)) aa);(· lia;(· exists 1,az aY (az fc (sv 1) aa) (az fC (az uK (sv 4) aa) aa));exact aq)))
 lia;.exists(),cN (cY (sv 1) aK rfl)
 exact aq
abbrev s15:Stmt:=top 25
noncomputable def b15:List S:=[.asg 2 (.bin .mod (.idx ↑0 ⇑0) ↑1),.vC 0 ⇑0 (.bin .fdiv (.idx ↑0 ⇑0) ↑1),.ret ↑2]
def Qa:Fd:=⟨2,3,b15⟩
theorem XR:aN ["pot","many","digit"] ["pot","many"] (au s15):=nofun
include cl in
theorem d15(a:il K "_law_take" "_law_take" s15 f fd):↥(["pot","many"],2,Qa):=by
 exists a,XR,0,0;refine aQ ?_ ?_;.exists 2,az fC (aj (sv 0) aa) (sv 1)
 lia;.exact(jL (k:=0) rfl (by ac_rfl) aa (az uK (aj (sv 0) aa) (sv 1)))
 lia;.exists(),sv 2
 exact aq
abbrev Zh:Stmt:=top 26
noncomputable def b16:List S:=[.asg 2 (.call 15 [↑0,↑1]),.asg 3 (.bin .mod (.bin .add (.bin .add ↑2 ⇑1) (.call 15 [↑0,.bin .sub ↑1 ⇑1])) ↑1),.ifs (.and (.cmp .lt ↑3 ↑2) (.cmp .gt (.call 15 [↑0,⇑3]) ⇑0)) [.par 2 3 ↑3 ↑2] [],.asg 4 (.idx (.lst [⇑0,⇑1,⇑2,⇑3,.bin .add ⇑1 (.call 15 [↑0,⇑30]),.bin .sub (.bin .pow ⇑10 ⇑9) (.call 15 [↑0,⇑3])]) (.blt .min2 [⇑5,.call 15 [↑0,⇑10]])),.asg 5 (.idx (.lst [⇑1,⇑1,⇑2,⇑3,.bin .add ⇑1 (.call 15 [↑0,⇑30]),.bin .sub (.bin .pow ⇑10 ⇑6) (.call 15 [↑0,⇑3])]) (.blt .min2 [⇑5,.call 15 [↑0,⇑7]])),.ifs (.cmp .eq (.call 15 [↑0,⇑2]) ⇑0) [.asg 4 (.bin .add ⇑1 (.call 15 [↑0,⇑5]))] [],.ifs (.cmp .eq (.call 15 [↑0,⇑2]) ⇑0) [.asg 5 (.bin .add ⇑1 (.call 15 [↑0,⇑5]))] [],.ret (.tup [↑2,↑3,↑4,↑5])]
def V9:Fd:=⟨2,6,b16⟩
theorem Z8:aN ["pot","many","start","to","room","hours"] ["pot","many"] (au Zh):=nofun
include cl in
theorem d16(b:il K "_law_way" "_law_way" Zh f fd)(gh:mg "min"=none)(a:↥(15,"_law_take",2,0)):↥(["pot","many"],2,V9):=by
 exists b,Z8,0,0;refine aQ ?_ ?_;.exists 2,dj a hr (bf (sv 0) (bf (sv 1) aA rfl) rfl)
 lia;.exists 3,az fC (az aY (az aY (sv 2) aa) (dj a hr (bf (sv 0) (bf (az bB (sv 1) aa) aA rfl) rfl))) (sv 1)
 lia;.exists bz ?_ ?_ ?_;exact SW.st (iW (aF (gK (aO hr)) (sv 3) (sv 2) (aB _)) (eZ (aF cM (dj a hr (bf (sv 0) (bf aa aA rfl) rfl)) aa (aB _))));(· lia;exact Lx (i:=2) (j:=3) hc nd rfl rfl (by decide) rfl rfl (sv 3) (sv 2);exact aq);exact aq
 lia;.exists 4,aj (cN (rH [0,1,2,3] rfl (cY (az aY aa (dj a hr (bf (sv 0) (bf aa aA rfl) rfl))) (cY (az bB (az ni aa aa) (dj a hr (bf (sv 0) (bf aa aA rfl) rfl))) aK rfl) rfl))) (rF rfl hc (by rfl) gh (cY aa (cY (dj a hr (bf (sv 0) (bf aa aA rfl) rfl)) aK rfl) rfl))
 lia;.exists 5,aj (cN (rH [1,1,2,3] rfl (cY (az aY aa (dj a hr (bf (sv 0) (bf aa aA rfl) rfl))) (cY (az bB (az ni aa aa) (dj a hr (bf (sv 0) (bf aa aA rfl) rfl))) aK rfl) rfl))) (rF rfl hc (by rfl) gh (cY aa (cY (dj a hr (bf (sv 0) (bf aa aA rfl) rfl)) aK rfl) rfl))
 lia;.exists bz ?_ ?_ ?_;exact aF (cC (aO hr)) (dj a hr (bf (sv 0) (bf aa aA rfl) rfl)) aa (aB _);(· lia;(· exists 4,az aY aa (dj a hr (bf (sv 0) (bf aa aA rfl) rfl)));exact aq);exact aq
 lia;.exists bz ?_ ?_ ?_;exact aF (cC (aO hr)) (dj a hr (bf (sv 0) (bf aa aA rfl) rfl)) aa (aB _);(· lia;(· exists 5,az aY aa (dj a hr (bf (sv 0) (bf aa aA rfl) rfl)));exact aq);exact aq
 lia;.exists(),bY (cY (sv 2) (cY (sv 3) (cY (sv 4) (cY (sv 5) aK rfl) rfl) rfl) rfl)
 exact aq
abbrev XN:Stmt:=top 27
noncomputable def b17:List S:=[.asg 1 (.bin .add ⇑2 (.call 15 [↑0,⇑5])),.asg 2 (.lst []),.gZ (.xu ⇑0 (.idx (.lst [.call 15 [↑0,⇑13],⇑12,.bin .add ⇑4 (.call 15 [↑0,⇑6])]) (.call 15 [↑0,⇑3]))) [3] true [.asg 4 (.call 16 [↑0,↑1]),.ifs (.and (.cmp .ne ↑2 (.lst [])) (.cmp .eq (.call 15 [↑0,⇑8]) ⇑0)) [.asg 4 (.idx ↑2 (.call 15 [↑0,.blt .len [↑2]]))] [],.app 2 ↑4],.ret (.tup [↑1,.blt .tuple [↑2]])]
def VM:Fd:=⟨1,5,b17⟩
theorem XS:aN ["pot","many","ways","k","way"] ["pot"] (au XN):=nofun
include cl in
theorem d17(b:il K "_law_net" "_law_net" XN f fd)(bH:mg "len"=none)(bN:mg "range"=none)(bT:mg "tuple"=none)(a:↥(15,"_law_take",2,0))(e:↥(16,"_law_way",2,0)):↥(["pot"],1,VM):=by
 exists b,XS,0,0;refine aQ ?_ ?_;.exists 1,az aY aa (dj a hr (bf (sv 0) (bf aa aA rfl) rfl))
 lia;.exists 2,cN aK
 lia;.exists 3,mW rfl (by rfl) bN (aj (cN (cY (dj a hr (bf (sv 0) (bf aa aA rfl) rfl)) (cY aa (cY (az aY aa (dj a hr (bf (sv 0) (bf aa aA rfl) rfl))) aK rfl) rfl) rfl)) (dj a hr (bf (sv 0) (bf aa aA rfl) rfl))),0;(· lia;(· exists 4,dj e hr (bf (sv 0) (bf (sv 1) aA rfl) rfl));(· lia;(· exists bz ?_ ?_ ?_;exact SW.st (iW (aF (jB (aO hr)) (sv 2) (cN aK) (aB _)) (eZ (aF (cC (aO hr)) (dj a hr (bf (sv 0) (bf aa aA rfl) rfl)) aa (aB _))));(· lia;(· exists 4,aj (sv 2) (dj a hr (bf (sv 0) (bf (cL rfl (by rfl) bH (sv 2)) aA rfl) rfl)));exact aq);exact aq);(· lia;exact bw (k:=2) rfl (by ac_rfl) (sv 4);exact aq)))
 lia;.exists(),bY (cY (sv 1) (cY (iD rfl (by rfl) bT (sv 2)) aK rfl) rfl)
 exact aq
abbrev ZM:Stmt:=top 28
noncomputable def b18:List S:=[.asg 2 (.bin .mul (.lst [⇑0]) ↑1),.gZ (.xu ⇑0 (.blt .len [↑0])) [3] true [.vC 2 (.bin .mod ↑3 ↑1) (.bin .add (.bin .mul (.idx ↑2 (.bin .mod ↑3 ↑1)) ⇑1000003) (.idx ↑0 ↑3))],.ret (.slice ↑2 (.con .non) (.blt .max2 [⇑2,.blt .min2 [.blt .len [↑0],↑1]]))]
def Wf:Fd:=⟨2,4,b18⟩
theorem Zj:aN ["script","most","cells","k"] ["script","most"] (au ZM):=nofun
include cl in
theorem d18(a:il K "_law_folded" "_law_folded" ZM f fd)(bH:mg "len"=none)(pg:mg "max"=none)(gh:mg "min"=none)(bN:mg "range"=none):↥(["script","most"],2,Wf):=by
 exists a,Zj,0,0;refine aQ ?_ ?_;.exists 2,az fc (cN (cY aa aK rfl)) (sv 1)
 lia;.exists 3,mW rfl (by rfl) bN (cL rfl (by rfl) bH (sv 0)),0;(· lia;exact jL (k:=2) rfl (by ac_rfl) (az fC (sv 3) (sv 1)) (az aY (az fc (aj (sv 2) (az fC (sv 3) (sv 1))) aa) (aj (sv 0) (sv 3)));exact aq)
 lia;.exists(),oV (sv 2) qQ (sE (xY rfl hc (by rfl) pg (cY aa (cY (rF rfl hc (by rfl) gh (cY (cL rfl (by rfl) bH (sv 0)) (cY (sv 1) aK rfl) rfl)) aK rfl) rfl)))
 exact aq
abbrev Z9:Stmt:=top 29
noncomputable def b19:List S:=[.gZ (.xu ⇑1 (.idx ↑0 ⇑0)) [2] true [.ifs (.cmp .sS (.idx ↑1 ↑2) (.con .non)) [.asg 3 (.call 9 [↑0,↑2]),.asg 4 (.call 12 [↑0,↑3]),.ifs (.or (.cmp .ne (.call 13 [↑0,↑3]) (.idx ↑1 ↑2)) (.or (.cmp .ne (.idx ↑4 ⇑0) ⇑0) (.cmp .ne (.idx ↑4 (.neg ⇑1)) ↑2))) [.ret (.con (.bl false))] []] []],.ret (.and (.cmp .eq (.idx ↑1 ⇑0) ⇑0) (.cmp .eq (.call 9 [↑0,⇑0]) (.tup [])))]
def Wt:Fd:=⟨2,5,b19⟩
theorem Yn:aN ["net","told","place","walk","places"] ["net","told"] (au Z9):=nofun
include cl in
theorem d19(b:il K "_law_walks_told" "_law_walks_told" Z9 f fd)(bN:mg "range"=none)(a:↥(9,"soonest_walk",2,0))(e:↥(13,"walk_length",2,0))(g:↥(12,"walk_places",2,0)):↥(["net","told"],2,Wt):=by
 exists b,Yn,0,0;refine aQ ?_ ?_;.exists 2,GP rfl (by rfl) bN aa (aj (sv 0) aa),0;(· lia;(· exists bz ?_ ?_ ?_;exact aF ji (aj (sv 1) (sv 2)) eE (aB _);(· lia;(· exists 3,dj a hr (bf (sv 0) (bf (sv 2) aA rfl) rfl));(· lia;(· exists 4,dj g hr (bf (sv 0) (bf (sv 3) aA rfl) rfl));(· lia;(· exists bz ?_ ?_ ?_;exact SW.st (nJ (aF (jB (aO hr)) (dj e hr (bf (sv 0) (bf (sv 3) aA rfl) rfl)) (aj (sv 1) (sv 2)) (aB _)) (nJ (aF (jB (aO hr)) (aj (sv 4) aa) aa (aB _)) (lD (aF (jB (aO hr)) (aj (sv 4) (dN aa)) (sv 2) (aB _)))));(· lia;(· exists(),ig);exact aq);exact aq);exact aq)));exact aq);exact aq)
 lia;.exists(),qF (gJ (cC (aO hr)) (aj (sv 1) aa) aa (aB _)) (rP (gJ (cC (aO hr)) (dj a hr (bf (sv 0) (bf aa aA rfl) rfl)) (bY aK) (aB _)))
 exact aq
abbrev ZS:Stmt:=top 30
noncomputable def b20:List S:=[.gZ (.idx ↑0 ⇑1) [2] true [.ifs (.and (.cmp .gt (.idx ↑2 ⇑2) ⇑0) (.cmp .sS (.idx ↑1 (.idx ↑2 ⇑0)) (.con .non))) [.ifs (.or (.cmp .Rh (.idx ↑1 (.idx ↑2 ⇑1)) (.con .non)) (.cmp .gt (.idx ↑1 (.idx ↑2 ⇑1)) (.bin .add (.idx ↑1 (.idx ↑2 ⇑0)) (.idx ↑2 ⇑3)))) [.ret (.con (.bl false))] []] []],.ret (.con (.bl true))]
def WK:Fd:=⟨2,3,b20⟩
theorem ZW:aN ["net","told","way"] ["net","told"] (au ZS):=nofun
include cl in
theorem d20(a:il K "_law_none_sooner" "_law_none_sooner" ZS f fd):↥(["net","told"],2,WK):=by
 exists a,ZW,0,0;refine aQ ?_ ?_;.exists 2,fJ (aj (sv 0) aa),0;(· lia;(· exists bz ?_ ?_ ?_;exact SW.st (iW (aF cM (aj (sv 2) aa) aa (aB _)) (eZ (aF ji (aj (sv 1) (aj (sv 2) aa)) eE (aB _))));(· lia;(· exists bz ?_ ?_ ?_;exact SW.st (nJ (aF xr (aj (sv 1) (aj (sv 2) aa)) eE (aB _)) (lD (aF cM (aj (sv 1) (aj (sv 2) aa)) (az aY (aj (sv 1) (aj (sv 2) aa)) (aj (sv 2) aa)) (aB _))));(· lia;(· exists(),ig);exact aq);exact aq);exact aq);exact aq);exact aq)
 lia;.exists(),ig
 exact aq
abbrev ZF:Stmt:=top 31
noncomputable def b21:List S:=[.Ip 2 11 [↑0] 1 (.cmp .sS (.idx ↑1 (.neg ⇑1)) (.con .non)),.ret (.cmp .eq (.idx ↑1 (.neg ⇑1)) (.blt .DY [.comp ↑2 1 [3] true none (.call 13 [↑0,↑3])]))]
def UG:Fd:=⟨2,3,b21⟩
theorem Xj:aN ["net","told","walks"] ["net","told"] (au ZF):=nofun
include cl in
theorem d21(a:il K "_law_least" "_law_least" ZF f fd)(gh:mg "min"=none)(b:↥(11,"all_walks",1,0))(e:↥(13,"walk_length",2,0))(dX:OwnCls "TooMany" (cl 1) [.type "ValueError",.type "Exception",.type "BaseException",.type "object"] "ValueError.__new__" mg base)(g:pM Pg w K mg base cl k c 11 "all_walks" 1):↥(["net","told"],2,UG):=by
 exists a,Xj,0,0;refine aQ ?_ ?_;.exact(G8 (cl:=cl) (kk:=1) (i:=2) (by rfl) dX (by decide+kernel) rfl ⟨rfl,rfl⟩ (λ_=>PassesOwnAt.never) nd rfl oi g hr (λ_ _=>(bf (sv 0) aA rfl)) (λ_ _ h=>(by exists 2,dj b hr (bf (sv 0) aA rfl))) (λ_=>(gJ ji (aj (sv 1) (dN aa)) eE (aB _))))
 lia;.exists(),gJ (cC (aO hr)) (aj (sv 1) (dN aa)) (G6 rfl hc (by rfl) gh (mX (N':=["net","told","walks","walk"]) hc (QB rfl (by rfl)) (fJ (sv 2)) ⇑(fj (i:=3) ‹["net","told","walks","walk"]› rfl (Or.inl rfl) (Or.inr rfl)) (iV (cD)) ⇑(mZ) ⇑((dj e hr (bf (sv 0) (bf (sv 3) aA rfl) rfl))))) (aB _)
 exact aq
abbrev Xq:Stmt:=top 32
noncomputable def b22:List S:=[.asg 4 (.call 6 [.call 4 [↑0,↑2,↑3]]),.asg 5 (.idx (.idx ↑0 ⇑1) ↑2),.asg 6 (.con .non),.ifs (.and (.cmp .gt (.idx ↑5 ⇑2) ⇑0) (.cmp .sS (.idx ↑1 (.idx ↑5 ⇑0)) (.con .non))) [.asg 6 (.bin .add (.idx ↑1 (.idx ↑5 ⇑0)) ↑3)] [],.ret (.and (.cmp .eq (.bin .add (.slice ↑4 (.con .non) (.bin .sub (.idx ↑0 ⇑0) ⇑1)) (.slice ↑4 (.idx ↑0 ⇑0) (.con .non))) ↑1) (.cmp .eq (.idx ↑4 (.bin .sub (.idx ↑0 ⇑0) ⇑1)) ↑6))]
def VD:Fd:=⟨4,7,b22⟩
theorem Xz:aN ["net","told","number","hours","found","way","due"] ["net","told","number","hours"] (au Xq):=nofun
include cl in
theorem d22(a:il K "_law_parted_alike" "_law_parted_alike" Xq f fd)(b:↥(4,"parted_net",3,0))(e:↥(6,"soonest_hours",1,0)):↥(["net","told","number","hours"],4,VD):=by
 exists a,Xz,0,0;refine aQ ?_ ?_;.exists 4,dj e hr (bf (dj b hr (bf (sv 0) (bf (sv 2) (bf (sv 3) aA rfl) rfl) rfl)) aA rfl)
 lia;.exists 5,aj (aj (sv 0) aa) (sv 2)
 lia;.exists 6,eE
 lia;.exists bz ?_ ?_ ?_;exact SW.st (iW (aF cM (aj (sv 5) aa) aa (aB _)) (eZ (aF ji (aj (sv 1) (aj (sv 5) aa)) eE (aB _))));(· lia;(· exists 6,az aY (aj (sv 1) (aj (sv 5) aa)) (sv 3));exact aq);exact aq
 lia;.exists(),qF (gJ (cC (aO hr)) (az aY (oV (sv 4) qQ (sE (az bB (aj (sv 0) aa) aa))) (oV (sv 4) (sE (aj (sv 0) aa)) qQ)) (sv 1) (aB _)) (rP (gJ (cC (aO hr)) (aj (sv 4) (az bB (aj (sv 0) aa) aa)) (sv 6) (aB _)))
 exact aq
abbrev Z1:Stmt:=top 33
noncomputable def b23:List S:=[.gZ (.call 18 [↑0,⇑12]) [1] true [.asg 2 (.call 14 [↑1]),.asg 3 (.call 17 [↑2]),.asg 4 (.call 6 [↑3]),.ifs (.or (.not (.call 19 [↑3,↑4])) (.not (.call 20 [↑3,↑4]))) [.ret (.con (.bl false))] [],.ifs (.not (.call 21 [↑3,↑4])) [.ret (.con (.bl false))] [],.ifs (.cmp .ne (.idx (.call 6 [.call 2 [↑3]]) (.neg ⇑1)) (.idx ↑4 (.neg ⇑1))) [.ret (.con (.bl false))] [],.ifs (.and (.cmp .lt (.idx ↑3 ⇑0) ⇑6) (.cmp .lt (.blt .len [.idx ↑3 ⇑1]) ⇑12)) [.gZ (.xu ⇑0 (.blt .len [.idx ↑3 ⇑1])) [5] true [.asg 6 (.idx (.idx (.idx ↑3 ⇑1) ↑5) ⇑3),.asg 7 (.bin .add ⇑1 (.call 15 [↑2,.blt .max2 [⇑1,.bin .sub ↑6 ⇑1]])),.ifs (.and (.cmp .gt ↑6 ⇑1) (.not (.call 22 [↑3,↑4,↑5,↑7]))) [.ret (.con (.bl false))] []]] []],.ret (.con (.bl true))]
def VR:Fd:=⟨1,8,b23⟩
theorem Yj:aN ["script","cell","pot","net","told","number","whole","hours"] ["script"] (au Z1):=nofun
include cl in
theorem d23(b:il K "law" "law" Z1 f fd)(bH:mg "len"=none)(pg:mg "max"=none)(bN:mg "range"=none)(e:↥(18,"_law_folded",2,0))(g:↥(21,"_law_least",2,0))(h:↥(17,"_law_net",1,0))(i:↥(20,"_law_none_sooner",2,0))(j:↥(22,"_law_parted_alike",4,0))(l:↥(14,"_law_pot",1,0))(m:↥(15,"_law_take",2,0))(o:↥(19,"_law_walks_told",2,0))(a:↥(6,"soonest_hours",1,0))(p:↥(2,"turned_net",1,0)):↥(["script"],1,VR):=by
 exists b,Yj,0,0;refine aQ ?_ ?_;.exists 1,fJ (dj e hr (bf (sv 0) (bf aa aA rfl) rfl)),0;(· lia;(· exists 2,dj l hr (bf (sv 1) aA rfl));(· lia;(· exists 3,dj h hr (bf (sv 2) aA rfl));(· lia;(· exists 4,dj a hr (bf (sv 3) aA rfl));(· lia;(· exists bz ?_ ?_ ?_;exact SW.st (nJ (ik (lJ (dj o hr (bf (sv 3) (bf (sv 4) aA rfl) rfl)))) (lD (ik (lJ (dj i hr (bf (sv 3) (bf (sv 4) aA rfl) rfl))))));(· lia;(· exists(),ig);exact aq);exact aq);(· lia;(· exists bz ?_ ?_ ?_;exact ik (lJ (dj g hr (bf (sv 3) (bf (sv 4) aA rfl) rfl)));(· lia;(· exists(),ig);exact aq);exact aq);(· lia;(· exists bz ?_ ?_ ?_;exact aF (jB (aO hr)) (aj (dj a hr (bf (dj p hr (bf (sv 3) aA rfl)) aA rfl)) (dN aa)) (aj (sv 4) (dN aa)) (aB _);(· lia;(· exists(),ig);exact aq);exact aq);(· lia;(· exists bz ?_ ?_ ?_;exact SW.st (iW (aF (gK (aO hr)) (aj (sv 3) aa) aa (aB _)) (eZ (aF (gK (aO hr)) (cL rfl (by rfl) bH (aj (sv 3) aa)) aa (aB _))));(· lia;(· exists 5,mW rfl (by rfl) bN (cL rfl (by rfl) bH (aj (sv 3) aa)),0;(· lia;(· exists 6,aj (aj (aj (sv 3) aa) (sv 5)) aa);(· lia;(· exists 7,az aY aa (dj m hr (bf (sv 2) (bf (xY rfl hc (by rfl) pg (cY aa (cY (az bB (sv 6) aa) aK rfl) rfl)) aA rfl) rfl)));(· lia;(· exists bz ?_ ?_ ?_;exact SW.st (iW (aF cM (sv 6) aa (aB _)) (eZ (ik (lJ (dj j hr (bf (sv 3) (bf (sv 4) (bf (sv 5) (bf (sv 7) aA rfl) rfl) rfl) rfl))))));(· lia;(· exists(),ig);exact aq);exact aq);exact aq))));exact aq);exact aq);exact aq)))))))
 lia;.exists(),ig
 exact aq
end T
end
noncomputable section
namespace T
open PySem L2 PySem.Spec PyProof.Rows HH
def Γ:Tab:=λi=>[f0,f1,f2,f3,f4,f5,f6,f7,f8,f9,VJ,f11,f12,V2,WL,Qa,V9,VM,Wf,Wt,WK,UG,VD,VR][i]?
end T
end
noncomputable section
namespace T
open HH
variable{w n j:Nat}{x m a b e i k p h a0 t:Int}{Q:R->List Sl->Prop}{c:Call}{ps qs l:List Int}{o:Option Int}{hs:List (Option Int)}{ρ:List Sl}
local macro_rules|`(tactic|symm)=>`(tactic|first|apply ao|apply zb)
abbrev big:Int:=1606938044258990275541962092341162602522202993782792835301376
theorem aX(h0:0<m)(g:m<1000)(k:∀d y:Int,0<=d->d<m->Q (.val (.int d)) [.own true [.int y],.val false (.int m)]):(run Γ w (n+1) 15 [.own true [.int x],.val false (.int m)]).sat Q:=by
 have f:m<1606938044258990275541962092341162602522202993782792835301376:=by omega
 refine aU (d:=Qa) rfl rfl (by decide) ?_;symm;simp[Qa,h0,f];apply ao;simp[h0,f,jr];apply ao;simp;exact k _ _ (Int.emod_nonneg _ (by omega)) (Int.emod_lt_of_pos _ h0)
structure Wy where(s t r h:Int)
variable{ws:List Wy}{v u:Wy}
def Wy.d(w:Wy):D:=.tup [.int w.s,.int w.t,.int w.r,.int w.h]
structure Wy.Ok(m:Int)(w:Wy):Prop where
 s0:0<=w.s
 s1:w.s<m
 t0:0<=w.t
 t1:w.t<m
 ne:w.s≠w.t
 r0:0<=w.r
 r1:w.r<=1000000000
 h0:1<=w.h
 h1:w.h<=1000000
theorem other(h1:0<=a)(f:a<m)(g:0<=b)(q:b<m-1):0<=(a+1+b)%m/\(a+1+b)%m<m/\(a+1+b)%m≠a:=by
 by_cases h:a+1+b<m;.rw[Int.emod_eq_of_lt (by omega) h];omega
 . have e:(a+1+b)%m=a+1+b-m:=by rw[<-Int.sub_emod_right,Int.emod_eq_of_lt (by omega) (by omega)]
   rw[e];omega
theorem pick{c d f lo g:Int}(h0:0<=i)(h1:i<=5)(k1:lo<=a/\a<=g/\lo<=b/\b<=g)(k2:lo<=c/\c<=g/\lo<=d/\d<=g)(k3:lo<=e/\e<=g/\lo<=f/\f<=g):∃r,at' [D.int a,D.int b,D.int c,D.int d,D.int e,D.int f] i=some (.int r)/\lo<=r/\r<=g:=by
 have:i=0\/i=1\/i=2\/i=3\/i=4\/i=5:=by omega
 rcases this with rfl|rfl|rfl|rfl|rfl|rfl;.exact⟨a,RJ,by omega⟩
 .exact⟨b,Tf,by omega⟩
 .exact⟨c,RT,by omega⟩
 .exact⟨d,YW,by omega⟩
 .exact⟨e,Zo,by omega⟩
 .exact⟨f,Yh,by omega⟩
theorem FT(h0:2<=m)(O:m<=6)(k:∀(w:Wy)(y:Int),w.Ok m->Q (.val w.d) [.own true [.int y],.val false (.int m)]):(run Γ w (n+2) 16 [.own true [.int x],.val false (.int m)]).sat Q:=by
 refine aU (d:=V9) rfl rfl (by decide) ?_;symm;simp[V9];refine aX (by omega) (by omega) λa x q z=>?_;simp;apply ao;simp;refine aX (by omega) (by omega) λb x B C=>?_;obtain⟨t0,t1,N⟩:=other q z B C;simp[show 0<m by omega];generalize(a+1+b)%m=t at*;refine jd (λρ=>∃y s t,ρ=[.own true [.int y],.val false (.int m),.val false (.int s),.val false (.int t),.bG,.bG]/\0<=s/\s<m/\0<=t/\t<m/\s≠t) ?_ ?_
 . simp;constructor
   . intro _;refine aX (by omega) (by omega) λd x f g=>?_;simp;constructor;.intro _;symm;simp;refine⟨_,_,_,⟨rfl,rfl,rfl⟩,?_⟩;omega
     .intro _;refine⟨_,_,_,⟨rfl,rfl,rfl⟩,?_⟩;omega
   .intro _;refine⟨_,_,_,⟨rfl,rfl,rfl⟩,?_⟩;omega
 rintro _⟨x,s,t,rfl,s0,s1,t0,t1,ne⟩;clear q z B C N;symm;simp;refine aX (by omega) (by omega) λd1 x f g=>?_;simp;refine aX (by omega) (by omega) λd2 x G H=>?_;simp;refine aX (by omega) (by omega) λd3 x I J=>?_;simp;obtain⟨r,e,r0,r1⟩:∃r,at' [D.int 0,D.int 1,D.int 2,D.int 3,D.int (1+d1),D.int (1000000000-d2)] (if d3<5 then d3 else 5)=some (.int r)/\0<=r/\r<=1000000000:=pick (by split<;>omega) (by split<;>omega) (by omega) (by omega) (by omega);rw[e];simp;clear e f g G H I J;symm;simp;refine aX (by omega) (by omega) λd1 x f g=>?_;simp;refine aX (by omega) (by omega) λd2 x G H=>?_;simp;refine aX (by omega) (by omega) λd3 x I J=>?_;simp;obtain⟨h,e,L,M⟩:∃r,at' [D.int 1,D.int 1,D.int 2,D.int 3,D.int (1+d1),D.int (1000000-d2)] (if d3<5 then d3 else 5)=some (.int r)/\1<=r/\r<=1000000:=pick (by split<;>omega) (by split<;>omega) (by omega) (by omega) (by omega);rw[e];simp;clear e f g G H I J;refine jd (λρ=>∃y r,ρ=[.own true [.int y],.val false (.int m),.val false (.int s),.val false (.int t),.val false (.int r),.val false (.int h)]/\0<=r/\r<=1000000000) ?_ ?_
 . simp;refine aX (by omega) (by omega) λd x f g=>?_;simp;constructor;.intro _;symm;simp;refine aX (by omega) (by omega) λd x f g=>?_;simp;refine⟨_,_,⟨rfl,rfl⟩,?_⟩;omega
   .intro _;refine⟨_,_,⟨rfl,rfl⟩,?_⟩;omega
 rintro _⟨x,r,rfl,r0,r1⟩;refine jd (λρ=>∃y h,ρ=[.own true [.int y],.val false (.int m),.val false (.int s),.val false (.int t),.val false (.int r),.val false (.int h)]/\1<=h/\h<=1000000) ?_ ?_
 . simp;refine aX (by omega) (by omega) λd x f g=>?_;simp;constructor;.intro _;symm;simp;refine aX (by omega) (by omega) λd x f g=>?_;simp;refine⟨_,_,⟨rfl,rfl⟩,?_⟩;omega
   .intro _;refine⟨_,_,⟨rfl,rfl⟩,?_⟩;omega
 rintro _⟨x,h,rfl,L,M⟩;symm;simp;exact k ⟨s,t,r,h⟩ x ⟨s0,s1,t0,t1,ne,r0,r1,L,M⟩
theorem Gm{d:D}(h:d∈(List.range (b-a).toNat).map λ(k:Nat)=>D.int (a+(k:Int))):∃i,d=.int i/\a<=i/\i<b:=by rw[mem_map]at h;obtain⟨k,h1,rfl⟩:=h;rw[List.mem_range]at h1;exact⟨a+k,rfl,by omega,by omega⟩
inductive Yd(x:Int)(r:List D)(ρ:List Sl):Prop where|mk(a b:Int)(s t:Sl)(q0:ρ=[.val false (.int x),.val false (.int a),.val false (.int b),s,t])(q1:fr s=true)(q2:fr t=true)(q3:∀d∈r,∃i,d=D.int i/\0<=i/\i<48)
theorem G3(k:∀y:Int,Q (.own [.int y]) [.val false (.int x)]):(run Γ w (n+1) 14 [.val false (.int x)]).sat Q:=by
 refine aU (d:=WL) rfl rfl (by decide) ?_;symm;simp[WL];constructor;.intro _;symm;simp;exact k _
 intro _;symm;simp;apply ao;simp;generalize x%2147483647+16807=one;symm;simp;refine cO (Yd x) ?_ ?_ ?_
 . rintro d r _⟨a,b,s,t,rfl,hs,f,h⟩;obtain⟨i,rfl,B,i1⟩:=h d (by simp);simp[hs];apply ao;have g:-18446744073709551616<7919*i/\7919*i<18446744073709551616:=by omega
   simp[g];generalize hz:(b*48271+7919*i*i+104729)%2147483647=z;have q:-18446744073709551616<z/\z<18446744073709551616:=by omega
   symm;simp[q,f];apply ao;simp;exact⟨_,_,_,_,rfl,rfl,rfl,λd hd=>h d (mem_cons_of_mem _ hd)⟩
 .rintro _⟨a,b,s,t,rfl,hs,f,h⟩;symm;simp;exact k _
 .refine⟨_,_,_,_,rfl,rfl,rfl,λd hd=>?_⟩;have:=Gm (a:=0) (b:=48) (d:=d) (by simpa using hd);exact this
theorem Om(w:Wy):bV 7 w.d=true:=rfl
theorem yt{ds:List D}{k:Nat}(h:∀d∈ds,bV k d=true):bV (k+1) (.lst ds)=true:=by rw[bV];exact all_eq_true.mpr h
theorem DR{ds:List D}{k:Nat}(h:∀d∈ds,bV k d=true):bV (k+1) (.tup ds)=true:=by rw[bV];exact all_eq_true.mpr h
theorem ne_nil:cm .ne (.lst (ws.map Wy.d)) (.lst [])=some (!ws.isEmpty):=by show qO _ _=_;unfold qO;rw[yt (λd hd=>by obtain⟨w,_,rfl⟩:=mem_map.mp hd;exact Om w)];cases ws<;>simp[gq,du,bV]
def aR(m:Int)(ws:List Wy):D:=.tup [.int m,.tup (ws.map Wy.d)]
structure aH(m:Int)(ws:List Wy):Prop where
 m0:2<=m
 m1:m<=6
 len:ws.length<=12
 ok:∀w∈ws,w.Ok m
inductive YM(b:Bool)(m:Int)(r:List D)(ρ:List Sl):Prop where|mk(y:Int)(ws:List Wy)(s t:Sl)(q0:ρ=[.own b [.int y],.val false (.int m),.own false (ws.map Wy.d),s,t])(q1:fr s=true)(q2:fr t=true)(q3:(∀w∈ws,w.Ok m))(q4:ws.length+r.length<=12)
theorem Hy{b:Bool}(k:∀(m:Int)(ws:List Wy)(y:Int),aH m ws->Q (.val (aR m ws)) [.own b [.int y]]):(run Γ w (n+3) 17 [.own b [.int x]]).sat Q:=by
 refine aU (d:=VM) rfl rfl (by decide) ?_;symm;simp[VM];refine aX (by omega) (by omega) λd1 x f g=>?_;simp;obtain⟨m,L,m0,m1⟩:∃m,m=2+d1/\2<=m/\m<=6:=⟨_,rfl,by omega,by omega⟩;rw[<-L];symm;simp;apply ao;simp;refine aX (by omega) (by omega) λd1 x f g=>?_;simp;refine aX (by omega) (by omega) λd2 x N O=>?_;simp;refine aX (by omega) (by omega) λd3 x U W=>?_;simp;obtain⟨c,e,c0,c1⟩:∃r,at' [D.int d1,D.int 12,D.int (4+d2)] d3=some (.int r)/\0<=r/\r<=12:=by
  have:d3=0\/d3=1\/d3=2:=by omega
  rcases this with rfl|rfl|rfl;.exact⟨_,RJ,by omega⟩
  .exact⟨_,Tf,by omega⟩
  .exact⟨_,RT,by omega⟩
 rw[e];simp;refine⟨by omega,?_⟩;refine cO (YM b m) ?_ ?_ ?_
 . rintro d r _⟨y,ws,s,t,rfl,hs,J,C,I⟩;simp[hs];simp only[length_cons]at I;apply ao;simp;refine FT m0 m1 λw y G=>?_;simp[J];refine jd (λρ=>∃(y:Int)(w:Wy),ρ=[.own b [.int y],.val false (.int m),.own false (ws.map Wy.d),.val false d,.val false w.d]/\w.Ok m) ?_ ?_
   . by_cases q:ws=[];.subst q;have en:=ne_nil (ws:=[]);simp at en;simp[en];exact⟨_,_,⟨rfl,rfl⟩,G⟩
     . have M:0<ws.length:=by cases ws with|nil=>exact absurd rfl q|cons _ _=>simp
       have en:cm .ne (.lst (ws.map Wy.d)) (.lst [])=some true:=by rw[ne_nil];cases ws with|nil=>exact absurd rfl q|cons _ _=>rfl
       simp[en];refine aX (by omega) (by omega) λd1 x f g=>?_;by_cases c0:d1=0
       . simp[c0];symm;simp;refine aX (by omega) (by omega) λd1 x f g=>?_;simp;have z:d1.toNat<ws.length:=by omega
         rw[eF f (by simpa using g),getElem?_map,getElem?_eq_getElem z];simp;exact⟨_,_,⟨rfl,rfl⟩,C _ (getElem_mem z)⟩
       .simp[c0];exact⟨_,_,⟨rfl,rfl⟩,G⟩
   rintro _⟨y,w,rfl,G⟩;symm;have B:ws.length<lim:=by show _<16777216;omega
   simp[B];refine⟨y,ws++[w],.val false d,.val false w.d,by simp,rfl,rfl,λv H=>?_,by simp;omega⟩;rw[mem_append,mem_singleton]at H;rcases H with H|rfl;.exact C v H
   .exact G
 .rintro _⟨y,ws,s,t,rfl,hs,J,C,I⟩;symm;simp;exact k m ws y ⟨m0,m1,by simpa using I,C⟩
 .exact⟨x,[],_,_,rfl,rfl,rfl,by simp,by simp;omega⟩
@[simp]theorem abk{g q:Type}{a:g}{ρ:List Sl}{f:g->List Sl->Res q}:(Res.ok a ρ).bind f=f a ρ:=rfl
@[simp]theorem RV{g q:Type}{f:g->List Sl->Res q}:(Res.stuck:Res g).bind f=.stuck:=rfl
@[simp]theorem Wq{f:Type}{a:f}{ρ:List Sl}:lift (some a) ρ=.ok a ρ:=rfl
@[simp]theorem V4{c:Call}{n k:Nat}{ρ:List Sl}:ex c n (.lq k) ρ=.stuck:=(rfl)
theorem Ck(h0:0<=k)(h1:k<(ws.length:Int)):∃v,ws[k.toNat]?=some v/\v∈ws/\at' (ws.map Wy.d) k=some v.d:=by
 have f:k.toNat<ws.length:=by omega
 refine⟨ws[k.toNat],by simp[f],getElem_mem f,?_⟩;rw[eF h0 (by simpa using h1)];simp[f]
theorem eO:Ab v.d (.int 0)=some (.val (.int v.s)):=by simp[Wy.d]
theorem eY:Ab v.d (.int 1)=some (.val (.int v.t)):=by simp[Wy.d]
theorem cZ:Ab v.d (.int 2)=some (.val (.int v.r)):=by simp[Wy.d]
theorem nu:Ab v.d (.int 3)=some (.val (.int v.h)):=by simp[Wy.d]
@[simp]theorem aa2{m:Int}{ws:List Wy}:Ab (aR m ws) (.int 0)=some (.val (.int m)):=rfl
@[simp]theorem aa8{m:Int}{ws:List Wy}:Ab (aR m ws) (.int 1)=some (.val (.tup (ws.map Wy.d))):=rfl
theorem CV(h0:0<=k)(h1:k<(ws.length:Int))(f:at' (ws.map Wy.d) k=some v.d):run Γ w (n+1) 1 [.val false (aR m ws),.val false (.int k)]=.ok (.val v.d) [.val false (aR m ws),.val false (.int k)]:=by rw[iR (d:=f1) rfl];unfold enter;simp[f1,b1,bO,h0,h1,f]
theorem Ez{f:Type}{xs:List f}(h0:0<=k)(h1:k<(xs.length:Int)):cut xs none (some k)=xs.take k.toNat:=by unfold cut cF;simp[h0];try rw[Nat.min_eq_left (by omega)]
theorem VG{f:Type}{xs:List f}(h0:0<=k)(h1:k<(xs.length:Int)):cut xs (some (k+1)) none=xs.drop (k.toNat+1):=by
 unfold cut cF;have e:(k+1).toNat=k.toNat+1:=by omega
 simp[show 0<=k+1 by omega,e];try rw[Nat.min_eq_left (by omega)]
 try rw[take_of_length_le (by simp)]
def bF(ws:List Wy)(ps:List Int)(k:Int):Option (List Int):=if 0<=k/\k<ws.length then match ws[k.toNat]?with|some v=>if v.r<1 then none else if ps=[]then(if v.t=v.s then none else some [v.s,v.t])else if ps.getLast?=some v.s/\v.t∉ps then some (ps++[v.t])else none|none=>none else none
def aP:List S:=match vM with|_::.gZ _ _ _ b::_=>b|_=>[]
abbrev WF(m:Int)(ws:List Wy)(s1:Sl)(ps:List Int)(k:Int)(s4:Sl):List Sl:=[.val false (aR m ws),s1,.own false (ps.map D.int),.val false (.int k),s4]
theorem Bo{s1 s4:Sl}(e:¬(0<=k/\k<(ws.length:Int))):bO c n aP (WF m ws s1 ps k s4)=.stuck/\∃g,bI c n aP (WF m ws s1 ps k s4)=some (3,g):=by
 by_cases f:0<=k
 . have q:¬ k<(ws.length:Int):=λz=>e ⟨f,z⟩;constructor;.simp[aP,vM,bO,f,q]
   .simp[aP,vM,bI,lz,f,q]
 . constructor;.simp[aP,vM,bO,f]
   .simp[aP,vM,bI,lz,f]
theorem Aa{s1 s4:Sl}(g:0<=k)(q:k<(ws.length:Int))(ev:at' (ws.map Wy.d) k=some v.d)(hr:v.r<1):bO c n aP (WF m ws s1 ps k s4)=.stuck/\∃f,bI c n aP (WF m ws s1 ps k s4)=some (3,f):=by
 constructor;.simp[aP,vM,bO,g,q,ev,cZ,hr]
 .simp[aP,vM,bI,lz,g,q,ev,cZ,hr]
theorem wF{s1 s4:Sl}(q:fr s4=true)(y:0<=k)(z:k<(ws.length:Int))(ev:at' (ws.map Wy.d) k=some v.d)(hr:¬ v.r<1)(g:v.s≠v.t):bO c n aP (WF m ws s1 [] k s4)=.ok .next (WF m ws s1 [v.s,v.t] k (.val false v.d))/\bI c n aP (WF m ws s1 [] k s4)=none:=by
 have f:cm .inn (.int v.t) (.lst [.int v.s])=some false:=by have:=wC (S:=[v.s]) (i:=v.t);simpa[Ne.symm g]using this
 have B:at' [D.int v.s] (-1)=some (.int v.s):=m8 (l:=[]);have C:0<lim:=by show 0<16777216;omega
 have G:1<lim:=by show 1<16777216;omega
 constructor;.simp[aP,vM,bO,y,z,ev,eO,eY,cZ,hr,q,f,B,C,G]
 .simp[aP,vM,bO,bI,lz,y,z,ev,eO,eY,cZ,hr,q,f,B,C,G,dz,fH]
theorem Ie{z:Int}{s1 s4:Sl}(y:fr s4=true)(N:ps.length<=1000)(B:0<=k)(C:k<(ws.length:Int))(ev:at' (ws.map Wy.d) k=some v.d)(hr:¬ v.r<1)(hz:ps.getLast?=some z):(v.s=z->v.t∉ps->bO c n aP (WF m ws s1 ps k s4)=.ok .next (WF m ws s1 (ps++[v.t]) k (.val false v.d))/\bI c n aP (WF m ws s1 ps k s4)=none)/\((v.s≠z\/v.t∈ps)->bO c n aP (WF m ws s1 ps k s4)=.stuck/\∃I,bI c n aP (WF m ws s1 ps k s4)=some (3,I)):=by
 have f:ps≠[]:=by rintro rfl;simp at hz
 have M:¬(ps.length:Int)=0:=by have:0<ps.length:=List.length_pos_iff.mpr f;omega
 have G:at' (ps.map D.int) (-1)=some (.int z):=by obtain⟨l,x,rfl⟩:∃l x,ps=l++[x]:=⟨ps.dropLast,ps.getLast f,(List.dropLast_concat_getLast f).symm⟩;rw[map_append,List.map_singleton,m8];simpa using hz
 have H:ps.length<lim:=by show _<16777216;omega
 refine⟨λhs J=>?_,λL=>?_⟩
 . have g:cm .inn (.int v.t) (.lst (ps.map D.int))=some false:=by rw[wC];simp[J]
   constructor;.simp[aP,vM,bO,B,C,ev,eO,eY,cZ,hr,y,g,G,H,f,hs]
   .simp[aP,vM,bO,bI,lz,B,C,ev,eO,eY,cZ,hr,y,g,G,H,f,hs,dz,fH]
 . by_cases hs:v.s=z
   . have J:v.t∈ps:=L.resolve_left (λq=>q hs);have g:cm .inn (.int v.t) (.lst (ps.map D.int))=some true:=by rw[wC];simp[J]
     constructor;.simp[aP,vM,bO,B,C,ev,eO,eY,cZ,hr,y,g,G,H,f,hs]
     .simp[aP,vM,bO,bI,lz,B,C,ev,eO,eY,cZ,hr,y,g,G,H,f,hs,dz,fH]
   . constructor;.simp[aP,vM,bO,B,C,ev,eO,eY,cZ,hr,y,G,H,f,hs]
     .simp[aP,vM,bO,bI,lz,B,C,ev,eO,eY,cZ,hr,y,G,H,f,hs,dz,fH]
def eV(ws:List Wy):List Int->List Int->Option (List Int)|[],ps=>some ps|k::r,ps=>match bF ws ps k with|some qs=>eV ws r qs|none=>none
def hh(ws:List Wy)(k:Int):Int:=match ws[k.toNat]?with|some v=>v.h|none=>0
def tot(ws:List Wy)(l:List Int):Int:=(l.map (hh ws)).sum
theorem fu(h:bF ws ps k=some qs):0<=k/\k<(ws.length:Int)/\qs.length<=ps.length+2/\qs≠[]:=by
 unfold bF at h;by_cases e:0<=k/\k<(ws.length:Int)
 . rw[if_pos e]at h;refine⟨e.1,e.2,?_⟩;split at h
   . split at h;.cases h
     . split at h
       . split at h;.cases h
         .cases h;rename_i z _;rw[z];simp
       . split at h;.cases h;simp
         .cases h
   .cases h
 .rw[if_neg e]at h;cases h
theorem DQ{ws:List Wy}:∀{l ps qs:List Int},eV ws l ps=some qs->∀k∈l,0<=k/\k<(ws.length:Int)|[],_,_,_,k,hk=>by cases hk|a::l,ps,qs,h,k,hk=>by rw[eV]at h;cases e:bF ws ps a with|none=>rw[e]at h;cases h|some f=>
     rw[e]at h;rcases mem_cons.mp hk with rfl|hk;.exact⟨(fu e).1,(fu e).2.1⟩
     .exact DQ h k hk
theorem Fg{ws:List Wy}:∀{l ps qs:List Int},eV ws l ps=some qs->qs.length<=ps.length+2*l.length|[],_,_,h=>by rw[eV]at h;cases h;simp|a::l,ps,qs,h=>by rw[eV]at h;cases e:bF ws ps a with|none=>rw[e]at h;cases h|some f=>rw[e]at h;have:=Fg h;have:=(fu e).2.2.1;simp;omega
theorem GZ{s1 s4:Sl}(M:aH m ws)(I:fr s4=true)(B:ps.length<=1000):match bF ws ps k with|some qs=>∃J,fr J=true/\bO c n aP (WF m ws s1 ps k s4)=.ok .next (WF m ws s1 qs k J)/\bI c n aP (WF m ws s1 ps k s4)=none|none=>bO c n aP (WF m ws s1 ps k s4)=.stuck/\∃C,bI c n aP (WF m ws s1 ps k s4)=some (3,C):=by
 by_cases e:0<=k/\k<(ws.length:Int)
 . obtain⟨v,N,O,G⟩:=Ck e.1 e.2;have L:=M.ok v O;have H:bF ws ps k=(if v.r<1 then none else if ps=[]then(if v.t=v.s then none else some [v.s,v.t])else if ps.getLast?=some v.s/\v.t∉ps then some (ps++[v.t])else none):=by unfold bF;rw[if_pos e,N]
   rw[H];by_cases hr:v.r<1;.rw[if_pos hr];exact Aa e.1 e.2 G hr
   . rw[if_neg hr];by_cases y:ps=[];.rw[if_pos y,if_neg (λz=>L.ne z.symm)];subst y;have:=wF (c:=c) (n:=n) (m:=m) (s1:=s1) I e.1 e.2 G hr L.ne;exact⟨_,rfl,this.1,this.2⟩
     . rw[if_neg y];obtain⟨z,hz⟩:∃z,ps.getLast?=some z:=⟨_,List.getLast?_eq_some_getLast y⟩;have:=Ie (c:=c) (n:=n) (m:=m) (s1:=s1) I B e.1 e.2 G hr hz;by_cases g:ps.getLast?=some v.s/\v.t∉ps
       . rw[if_pos g];have f:v.s=z:=by have:=g.1;rw[hz]at this;cases this;rfl
         exact⟨_,rfl,this.1 f g.2⟩
       . rw[if_neg g];refine this.2 ?_;by_cases f:v.s=z;.right;exact Decidable.byContradiction λq=>g ⟨by rw[hz,f],q⟩
         .exact .inl f
 . have H:bF ws ps k=none:=by unfold bF;rw[if_neg e]
   rw[H];exact Bo e
theorem yD{s1:Sl}(y:aH m ws):∀(l ps:List Int)(s3 s4:Sl),fr s3=true->fr s4=true->ps.length+2*l.length<=1000->match eV ws l ps with|some qs=>∃z g,gM [3] true (bO c n aP) (l.map D.int) [.val false (aR m ws),s1,.own false (ps.map D.int),s3,s4]=.ok .next [.val false (aR m ws),s1,.own false (qs.map D.int),z,g]/\qM [3] true (bO c n aP) (bI c n aP) (l.map D.int) [.val false (aR m ws),s1,.own false (ps.map D.int),s3,s4]=none|none=>gM [3] true (bO c n aP) (l.map D.int) [.val false (aR m ws),s1,.own false (ps.map D.int),s3,s4]=.stuck/\∃f,qM [3] true (bO c n aP) (bI c n aP) (l.map D.int) [.val false (aR m ws),s1,.own false (ps.map D.int),s3,s4]=some (3,f):=by intro l;induction l with|nil=>intro ps s3 s4 _ _ _;exact⟨_,_,rfl,rfl⟩|cons k l B=>
   intro ps s3 s4 C G H;simp only[length_cons]at H;have q:di [.val false (aR m ws),s1,.own false (ps.map D.int),s3,s4] [3] true (.int k)=some (WF m ws s1 ps k s4):=by simp[C,WF]
   have r:=GZ (c:=c) (n:=n) (k:=k) (s1:=s1) y G (ps:=ps) (by omega)
   rw[eV];cases e:bF ws ps k with|none=>
     rw[e]at r;obtain⟨t1,f,s⟩:=r;refine⟨?_,f,?_⟩;.rw[map_cons,gM,q];simp only[t1];rfl
     .rw[map_cons,qM,q];simp only[s]|some qs=>
     rw[e]at r;obtain⟨g,f4,t1,s⟩:=r;have:=(fu e).2.2.1;have I:=B qs (.val false (.int k)) g rfl f4 (by omega);have J:gM [3] true (bO c n aP) ((k::l).map D.int) [.val false (aR m ws),s1,.own false (ps.map D.int),s3,s4]=gM [3] true (bO c n aP) (l.map D.int) (WF m ws s1 qs k g):=by rw[map_cons,gM,q];simp only[t1];rfl
     have L:qM [3] true (bO c n aP) (bI c n aP) ((k::l).map D.int) [.val false (aR m ws),s1,.own false (ps.map D.int),s3,s4]=qM [3] true (bO c n aP) (bI c n aP) (l.map D.int) (WF m ws s1 qs k g):=by rw[map_cons,qM,q];simp only[t1,s]
     simp only[];rw[J,L];exact I
abbrev A2(m:Int)(ws:List Wy)(l:List Int):List Sl:=[.val false (aR m ws),.val false (.tup (l.map D.int))]
theorem qu(f:aH m ws)(g:l.length<=100)(h:eV ws l []=some qs):run Γ w (n+1) 12 (A2 m ws l)=.ok (.val (.tup (qs.map D.int))) (A2 m ws l):=by have z:=yD (c:=run Γ w n) (n:=w) (s1:=.val false (.tup (l.map D.int))) f l [] .bG .bG rfl rfl (by simp;omega);rw[h]at z;obtain⟨s3,s4,z,_⟩:=z;rw[iR (d:=⟨2,5,[.asg 2 (.lst []),.gZ (.var 1) [3] true aP,.ret (.blt .tuple [.var 2])]⟩) rfl];generalize aP=B at z ⊢;unfold enter;rw[map_nil]at z;simp[bO,z]
theorem Qe(g:aH m ws)(r:l.length<=100)(h:eV ws l []=none):∃args,run Γ w (n+1) 12 (A2 m ws l)=.exc 3 args:=by have z:=yD (c:=run Γ w n) (n:=w) (s1:=.val false (.tup (l.map D.int))) g l [] .bG .bG rfl rfl (by simp;omega);rw[h]at z;obtain⟨z,q,f⟩:=z;rw[iR (d:=⟨2,5,[.asg 2 (.lst []),.gZ (.var 1) [3] true aP,.ret (.blt .tuple [.var 2])]⟩) rfl];generalize aP=B at z f ⊢;unfold enter;rw[map_nil]at z f;simp[bO,bI,lz,dz,fH,z,f]
inductive F2c(a b:Sl)(ρ:List Sl):Prop where|mk(s:Sl)(q0:ρ=[a,b,s])(q1:fr s=true)
theorem Uv(h0:0<=k)(h1:k<(ws.length:Int)):∃v:Wy,at' (ws.map Wy.d) k=some v.d/\v.h=hh ws k:=by obtain⟨v,f,_,g⟩:=Ck h0 h1;exact⟨v,g,by unfold hh;rw[f]⟩
def gH(ws:List Wy):D->D|.int k=>.int (hh ws k)|d=>d
theorem qw(r:aH m ws)(y:l.length<=100)(h:eV ws l []=some qs)(q:Q (.val (.int (tot ws l))) (A2 m ws l)):(run Γ w (n+2) 13 (A2 m ws l)).sat Q:=by
 refine aU (d:=V2) rfl rfl (by decide) ?_;symm;simp[V2,qu r y h];apply ao;have f:l.length<=lim:=by show _<=16777216;omega
 simp[f];refine je (F2c _ _) (gH ws) ⟨.bG,rfl,rfl⟩ ?_ ?_;.rintro d hd _⟨s,rfl,hs⟩;obtain⟨k,g,rfl⟩:=mem_map.mp hd;obtain⟨k0,k1⟩:=DQ h k g;obtain⟨v,z,B⟩:=Uv k0 k1;simp[hs,z,nu,gH,B];exact⟨_,rfl,rfl⟩
 rintro _⟨s,rfl,hs⟩;have C:(l.map D.int).map (gH ws)=(l.map (hh ws)).map D.int:=by simp[gH]
 rw[C,oH];simp;exact q
inductive Wk(ws:List Wy)(a:Int):Int->Int->Prop where|nil:Wk ws a a 0|step{p h:Int}{v:Wy}(k:Wk ws a p h)(hv:v∈ws)(r:0<v.r)(s:v.s=p):Wk ws a v.t (h+v.h)
theorem Wk.nn(f:aH m ws)(a0:0<=a)(q:a<m)(k:Wk ws a p h):0<=h/\0<=p/\p<m:=by induction k with|nil=>omega|step k g r s y=>have h1:=f.ok _ g;have:=h1.h0;have:=h1.t0;have:=h1.t1;omega
theorem Wk.trans{q g:Int}(k:Wk ws a p h)(l:Wk ws p q g):Wk ws a q (h+g):=by induction l with|nil=>simpa using k|@step p' g' v l f r s y=>rw[<-Int.add_assoc];exact .step y f r s
theorem Wk.one(f:v∈ws)(r:0<v.r):Wk ws v.s v.t v.h:=by have:=Wk.step (.nil:Wk ws v.s v.s 0) f r rfl;simpa using this
theorem Wk.first(k:Wk ws a b h):(a=b/\h=0)\/∃v∈ws,0<v.r/\v.s=a/\∃g,Wk ws v.t b g/\h=v.h+g:=by induction k with|nil=>exact .inl ⟨rfl,rfl⟩|@step p h v k f r s q=>
   right;rcases q with⟨e,rfl⟩|⟨u,y,B,C,g,z,e⟩;.subst e;exact⟨v,f,r,s,0,.nil,by omega⟩
   .exact⟨u,y,B,C,g+v.h,.step z f r s,by omega⟩
def Sub(f ws:List Wy):Prop:=∀v∈f,0<v.r->∃u∈ws,0<u.r/\u.s=v.s/\u.t=v.t/\u.h=v.h
theorem Wk.sub{g:List Wy}(hs:Sub g ws)(k:Wk g a p h):Wk ws a p h:=by induction k with|nil=>exact .nil|@step p h v k q r s y=>obtain⟨u,z,B,C,G,f⟩:=hs v q r;rw[<-G,<-f];exact .step y z B (C.trans s)
def cg(ws:List Wy)(a p:Int)(o:Option Int):Prop:=match o with|none=>∀h,¬ Wk ws a p h|some v=>Wk ws a p v/\∀h,Wk ws a p h->v<=h
theorem cg.uniq{f:Option Int}(h:cg ws a p o)(h':cg ws a p f):o=f:=by cases o with
 |none=>cases f with|none=>rfl|some v=>exact absurd h'.1 (h v)
 |some u=>cases f with|none=>exact absurd h.1 (h' u)|some v=>have:=h.2 v h'.1;have:=h'.2 u h.1;congr 1;omega
theorem cg.iff{f:List Wy}{q:Int}(e:∀h,Wk f a p h↔Wk ws b q h)(k:cg f a p o):cg ws b q o:=by cases o with|none=>exact λh z=>k h ((e h).mpr z)|some v=>exact⟨(e v).mp k.1,λh z=>k.2 h ((e h).mpr z)⟩
theorem cg.sub{f ws:List Wy}{a p:Int}{o:Option Int}(s1:Sub f ws)(s2:Sub ws f)(k:cg f a p o):cg ws a p o:=k.iff λh=>⟨Wk.sub s1,Wk.sub s2⟩
def oD:Option Int->D|none=>.non|some i=>.int i
def Bm:Option Int->Nat|none=>6000001|some v=>v.toNat
def meas(hs:List (Option Int)):Nat:=(hs.map Bm).sum
def cnt(hs:List (Option Int)):Nat:=(hs.filter Option.isSome).length
theorem uC:∀{hs:List (Option Int)}{k:Nat}{o n:Option Int},hs[k]?=some o->Bm n<Bm o->meas (hs.set k n)<meas hs|[],_,_,_,h,_=>by simp at h|x::hs,0,o,n,h,l=>by simp at h;subst h;simp only[meas,List.set_cons_zero,map_cons,sum_cons];omega|x::hs,k+1,o,n,h,l=>by have:=uC (hs:=hs) (k:=k) (by simpa using h) l;simp only[meas,List.set_cons_succ,map_cons,sum_cons]at this ⊢;omega
theorem yr:∀(hs:List (Option Int)),(∀o∈hs,Bm o<=6000001)->meas hs<=6000001*hs.length|[],_=>by simp[meas]|x::hs,h=>by have h1:=h x (by simp);have f:=yr hs λo ho=>h o (by simp[ho]);simp only[meas,map_cons,sum_cons,length_cons]at f ⊢;omega
theorem iJ:∀{hs:List (Option Int)}{k:Nat}{v:Int},hs[k]?=some none->cnt (hs.set k (some v))=cnt hs+1|[],_,_,h=>by simp at h|x::hs,0,v,h=>by simp at h;subst h;simp[cnt]|x::hs,k+1,v,h=>by have:=iJ (hs:=hs) (k:=k) (v:=v) (by simpa using h);simp only[cnt,List.set_cons_succ,List.filter_cons]at this ⊢;split<;>simp[this]
theorem lY:∀{hs:List (Option Int)}{k:Nat}{u v:Int},hs[k]?=some (some u)->cnt (hs.set k (some v))=cnt hs|[],_,_,_,h=>by simp at h|x::hs,0,u,v,h=>by simp at h;subst h;simp[cnt]|x::hs,k+1,u,v,h=>by have:=lY (hs:=hs) (k:=k) (v:=v) (by simpa using h);simp only[cnt,List.set_cons_succ,List.filter_cons]at this ⊢;split<;>simp[this]
theorem v5(hs:List (Option Int)):cnt hs<=hs.length:=List.length_filter_le _ _
structure Aw(m:Int)(ws:List Wy)(a0:Int)(hs:List (Option Int)):Prop where
 len:(hs.length:Int)=m
 zero:hs[a0.toNat]?=some (some 0)wk:∀(p:Nat)(v:Int),hs[p]?=some (some v)->Wk ws a0 p v/\v<=1000000*((cnt hs:Int)-1)
def lg(hs:List (Option Int))(v:Wy):Prop:=0<v.r->∀a:Int,hs[v.s.toNat]?=some (some a)->∃b:Int,hs[v.t.toNat]?=some (some b)/\b<=a+v.h
theorem Aw.pot(f:aH m ws)(h:Aw m ws a0 hs):∀o∈hs,Bm o<=6000001:=by intro o ho;obtain⟨p,g,e⟩:=List.getElem_of_mem ho;cases o with|none=>exact cD|some v=>have h1:=(h.wk p v (by rw[getElem?_eq_getElem g,e])).2;have q:=v5 hs;have r:=h.len;have s:=f.m1;show v.toNat<=_;omega
theorem Aw.upd(g:aH m ws)(H:0<=a0)(I:a0<m)(h:Aw m ws a0 hs)(C:v∈ws)(r:0<v.r)(J:hs[v.s.toNat]?=some (some a))(ho:hs[v.t.toNat]?=some o)(q:∀b,o=some b->a+v.h<b):Aw m ws a0 (hs.set v.t.toNat (some (a+v.h)))/\meas (hs.set v.t.toNat (some (a+v.h)))<meas hs:=by
 have f:=g.ok v C;have s0:=f.s0;have t0:=f.t0;have h0:=f.h0;have h1:=f.h1;obtain⟨y,M⟩:=h.wk _ _ J;rw[show((v.s.toNat:Nat):Int)=v.s by omega]at y;have N:=(y.nn g H I).1;have wt:Wk ws a0 v.t (a+v.h):=.step y C r rfl;have z:=(gW ho).1;have B:v.t.toNat≠a0.toNat:=by intro e;rw[e,h.zero]at ho;cases ho;have:=q 0 rfl;omega
 have hc:(cnt hs:Int)<=cnt (hs.set v.t.toNat (some (a+v.h)))/\a+v.h<=1000000*((cnt (hs.set v.t.toNat (some (a+v.h))):Int)-1):=by cases o with|none=>rw[iJ ho];omega|some b=>rw[lY ho];have:=(h.wk _ _ ho).2;have:=q b rfl;omega
 refine⟨⟨by rw[length_set];exact h.len,by rw[getElem?_set_ne B];exact h.zero,λp u e=>?_⟩,uC ho ?_⟩
 . by_cases G:p=v.t.toNat;.subst G;rw[getElem?_set_self z]at e;cases e;refine⟨by rw[show((v.t.toNat:Nat):Int)=v.t by omega];exact wt,hc.2⟩
   .rw[gk G]at e;obtain⟨L,O⟩:=h.wk p u e;exact⟨L,by omega⟩
 .cases o with|none=>show(a+v.h).toNat<6000001;have U:=v5 hs;have W:=h.len;have X:=g.m1;omega|some b=>have:=q b rfl;show(a+v.h).toNat<b.toNat;omega
theorem Aw.least(C:0<=a0)(G:aH m ws)(h:Aw m ws a0 hs)(hr:∀v∈ws,lg hs v):∀(p:Nat)(o:Option Int),hs[p]?=some o->cg ws a0 p o:=by
 have q:∀(p g:Int),Wk ws a0 p g->∃b:Int,hs[p.toNat]?=some (some b)/\b<=g:=by intro p g k;induction k with|nil=>exact⟨0,h.zero,Int.le_refl _⟩|@step p g v k y r s z=>obtain⟨a,B,H⟩:=z;obtain⟨b,f,I⟩:=hr v y r a (by rw[s];exact B);exact⟨b,f,by omega⟩
 intro p o e;cases o with|none=>intro g k;obtain⟨b,f,_⟩:=q _ _ k;rw[show((p:Nat):Int).toNat=p by omega,e]at f;cases f|some v=>refine⟨(h.wk p v e).1,λg k=>?_⟩;obtain⟨b,f,l⟩:=q _ _ k;rw[show((p:Nat):Int).toNat=p by omega,e]at f;cases f;exact l
theorem Aw.start(g:aH m ws)(q:0<=a0)(r:a0<m):Aw m ws a0 ((replicate m.toNat none).set a0.toNat (some 0)):=by
 have m0:=g.m0;refine⟨by rw[length_set,length_replicate];omega,getElem?_set_self (by rw[length_replicate];omega),λp v e=>?_⟩;by_cases f:p=a0.toNat;.subst f;rw[getElem?_set_self (by rw[length_replicate];omega)]at e;cases e;refine⟨by rw[show((a0.toNat:Nat):Int)=a0 by omega];exact .nil,?_⟩;rw[iJ (by rw[getElem?_replicate,if_pos (by omega)])];omega
 .rw[gk f,getElem?_replicate]at e;split at e<;>cases e
theorem mU{g:Type}{l:List g}{f:g->D}{x:g}(h0:0<=i)(h:l[i.toNat]?=some x):at' (l.map f) i=some (f x):=by have:=rJ (f:=f) h;rwa[show((i.toNat:Nat):Int)=i by omega]at this
theorem wg(h0:0<=i)(h:i<n):jr n i=some i.toNat:=by have:=Mz (n:=n) (k:=i.toNat) (by omega);rwa[show((i.toNat:Nat):Int)=i by omega]at this
@[simp]theorem Ej:gf (oD none)=true:=rfl
@[simp]theorem Ei{v:Int}:gf (oD (some v))=false:=rfl
inductive PJ(m:Int)(ws:List Wy)(a0:Int)(M:Nat)(r:List D)(ρ:List Sl):Prop where|mk(hs:List (Option Int))(b:Bool)(us pre:List Wy)(s4 s5:Sl)(q0:ρ=[.val false (aR m ws),.val false (.int a0),.own false (hs.map oD),.val false (.bl b),s4,s5])(q1:fr s4=true)(q2:fr s5=true)(q3:r=us.map Wy.d)(q4:ws=pre++us)(q5:Aw m ws a0 hs)(q6:meas hs<=M)(q7:((b=true/\meas hs<M)\/(b=false/\∀v∈pre,lg hs v)))
inductive WJ(m:Int)(ws:List Wy)(a0:Int)(M:Nat)(ρ:List Sl):Prop where|mk(hs:List (Option Int))(b:Bool)(s4 s5:Sl)(q0:ρ=[.val false (aR m ws),.val false (.int a0),.own false (hs.map oD),.val false (.bl b),s4,s5])(q1:fr s4=true)(q2:fr s5=true)(q3:Aw m ws a0 hs)(q4:((b=true/\meas hs<M)\/(b=false/\∀v∈ws,lg hs v)))
theorem uQ(hw:50000000<=w)(h:aH m ws)(W:0<=a0)(z1:a0<m)(k:∀hs:List (Option Int),(hs.length:Int)=m->(∀(p:Nat)(o:Option Int),hs[p]?=some o->cg ws a0 p o)->(∀(p:Nat)(v:Int),hs[p]?=some (some v)->0<=v/\v<=6000000)->Q (.own (hs.map oD)) [.val false (aR m ws),.val false (.int a0)]):(run Γ w (n+1) 5 [.val false (aR m ws),.val false (.int a0)]).sat Q:=by
 have m0:=h.m0;have m1:=h.m1;refine aU (d:=f5) rfl rfl (by decide) ?_;refine jd (λρ=>ρ=[.val false (aR m ws),.val false (.int a0),.own false ((replicate m.toNat (none:Option Int)).map oD),.bG,.bG,.bG]) ?_ ?_;.simp[f5,oD];refine⟨by omega,by show _<=16777216;omega⟩
 rintro _ rfl;refine jd (λρ=>ρ=[.val false (aR m ws),.val false (.int a0),.own false (((replicate m.toNat (none:Option Int)).set a0.toNat (some 0)).map oD),.bG,.bG,.bG]) ?_ ?_;.simp[wg (n:=m.toNat) (i:=a0) W (by omega),oD]
 rintro _ rfl;have J:=Aw.start h W z1;generalize((replicate m.toNat (none:Option Int)).set a0.toNat (some 0))=C at*;symm;simp;apply ao;simp;have ag:meas C<=6000001*C.length:=yr C (J.pot h);have ah:=J.len;refine iH (WJ m ws a0) ?_ (k:=w) (m:=meas C+1) (by omega) ⟨C,true,.bG,.bG,rfl,rfl,rfl,J,.inl ⟨rfl,Nat.lt_succ_self _⟩⟩;rintro M _⟨hs,b,s4,s5,rfl,U,I,hh,z⟩;simp;rcases z with⟨rfl,hM⟩|⟨rfl,ae⟩
 . simp;symm;simp;apply ao;simp;refine cO (PJ m ws a0 (meas hs)) ?_ ?_ ⟨hs,false,ws,[],s4,s5,rfl,U,I,rfl,rfl,hh,cD,.inr ⟨rfl,by simp⟩⟩;.rintro d r _⟨g,b,B,pre,s4,s5,rfl,U,I,hr,G,q,H,z⟩;cases B with|nil=>cases hr|cons v B=>
       obtain⟨rfl,rfl⟩:d=v.d/\r=B.map Wy.d:=by simpa using hr
       have hv:v∈ws:=by rw[G];simp
       have hk:=h.ok v hv;have s0:=hk.s0;have s1:=hk.s1;have t0:=hk.t0;have t1:=hk.t1;have af:=q.len;obtain⟨os,es⟩:∃o,g[v.s.toNat]?=some o:=⟨_,getElem?_eq_getElem (by omega)⟩;obtain⟨ot,et⟩:∃o,g[v.t.toNat]?=some o:=⟨_,getElem?_eq_getElem (by omega)⟩;have as:=mU (f:=oD) s0 es;have L:=mU (f:=oD) t0 et;have X:jr g.length v.t=some v.t.toNat:=wg t0 (by omega);have Y:ws=(pre++[v])++B:=by rw[G];simp
       have stay:lg g v->((b=true/\meas g<meas hs)\/(b=false/\∀u∈pre++[v],lg g u)):=λhx=>by
        rcases z with z|⟨z,hp⟩;.exact .inl z
        . refine .inr ⟨z,λu hu=>?_⟩;rcases mem_append.mp hu with hu|hu;.exact hp u hu
          .rw[mem_singleton.mp hu];exact hx
       simp[U];apply ao;by_cases r0:0<v.r;.cases os with|none=>simp[Wy.d,r0,as];exact⟨g,b,B,pre++[v],_,_,rfl,rfl,I,rfl,Y,q,H,stay λ_ a Z=>by rw[es]at Z;cases Z⟩|some a=>
           have up:=λ(hl:∀b,ot=some b->a+v.h<b)=>q.upd h W z1 hv r0 es et hl;simp[Wy.d,r0,as];apply ao;simp[as,oD,I];have GK:∀y:List (Option Int),y=g.set v.t.toNat (some (a+v.h))->(g.map oD).set v.t.toNat (D.int (a+v.h))=y.map oD:=λy e=>by rw[e,map_set];rfl
           symm;cases ot with|none=>
             obtain⟨u1,u2⟩:=up λb z=>by cases z
             have N:=GK _ rfl;generalize g.set v.t.toNat (some (a+v.h))=y at*;simp[L];apply ao;simp[X,N];apply ao;simp;exact⟨y,true,B,pre++[v],_,_,rfl,rfl,rfl,rfl,Y,u1,by omega,.inl ⟨rfl,by omega⟩⟩|some bb=>
             by_cases O:a+v.h<bb
             . obtain⟨u1,u2⟩:=up λb z=>by cases z;exact O
               have N:=GK _ rfl;generalize g.set v.t.toNat (some (a+v.h))=y at*;simp[L,oD,O];apply ao;simp[X,N];apply ao;simp;exact⟨y,true,B,pre++[v],_,_,rfl,rfl,rfl,rfl,Y,u1,by omega,.inl ⟨rfl,by omega⟩⟩
             .simp[L,oD,O];exact⟨g,b,B,pre++[v],_,_,rfl,rfl,rfl,rfl,Y,q,H,stay λ_ a' Z=>by rw[es]at Z;cases Z;exact⟨bb,et,by omega⟩⟩
       .simp[Wy.d,r0];exact⟨g,b,B,pre++[v],_,_,rfl,rfl,I,rfl,Y,q,H,stay λhx=>absurd hx r0⟩
   . rintro _⟨g,b,B,pre,s4,s5,rfl,U,I,hr,G,q,H,z⟩;have:B=[]:=by cases B with|nil=>rfl|cons _ _=>cases hr
     subst this;rw[append_nil]at G;subst G;simp;rcases z with⟨rfl,hl⟩|⟨rfl,hp⟩;.exact⟨meas hs,hM,g,true,_,_,rfl,U,I,q,.inl ⟨rfl,hl⟩⟩
     .exact⟨0,by omega,g,false,_,_,rfl,U,I,q,.inr ⟨rfl,hp⟩⟩
 .simp;symm;simp;exact k hs hh.len (hh.least W h ae) λp v e=>by have h1:=hh.wk p v e;have h2:=v5 hs;have h3:=hh.len;exact⟨(h1.1.nn h W z1).1,by omega⟩
def Wy.turn(m:Int)(w:Wy):Wy:=⟨m-1-w.t,m-1-w.s,w.r,w.h⟩
theorem zu:(ws.map (Wy.turn m)).map (Wy.turn m)=ws:=by
 rw[map_map];have:(Wy.turn m ∘ Wy.turn m)=id:=by funext w;cases w;simp only[Function.comp,Wy.turn,id];congr 1<;>omega
 rw[this];simp
theorem uc(h:aH m ws):aH m (ws.map (Wy.turn m)):=by refine⟨h.m0,h.m1,by simpa using h.len,λv f=>?_⟩;obtain⟨u,g,rfl⟩:=mem_map.mp f;have o:=h.ok u g;have:=o.s0;have:=o.s1;have:=o.t0;have:=o.t1;have:=o.ne;exact⟨by show 0<=m-1-u.t;omega,by show m-1-u.t<m;omega,by show 0<=m-1-u.s;omega,by show m-1-u.s<m;omega,by show m-1-u.t≠m-1-u.s;omega,o.r0,o.r1,o.h0,o.h1⟩
theorem Wk.turned{P:Int}(k:Wk (ws.map (Wy.turn m)) (m-1-b) P h):Wk ws (m-1-P) b h:=by induction k with|nil=>rw[show m-1-(m-1-b)=b by omega];exact .nil|@step p h v k g r s f=>
   obtain⟨u,q,rfl⟩:=mem_map.mp g;have B:m-1-u.t=p:=s;have y:m-1-p=u.t:=by omega
   rw[y]at f;have z:m-1-(Wy.turn m u).t=u.s:=by show m-1-(m-1-u.s)=u.s;omega
   rw[z];have:=(Wk.one q (show 0<u.r from r)).trans f;rw[Int.add_comm];exact this
theorem yP:Wk (ws.map (Wy.turn m)) (m-1-b) (m-1-p) h↔Wk ws p b h:=by
 constructor;.intro k;have:=k.turned;rwa[show m-1-(m-1-p)=p by omega]at this
 . intro k;have f:Wk ((ws.map (Wy.turn m)).map (Wy.turn m)) (m-1-(m-1-p)) b h:=by rw[zu,show m-1-(m-1-p)=p by omega];exact k
   exact f.turned
def Za(m:Int):D->D|.tup [.int s,.int t,.int r,.int h]=>(Wy.turn m ⟨s,t,r,h⟩).d|d=>d
theorem Iz{w:Wy}:Za m w.d=(w.turn m).d:=rfl
inductive FT3(a b c:Sl)(ρ:List Sl):Prop where|mk(s:Sl)(q0:ρ=[a,b,c,s])(q1:fr s=true)
theorem oO(g:ws.length<=13)(q:Q (.val (aR m (ws.map (Wy.turn m)))) [.val false (aR m ws)]):(run Γ w (n+1) 2 [.val false (aR m ws)]).sat Q:=by
 refine aU (d:=f2) rfl rfl (by decide) ?_;symm;simp[f2];apply ao;have f:ws.length<=lim:=by show _<=16777216;omega
 simp[f];refine je (FT3 _ _ _) (Za m) ⟨.bG,rfl,rfl⟩ ?_ ?_;.rintro d hd _⟨s,rfl,hs⟩;obtain⟨v,r,rfl⟩:=mem_map.mp hd;simp[hs,eO,eY,cZ,nu,Iz];exact⟨rfl,_,rfl,rfl⟩
 rintro _⟨s,rfl,hs⟩;simp;apply ao;simp;have e:aR m (ws.map (Wy.turn m))=.tup [.int m,.tup ((ws.map Wy.d).map (Za m))]:=by simp[aR,Iz]
 rw[e]at q;simpa using q
theorem Dt(f:50000000<=w)(h:aH m ws)(k:∀hs:List (Option Int),(hs.length:Int)=m->(∀(p:Nat)(o:Option Int),hs[p]?=some o->cg ws 0 p o)->Q (.own (hs.map oD)) [.val false (aR m ws)]):(run Γ w (n+2) 6 [.val false (aR m ws)]).sat Q:=by have m0:=h.m0;refine aU (d:=f6) rfl rfl (by decide) ?_;symm;simp[f6];refine uQ f h (by decide) (by omega) λhs h1 g _=>?_;exact k hs h1 g
@[simp]theorem RP{ds:List D}:blt .Io [.lst ds]=some (.own ds.reverse):=rfl
structure LOk(m:Int)(ws:List Wy)(b:Int)(L:List (Option Int)):Prop where
 len:(L.length:Int)=m
 least:∀(p:Nat)(o:Option Int),L[p]?=some o->cg ws p b o
 bnd:∀(p:Nat)(v:Int),L[p]?=some (some v)->0<=v/\v<=6000000
theorem Ko(r:50000000<=w)(h:aH m ws)(b0:0<=b)(b1:b<m)(k:∀L:List (Option Int),LOk m ws b L->Q (.own (L.map oD)) [.val false (aR m ws),.val false (.int b)]):(run Γ w (n+2) 7 [.val false (aR m ws),.val false (.int b)]).sat Q:=by
 have m0:=h.m0;have z:=h.len;refine aU (d:=f7) rfl rfl (by decide) ?_;symm;simp[f7];refine oO (by omega) ?_;simp;refine uQ r (uc h) (by omega) (by omega) λhs h1 s y=>?_;simp;rw[<-List.map_reverse];have q:∀(p:Nat)(o:Option Int),hs.reverse[p]?=some o->hs[hs.length-1-p]?=some o/\p<hs.length:=λp o e=>by
  have f:p<hs.length:=by have:=(gW e).1;simpa using this
  rw[List.getElem?_reverse f]at e;exact⟨e,f⟩
 refine k hs.reverse ⟨by simpa using h1,λp o e=>?_,λp v e=>?_⟩;.obtain⟨g,f⟩:=q p o e;have:=s _ o g;rw[show((hs.length-1-p:Nat):Int)=m-1-(p:Int)by omega]at this;exact this.iff λh=>yP
 .obtain⟨g,f⟩:=q p _ e;exact y _ v g
def outI(ws:List Wy)(p:Int):List Int:=(List.range ws.length).filterMap λ(i:Nat)=>match ws[i]?with|some v=>if v.s=p then some (i:Int)else none|none=>none
def outD(p:Int):D->Option D|.tup [.int i,.tup [.int s,_,_,_]]=>if s=p then some (.int i)else none|_=>none
theorem vq{q r:Type}{f g:q->Option r}:∀{l:List q},(∀x∈l,f x=g x)->l.filterMap f=l.filterMap g|[],_=>rfl|a::l,h=>by rw[filterMap_cons,filterMap_cons,h a (by simp),vq λx s=>h x (mem_cons_of_mem _ s)]
theorem Gd:((ws.map Wy.d).mapIdx λi d=>D.tup [.int (i:Int),d]).filterMap (outD p)=(outI ws p).map D.int:=by
 have e:((ws.map Wy.d).mapIdx λi d=>D.tup [.int (i:Int),d])=(List.range ws.length).map λ(k:Nat)=>D.tup [.int (k:Int),((ws[k]?).map Wy.d).getD .non]:=by
  apply ext_getElem;.simp
  . intro i h1 g;have:i<ws.length:=by simpa using h1
    simp[this]
 rw[e,List.filterMap_map,outI,List.map_filterMap];apply vq;intro k f;have f:k<ws.length:=by simpa using f
 by_cases h:ws[k].s=p<;>simp[outD,f,Wy.d,h]
theorem Hn{ds:List D}{d:D}(h:d∈ds.mapIdx λi d=>D.tup [.int (i:Int),d]):∃(i:Nat)(e:D),d=.tup [.int i,e]/\e∈ds:=by rw[List.mem_mapIdx]at h;obtain⟨i,f,rfl⟩:=h;exact⟨i,_,rfl,getElem_mem f⟩
inductive FO2(a b:Sl)(ρ:List Sl):Prop where|mk(s:Sl)(t:Sl)(q0:ρ=[a,b,s,t])(q1:fr s=true)(q2:fr t=true)
theorem FP(h:aH m ws)(k:Q (.own ((outI ws p).map D.int)) [.val false (aR m ws),.val false (.int p)]):(run Γ w (n+1) 0 [.val false (aR m ws),.val false (.int p)]).sat Q:=by
 have r:=h.len;refine aU (d:=f0) rfl rfl (by decide) ?_;symm;have f:ws.length<=lim:=by show _<=16777216;omega
 simp[f0,f];have q:=Gd (ws:=ws) (p:=p);refine lK (FO2 _ _) (outD p) ⟨.bG,.bG,rfl,rfl,rfl⟩ ?_ ?_
 . rintro d hd _⟨s,t,rfl,hs,g⟩;obtain⟨i,e,rfl,he⟩:=Hn hd;obtain⟨v,y,rfl⟩:=mem_map.mp he;by_cases e:v.s=p;.simp[hs,g,Wy.d,outD,e];exact⟨_,_,rfl,rfl,rfl⟩
   .simp[hs,g,Wy.d,outD,e];exact⟨_,_,rfl,rfl,rfl⟩
 rintro _⟨s,t,rfl,hs,g⟩;rw[q];simpa using k
def uW(L:List (Option Int))(v:Wy):Bool:=decide (0<v.r)&&match L[v.t.toNat]?with|some (some g)=>(match L[v.s.toNat]?with|some (some f)=>v.h+g==f|_=>false)|_=>false
theorem LR:cm .eq (.int i) .non=some false:=rfl
theorem Dj{L:List (Option Int)}(z:v.Ok m)(H:(L.length:Int)=m)(q:Q (.val (.bl (uW L v))) [.val false v.d,.own true (L.map oD)]):(run Γ w (n+1) 8 [.val false v.d,.own true (L.map oD)]).sat Q:=by
 have s0:=z.s0;have s1:=z.s1;have t0:=z.t0;have t1:=z.t1;obtain⟨os,B⟩:∃o,L[v.s.toNat]?=some o:=⟨_,getElem?_eq_getElem (by omega)⟩;obtain⟨G,C⟩:∃o,L[v.t.toNat]?=some o:=⟨_,getElem?_eq_getElem (by omega)⟩;have as:=mU (f:=oD) s0 B;have y:=mU (f:=oD) t0 C;refine aU (d:=f8) rfl rfl (by decide) ?_;symm;unfold uW at q;rw[B,C]at q;by_cases hr:0<v.r;.cases G with|none=>simp[f8,eY,cZ,hr,y];simpa[hr]using q|some g=>cases os with|none=>simp[f8,eO,eY,cZ,nu,hr,y,as];simp[oD,eO,as,LR];simpa[hr]using q|some f=>simp[f8,eO,eY,cZ,nu,hr,y,as];simp[oD,eO,as];simpa[hr]using q
 .simp[f8,cZ,hr];simpa[hr]using q
theorem qW:k∈outI ws p↔0<=k/\k<(ws.length:Int)/\∃v,ws[k.toNat]?=some v/\v.s=p:=by
 unfold outI;rw[List.mem_filterMap];constructor
 . rintro⟨i,f,e⟩;have f:i<ws.length:=by simpa using f
   rw[getElem?_eq_getElem f]at e;simp only at e;split at e;.rename_i hs;cases e;exact⟨by omega,by omega,ws[i],by simp[f],hs⟩
   .cases e
 .rintro⟨k0,k1,v,g,hs⟩;refine⟨k.toNat,by simp;omega,?_⟩;rw[g];simp[hs];omega
def isC(ws:List Wy)(L:List (Option Int))(k:Int):Bool:=match ws[k.toNat]?with|some v=>uW L v|none=>false
def gQ(ws:List Wy)(L:List (Option Int)):D->Option D|.int k=>if isC ws L k=true then some (.int k)else none|_=>none
theorem MP{L:List (Option Int)}(f:List Int):(f.map D.int).filterMap (gQ ws L)=(f.filter (isC ws L)).map D.int:=by induction f with|nil=>rfl|cons k f g=>rw[map_cons,filterMap_cons,List.filter_cons,g];rw[show gQ ws L (.int k)=if isC ws L k=true then some (D.int k)else none from rfl];by_cases h:isC ws L k=true<;>simp[h]
theorem jP{g:List Int}(r:ps≠[])(h:bF ws ps k=some g):∃v,ws[k.toNat]?=some v/\g=ps++[v.t]/\v.t∉ps/\ps.getLast?=some v.s/\v∈ws:=by
 have f:=fu h;obtain⟨v,q,y,z⟩:=Ck f.1 f.2.1;unfold bF at h;rw[if_pos ⟨f.1,f.2.1⟩,q]at h;simp only[if_neg r]at h;split at h;.cases h
 . split at h;.rename_i hc;cases h;exact⟨v,q,rfl,hc.2,hc.1,y⟩
   .cases h
theorem yR(z:aH m ws)(f:ps≠[])(k0:0<=k)(k1:k<(ws.length:Int))(g:ws[k.toNat]?=some v)(hr:0<v.r)(q:ps.getLast?=some v.s)(y:v.t∉ps):bF ws ps k=some (ps++[v.t]):=by unfold bF;rw[if_pos ⟨k0,k1⟩,g];simp only[if_neg f];rw[if_neg (by omega),if_pos ⟨q,y⟩]
theorem uP{ws:List Wy}{k:Int}:∀{l ps:List Int},eV ws (l++[k]) ps=match eV ws l ps with|some qs=>bF ws qs k|none=>none
 |[],ps=>by rw[nil_append,eV,eV];show(match bF ws ps k with|some qs=>eV ws [] qs|none=>none)=bF ws ps k;cases bF ws ps k with|none=>rfl|some qs=>simp[eV]
 |a::l,ps=>by rw[List.cons_append,eV,eV];cases e:bF ws ps a with|none=>rfl|some qs=>exact uP
theorem rm{m:Int}{ws:List Wy}(g:aH m ws):∀{l ps qs:List Int},ps≠[]->ps.Nodup->(∀x∈ps,0<=x/\x<m)->eV ws l ps=some qs->qs.Nodup/\(∀x∈qs,0<=x/\x<m)/\qs.length=ps.length+l.length|[],ps,qs,_,h1,f,h=>by rw[eV]at h;cases h;exact⟨h1,f,by simp⟩|k::l,ps,qs,r,h1,f,h=>by rw[eV]at h;cases e:bF ws ps k with
   |none=>rw[e]at h;cases h|some J=>rw[e]at h;obtain⟨v,L,rfl,s,_,B⟩:=jP r e;have q:=g.ok v B;obtain⟨C,G,H⟩:=rm g (l:=l) (ps:=ps++[v.t]) (by simp) (by rw[nodup_append];refine⟨h1,by simp,λx hx y I=>?_⟩;rw[mem_singleton.mp I];intro z;rw[z]at hx;exact s hx) (λx hx=>by
      rcases mem_append.mp hx with hx|hx;.exact f x hx
      .rw[mem_singleton.mp hx];exact⟨q.t0,q.t1⟩) h;refine⟨C,G,?_⟩;rw[H];simp;omega
theorem uh{g:Type}[BEq g][LawfulBEq g]:∀{l l2:List g},l.Nodup->(∀a∈l,a∈l2)->l.length<=l2.length
 |[],_,_,_=>uI|a::l,l2,y,hs=>by
   have r:=hs a (by simp);have f:=nodup_cons.mp y;have:=uh (l:=l) (l2:=l2.erase a) f.2 λb s=>by
    have q:b≠a:=by rintro rfl;exact f.1 s
    exact(List.mem_erase_of_ne q).mpr (hs b (by simp[s]))
   rw[List.length_erase_of_mem r]at this;have:=List.length_pos_of_mem r;simp only[length_cons];omega
theorem pU(f:aH m ws)(h:eV ws l [0]=some qs):l.length<=5:=by
 have m0:=f.m0;have m1:=f.m1;obtain⟨q,r,s⟩:=rm f (by simp) (by simp) (λx g=>by rw[mem_singleton.mp g];omega) h;have:=uh (l2:=[0,1,2,3,4,5]) q λx g=>by
  have:=r x g;have:x=0\/x=1\/x=2\/x=3\/x=4\/x=5:=by omega
  simpa using this
 simp at this s;omega
theorem Dz:tot ws (l++[k])=tot ws l+hh ws k:=by simp[tot]
theorem zZ{g:Int}{L:List (Option Int)}(U:aH m ws)(B:LOk m ws b L)(X:0<=p)(Y:p<m)(H:L[p.toNat]?=some (some g))(C:p≠b):∃(k:Int),k∈(outI ws p).filter (isC ws L):=by
 have y:=B.least _ _ H;rw[show((p.toNat:Nat):Int)=p by omega]at y;rcases y.1.first with⟨e,_⟩|⟨v,G,r,s,g',z,e⟩;.exact absurd e C
 .obtain⟨i,I,J⟩:=List.getElem_of_mem G;have M:=U.ok v G;have t0:=M.t0;have t1:=M.t1;have N:=B.len;obtain⟨W,O⟩:∃o,L[v.t.toNat]?=some o:=⟨_,getElem?_eq_getElem (by omega)⟩;have q:=B.least _ _ O;rw[show((v.t.toNat:Nat):Int)=v.t by omega]at q;cases W with|none=>exact absurd z (q g')|some f=>
     have h1:=q.2 g' z;have Z:g<=v.h+f:=by have:=(Wk.one G r).trans q.1;rw[s]at this;exact y.2 _ this
     refine⟨(i:Int),mem_filter.mpr ⟨qW.mpr ⟨by omega,by omega,v,by rw[toNat_natCast,getElem?_eq_getElem I,J],s⟩,?_⟩⟩;unfold isC;rw[toNat_natCast,getElem?_eq_getElem I,J];simp only[uW,O,s,H,r,decide_true,Bool.true_and];simp;omega
inductive JS(m:Int)(ws:List Wy)(b g0:Int)(L:List (Option Int))(M:Nat)(ρ:List Sl):Prop where|mk(l ps:List Int)(p g:Int)(s5:Sl)(q0:ρ=[.val false (aR m ws),.val false (.int b),.own false (L.map oD),.own false (l.map D.int),.val false (.int p),s5])(q1:fr s5=true)(q2:0<=p)(q3:p<m)(q4:L[p.toNat]?=some (some g))(q5:g.toNat<=M)(q6:eV ws l [0]=some ps)(q7:ps.getLast?=some p)(q8:(∀x∈ps,∃gx,L[x.toNat]?=some (some gx)/\g<=gx))(q9:tot ws l+g=g0)
inductive FW(a b c d e f:Sl)(ρ:List Sl):Prop where|mk(s:Sl)(q0:ρ=[a,b,c,d,e,f,s])(q1:fr s=true)
theorem CG{ns:List Int}(h:ns≠[]):∃i,i∈ns/\ns.min?=some i:=by cases e:ns.min? with|none=>rw[List.min?_eq_none_iff]at e;exact absurd e h|some i=>exact⟨i,List.min?_mem e,rfl⟩
theorem o8{B:Int}(hw:50000000<=w)(C:aH m ws)(b0:0<=b)(b1:b<m)(ag:cg ws 0 b (some B))(q:∀(l ps:List Int),eV ws l [0]=some ps->ps.getLast?=some b->l.length<=5->tot ws l=B->Q (.val (.tup (l.map D.int))) [.val false (aR m ws),.val false (.int b)]):(run Γ w (n+3) 9 [.val false (aR m ws),.val false (.int b)]).sat Q:=by
 have m0:=C.m0;refine aU (d:=f9) rfl rfl (by decide) ?_;symm;simp[f9,b0,b1];apply ao;simp;refine Ko hw C b0 b1 λL J=>?_;have X:=J.len;have G:L[0]?=some (some B):=by obtain⟨o,e⟩:∃o,L[0]?=some o:=⟨_,getElem?_eq_getElem (by omega)⟩;have:=J.least 0 o e;rw[e,this.uniq ag]
 have a0:at' (L.map oD) 0=some (.int B):=by rw[eF (by decide) (by simp;omega)];simp[G,oD]
 simp;apply ao;simp[a0];apply ao;simp;apply ao;simp;apply ao;simp;have gb:=J.bnd 0 B G;refine iH (JS m ws b B L) ?_ (k:=w) (m:=B.toNat) (by omega) ⟨[],[0],0,B,.bG,rfl,rfl,by decide,by omega,G,cD,rfl,rfl,λx hx=>⟨B,by rw[mem_singleton.mp hx];exact G,Int.le_refl _⟩,by simp[tot]⟩;rintro M _⟨l,ps,p,g,s5,rfl,h5,p0,p1,hg,hM,N,vH,Y,av⟩;have aw:=J.bnd _ _ hg;have ah:ps≠[]:=by rintro rfl;cases vH
 have ai:=pU C N;by_cases H:p=b;.subst H;simp;apply ao;simp;have Z:=J.least _ _ hg;rw[show((p.toNat:Nat):Int)=p by omega]at Z;have:=Z.2 0 .nil;exact q l ps N vH ai (by omega)
 . have ax:(p==b)=false:=by simpa using H
   simp[H];apply ao;simp;refine FP C ?_;have ay:(outI ws p).length<=12:=by have h1:=C.len;have h2:(outI ws p).length<=(List.range ws.length).length:=List.length_filterMap_le _ _;simp at h2;omega
   simp;refine⟨λ_=>?_,by show _<=16777216;omega⟩;refine lK (FW _ _ _ _ _ _) (gQ ws L) ⟨.bG,rfl,rfl⟩ ?_ ?_
   . rintro d hd _⟨s,rfl,hs⟩;obtain⟨k,am,rfl⟩:=mem_map.mp hd;obtain⟨k0,k1,v,I,O⟩:=qW.mp am;have vo:=C.ok v (mem_of_getElem? I);have ha:at' (ws.map Wy.d) k=some v.d:=by rw[eF k0 (by simpa using k1)];simp[I]
     have hc:isC ws L k=uW L v:=by unfold isC;rw[I]
     simp[hs,ha];refine Dj vo X ?_;rw[show gQ ws L (.int k)=if isC ws L k=true then some (.int k)else none from rfl,hc];cases y:uW L v with|true=>simp;exact⟨_,rfl,rfl⟩|false=>simp;exact⟨_,rfl,rfl⟩
   rintro _⟨s,rfl,hs⟩;rw[MP];obtain⟨kx,ae⟩:=zZ C J p0 p1 hg H;obtain⟨k,U,af⟩:=CG (ns:=(outI ws p).filter (isC ws L)) (λz=>by rw[z]at ae;cases ae);rw[mem_filter]at U;obtain⟨k0,k1,v,I,O⟩:=qW.mp U.1;have ap:v∈ws:=mem_of_getElem? I;have vo:=C.ok v ap;have ha:at' (ws.map Wy.d) k=some v.d:=by rw[eF k0 (by simpa using k1)];simp[I]
   have y:uW L v=true:=by have:=U.2;unfold isC at this;rwa[I]at this
   have l1:l.length<lim:=by show _<16777216;omega
   obtain⟨f,hf,hr,aE⟩:∃f,L[v.t.toNat]?=some (some f)/\0<v.r/\v.h+f=g:=by unfold uW at y;rw[O,hg]at y;cases e:L[v.t.toNat]?with|none=>rw[e]at y;simp at y|some o=>cases o with|none=>rw[e]at y;simp at y|some f=>rw[e]at y;simp at y;exact⟨f,rfl,y.1,y.2⟩
   have aI:=J.bnd _ _ hf;have aS:=vo.h0;have ar:v.t∉ps:=λz=>by obtain⟨gx,e1,e2⟩:=Y _ z;rw[hf]at e1;cases e1;omega
   simp[af,h5];apply ao;simp[l1];apply ao;simp[ha,eY];have W:bF ws ps k=some (ps++[v.t]):=yR C ah k0 k1 I hr (by rw[vH,O]) ar;refine⟨f.toNat,by omega,l++[k],ps++[v.t],v.t,f,.val false (.int k),by simp,rfl,vo.t0,vo.t1,hf,cD,by rw[uP,N];exact W,by simp,λx hx=>?_,?_⟩
   . rcases mem_append.mp hx with hx|hx;.obtain⟨gx,e1,e2⟩:=Y x hx;exact⟨gx,e1,by omega⟩
     .rw[mem_singleton.mp hx];exact⟨f,hf,Int.le_refl _⟩
   . have:hh ws k=v.h:=by unfold hh;rw[I]
     rw[Dz,this];omega
def gd:Nat->D->Bool|_,.non=>true|_,.int _=>true|k+1,.tup ds=>decide (ds.length<=1000)&&ds.all (gd k)|k+1,.lst ds=>decide (ds.length<=1000)&&ds.all (gd k)|_,_=>false
theorem Vu{f:Type}{l:List f}:(l.map λ_=>D.bl true).mapM Gr=some (l.map λ_=>true):=by induction l with|nil=>rfl|cons a l g=>simp[g]
theorem all_true{f:Type}{l:List f}:(l.map λ_=>true).all id=true:=by simp
theorem km:∀(k:Nat)(d:D),gd k d=true->gq d d=true:=by
 have seq:∀(k:Nat),(∀d,gd k d=true->gq d d=true)->∀ds:List D,ds.all (gd k)=true->du ds ds=true:=by intro k f ds;induction ds with|nil=>intro _;rw[du]|cons d ds q=>intro h;rw[all_cons,and_eq_true]at h;rw[du,f d h.1,q h.2];rfl
 intro k;induction k with
 |zero=>intro d g;cases d with|non=>rfl|int i=>exact beq_self_eq_true _|bl b=>cases g|str s=>cases g|dm s=>cases g|dv _ _=>cases g|tup ds=>cases g|lst ds=>cases g
 |succ k f=>intro d g;cases d with|non=>rfl|int i=>exact beq_self_eq_true _|bl b=>cases g|str s=>cases g|dm s=>cases g|dv _ _=>cases g|tup ds=>rw[gd,and_eq_true]at g;exact seq k f ds g.2|lst ds=>rw[gd,and_eq_true]at g;exact seq k f ds g.2
theorem KR:∀(k j:Nat)(d:D),k<=j->gd k d=true->bV j d=true:=by intro k;induction k with
 |zero=>intro j d _ g;cases d with|non=>rw[bV]|int i=>rw[bV]|bl b=>cases g|str s=>cases g|dm s=>cases g|dv _ _=>cases g|tup ds=>cases g|lst ds=>cases g
 |succ k f=>intro j d q g;cases d with|non=>rw[bV]|int i=>rw[bV]|bl b=>cases g|str s=>cases g|dm s=>cases g|dv _ _=>cases g|tup ds=>rw[gd,and_eq_true]at g;obtain⟨j,rfl⟩:∃i,j=i+1:=⟨j-1,by omega⟩;exact DR λd hd=>f j d (by omega) (all_eq_true.mp g.2 d hd)|lst ds=>rw[gd,and_eq_true]at g;obtain⟨j,rfl⟩:∃i,j=i+1:=⟨j-1,by omega⟩;exact yt λd hd=>f j d (by omega) (all_eq_true.mp g.2 d hd)
theorem eq_self{k:Nat}{d:D}(f:k<=8)(h:gd k d=true):cm .eq d d=some true:=by show wW d d=_;unfold wW;rw[KR k 8 d f h,km k d h];rfl
structure St where(w ps:List Int)(h:Int)
variable{wt:List St}
def lst(ps:List Int):Int:=ps.getLast?.getD 0
def goes(st:St)(v:Wy):Bool:=decide (v.s=lst st.ps)&&(decide (0<v.r)&&!st.ps.contains v.t)
def on(st:St)(j:Nat)(v:Wy):St:=⟨st.w++[(j:Int)],st.ps++[v.t],st.h+v.h⟩
def oM(st:St):Nat->List Wy->List St|_,[]=>[]|i,v::ws=>if goes st v=true then on st i v::oM st (i+1) ws else oM st (i+1) ws
def nx(ws:List Wy)(st:St):List St:=oM st 0 ws
structure Vs(m:Int)(st:St):Prop where
 nd:st.ps.Nodup
 Rm:∀p∈st.ps,0<=p/\p<m
 ne:st.ps≠[]len:st.w.length+1=st.ps.length
theorem qG:lst (ps++[t])=t:=by unfold lst;simp
theorem mV(h:ps≠[]):lst ps∈ps:=by unfold lst;rw[List.getLast?_eq_some_getLast h];exact List.getLast_mem h
theorem rW{st s:St}:∀{ws:List Wy}{i:Nat},s∈oM st i ws->∃j v,v∈ws/\goes st v=true/\s=on st j v
 |[],_,h=>by cases h|v::ws,i,h=>by
   rw[oM]at h;split at h
   . rename_i c;rcases mem_cons.mp h with rfl|h;.exact⟨i,v,by simp,c,rfl⟩
     .obtain⟨j,u,h1,f⟩:=rW h;exact⟨j,u,by simp[h1],f⟩
   .obtain⟨j,u,h1,f⟩:=rW h;exact⟨j,u,by simp[h1],f⟩
theorem rY{st:St}:∀{ws:List Wy}{i:Nat},(oM st i ws).length<=ws.length
 |[],_=>cD|v::ws,i=>by
   have:=rY (st:=st) (ws:=ws) (i:=i+1);rw[oM,length_cons];split;.rw[length_cons];omega
   .omega
theorem dF{st s:St}(q:aH m ws)(h:Vs m st)(hs:s∈nx ws st):Vs m s/\s.ps.length=st.ps.length+1/\lst s.ps∉st.ps/\(∀p∈st.ps,p∈s.ps)/\s.w≠[]:=by
 obtain⟨j,v,y,f,rfl⟩:=rW hs;have o:=q.ok v y;have f:v.s=lst st.ps/\0<v.r/\v.t∉st.ps:=by unfold goes at f;simpa using f
 refine⟨⟨?_,λp hp=>?_,by show st.ps++[v.t]≠[];simp,?_⟩,by show(st.ps++[v.t]).length=_;simp,?_,λp hp=>mem_append.mpr (.inl hp),by show st.w++[(j:Int)]≠[];simp⟩;.show(st.ps++[v.t]).Nodup;rw[nodup_append];exact⟨h.nd,by simp,λa z b g e=>f.2.2 (by rw[mem_singleton]at g;rw[<-g,<-e];exact z)⟩
 . rcases mem_append.mp hp with hp|hp;.exact h.Rm p hp
   .rw[mem_singleton.mp hp];exact⟨o.t0,o.t1⟩
 .have:=h.len;show(st.w++[(j:Int)]).length+1=(st.ps++[v.t]).length;simp;omega
 .show lst (st.ps++[v.t])∉st.ps;rw[qG];exact f.2.2
theorem pO{q:Type}[DecidableEq q]:∀{f l2:List q},f.Nodup->(∀x∈f,x∈l2)->f.length<=l2.length|[],_,_,_=>uI|a::l,l2,g,h=>by rw[nodup_cons]at g;have h1:=pO (l2:=l2.erase a) g.2 λx r=>(List.mem_erase_of_ne (λ(e:x=a)=>g.1 (by rw[<-e];exact r))).mpr (h x (by simp[r]));have s:=List.length_erase_of_mem (h a (by simp));have y:=List.length_pos_of_mem (h a (by simp));rw[length_cons];omega
theorem Vs.six{st:St}(h:Vs m st)(m1:m<=6):st.ps.length<=6:=by
 have:=pO (l2:=(List.range 6).map λ(i:Nat)=>(i:Int)) h.nd λp f=>by have:=h.Rm p f;exact mem_map.mpr ⟨p.toNat,List.mem_range.mpr (by omega),by omega⟩
 simpa using this
def al(ws:List Wy):Nat->St->List St|0,st=>[st]|k+1,st=>st::(nx ws st).flatMap (al ws k)
def A(ws:List Wy)(st:St):List St:=al ws (6-st.ps.length) st
theorem kO{q r:Type}{f g:q->List r}:∀{l:List q},(∀x∈l,f x=g x)->l.flatMap f=l.flatMap g|[],_=>rfl|x::l,h=>by rw[List.flatMap_cons,List.flatMap_cons,h x (by simp),kO λy s=>h y (by simp[s])]
theorem BR{st:St}(f:aH m ws)(h:Vs m st)(g:st.ps.length=6):nx ws st=[]:=by cases e:nx ws st with|nil=>rfl|cons s l=>obtain⟨h1,q,_⟩:=dF f h (s:=s) (by rw[e];simp);have:=h1.six f.m1;omega
theorem GJ{st:St}(f:aH m ws)(h:Vs m st):A ws st=st::(nx ws st).flatMap (A ws):=by
 have q:=h.six f.m1;unfold A;by_cases c:st.ps.length=6;.rw[BR f h c,c];rfl
 .obtain⟨k,g⟩:∃k,6-st.ps.length=k+1:=⟨6-st.ps.length-1,by omega⟩;rw[g,al];congr 1;refine kO λs hs=>?_;have:=(dF f h hs).2.1;rw[show 6-s.ps.length=k by omega]
theorem yI{g q:Type}{f:g->List q}{b:Nat}:∀{l:List g},(∀x∈l,(f x).length<=b)->(l.flatMap f).length<=l.length*b|[],_=>by simp|x::l,h=>by have h1:=h x (by simp);have s:=yI (l:=l) λy r=>h y (by simp[r]);rw[List.flatMap_cons,length_append,length_cons,Nat.succ_mul];omega
def bnd:Nat->Nat|0=>1|k+1=>1+12*bnd k
theorem Bd{ws:List Wy}(g:ws.length<=12):∀{k:Nat}{st:St},(al ws k st).length<=bnd k|0,_=>cD|k+1,st=>by rw[al,length_cons,bnd];have h1:=yI (f:=al ws k) (b:=bnd k) (l:=nx ws st) λx _=>Bd g;have q:(nx ws st).length*bnd k<=12*bnd k:=Nat.mul_le_mul_right _ (le_trans rY g);omega
theorem O8:∀k,k<7->bnd k<=4000000:=by decide
theorem CN{st:St}(f:ws.length<=12):(A ws st).length<=4000000:=le_trans (Bd f) (O8 _ (by omega))
def ds(ws:List Wy)(st:St):List St:=(nx ws st).flatMap (A ws)
theorem yc{m:Int}{ws:List Wy}(f:aH m ws):∀{l:List St},(∀s∈l,Vs m s)->(l.flatMap (A ws)).Perm (l++l.flatMap (ds ws))|[],_=>.refl _|s::l,h=>by have g:=yc f (l:=l) λx q=>h x (by simp[q]);rw[List.flatMap_cons,List.flatMap_cons,GJ f (h s (by simp))];show(s::(ds ws s++l.flatMap (A ws))).Perm (s::(l++(ds ws s++l.flatMap (ds ws))));refine .cons _ ?_;refine(g.append_left (ds ws s)).trans ?_;rw[<-append_assoc,<-append_assoc];exact(List.perm_append_comm).append_right _
def en(ws:List Wy)(e:Int):Nat->St->List (List Int)|0,st=>if lst st.ps=e then[st.w]else[]|k+1,st=>if lst st.ps=e then[st.w]else(nx ws st).flatMap (en ws e k)
def E(ws:List Wy)(e:Int)(st:St):List (List Int):=en ws e (6-st.ps.length) st
theorem GQ{st:St}(h:lst st.ps=e):E ws e st=[st.w]:=by unfold E;cases 6-st.ps.length<;>rw[en,if_pos h]
theorem Bp{st:St}(f:aH m ws)(h:Vs m st)(g:lst st.ps≠e):E ws e st=(nx ws st).flatMap (E ws e):=by
 have r:=h.six f.m1;unfold E;by_cases c:st.ps.length=6;.rw[BR f h c,c];show(if _ then _ else _)=_;rw[if_neg g];rfl
 .obtain⟨k,q⟩:∃k,6-st.ps.length=k+1:=⟨6-st.ps.length-1,by omega⟩;rw[q,en,if_neg g];refine kO λs hs=>?_;have:=(dF f h hs).2.1;rw[show 6-s.ps.length=k by omega]
def Hs(e:Int)(st:St):Option (List Int):=if lst st.ps=e then some st.w else none
theorem qH{q r s:Type}{f:q->List r}{g:r->Option s}:∀{l:List q},(l.flatMap f).filterMap g=l.flatMap λx=>(f x).filterMap g|[]=>rfl|x::l=>by rw[List.flatMap_cons,List.flatMap_cons,List.filterMap_append,qH]
theorem De{m e:Int}{ws:List Wy}(f:aH m ws):∀(k:Nat){st:St},Vs m st->st.ps.length+k=6->e∈st.ps->(ds ws st).filterMap (Hs e)=[]
 |k,st,h,B,he=>by
   unfold ds;rw[qH];refine(kO (g:=λ_=>[]) λs hs=>?_).trans (by simp);obtain⟨h1,C,q,r,_⟩:=dF f h hs;rw[GJ f h1,filterMap_cons];have:Hs e s=none:=by unfold Hs;rw[if_neg];intro z;exact q (by rw[z];exact he)
   rw[this];have y:=h1.six f.m1;exact De f (k-1) h1 (by omega) (r e he)termination_by k=>k decreasing_by have y:=(dF f h hs).1.six f.m1;have:=(dF f h hs).2.1;omega
theorem TY{m e:Int}{ws:List Wy}(f:aH m ws):∀(k:Nat){st:St},Vs m st->st.ps.length+k=6->(A ws st).filterMap (Hs e)=E ws e st
 |k,st,h,g=>by
   rw[GJ f h,filterMap_cons];by_cases c:lst st.ps=e
   . have:Hs e st=some st.w:=by unfold Hs;rw[if_pos c]
     rw[this,GQ c,show((nx ws st).flatMap (A ws)).filterMap (Hs e)=[]from De f k h g (by rw[<-c];exact mV h.ne)]
   . have:Hs e st=none:=by unfold Hs;rw[if_neg c]
     rw[this,Bp f h c,qH];refine kO λs hs=>?_;have h1:=dF f h hs;have q:=h1.1.six f.m1;exact TY f (k-1) h1.1 (by omega)termination_by k=>k decreasing_by have q:=(dF f h hs).1.six f.m1;have:=(dF f h hs).2.1;omega
theorem Tw{m e:Int}{ws:List Wy}(f:aH m ws):∀(k:Nat){st:St},Vs m st->st.ps.length+k=6->st.w≠[]->∀w∈E ws e st,w≠[]
 |k,st,h,y,q,w,g=>by
   by_cases c:lst st.ps=e;.rw[GQ c]at g;rw[mem_singleton.mp g];exact q
   .rw[Bp f h c]at g;obtain⟨s,hs,g⟩:=mem_flatMap.mp g;have h1:=dF f h hs;have r:=h1.1.six f.m1;exact Tw f (k-1) h1.1 (by omega) h1.2.2.2.2 w g termination_by k=>k decreasing_by have r:=(dF f h hs).1.six f.m1;have:=(dF f h hs).2.1;omega
def NT(st:St):D:=.tup [.tup (st.w.map D.int),.lst (st.ps.map D.int),.int st.h]
def encF(st:St):D:=.tup [.tup (st.w.map D.int),.int (lst st.ps),.int st.h]
def encP(st:St):D:=.tup [.tup (st.w.map D.int),.tup (st.ps.map D.int)]
theorem yL{st:St}{b:List Wy}:∀{a:List Wy}{i:Nat},oM st i (a++b)=oM st i a++oM st (i+a.length) b|[],i=>rfl|v::a,i=>by rw[List.cons_append,oM,oM,yL,length_cons,show i+1+a.length=i+(a.length+1)by omega];split<;>rfl
theorem WN{st:St}{i:Nat}(e:ws[i]?=some v):oM st 0 (ws.take (i+1))=oM st 0 (ws.take i)++(if goes st v=true then[on st i v]else[]):=by obtain⟨f,rfl⟩:=gW e;rw[List.take_succ,e,yL];congr 1;rw[length_take,Nat.min_eq_left (by omega),zero_add];show(if goes st ws[i]=true then on st i ws[i]::oM st (i+1) []else oM st (i+1) [])=_;rfl
theorem wG(h:ps≠[]):at' (ps.map D.int) (-1)=some (.int (lst ps)):=by
 obtain⟨a,x,rfl⟩:∃a x,ps=a++[x]:=by
  rcases List.eq_nil_or_concat ps with z|⟨a,x,z⟩;.exact absurd z h
  .exact⟨a,x,by rw[z,List.concat_eq_append]⟩
 rw[map_append,qG];exact m8
theorem Wr{l:List St}:cm .ne (.lst (l.map NT)) (.lst [])=some (!l.isEmpty):=by
 show qO _ _=_;unfold qO;have h1:bV 8 (.lst (l.map NT))=true:=by
  show(l.map NT).all (bV 7)=true;rw[all_eq_true];intro d hd;obtain⟨p,_,rfl⟩:=mem_map.mp hd;show((p.w.map D.int).all (bV 5)&&((p.ps.map D.int).all (bV 5)&&(true&&true)))=true;have:∀S:List Int,(S.map D.int).all (bV 5)=true:=λS=>by rw[all_eq_true];intro d hd;obtain⟨p,_,rfl⟩:=mem_map.mp hd;rfl
  rw[this,this];rfl
 have f:bV 8 (.lst [])=true:=rfl;rw[h1,f];cases l with|nil=>rfl|cons v ws=>rfl
theorem O4{x:Nat}:ev c (.pop x) ρ=match ρ[x]?with|some (.own b ds)=>lift (ds.getLast?.map .val) (ρ.set x (.own b ds.dropLast))|_=>.stuck:=(rfl)
theorem WD{fd:List St}{st:St}{L:List St}(f:aH m ws)(hs:Vs m st)(g:(fd++(wt++[st]).flatMap (ds ws)).Perm L):((fd++nx ws st)++(wt++nx ws st).flatMap (ds ws)).Perm L:=by
 refine List.Perm.trans ?_ g;have h1:=yc f (l:=nx ws st) λs z=>(dF f hs z).1;rw[List.flatMap_append,List.flatMap_append,append_assoc];refine List.Perm.append_left fd ?_;have e:[st].flatMap (ds ws)=(nx ws st).flatMap (A ws):=by simp[ds]
 rw[e];refine List.Perm.trans ?_ (h1.symm.append_left _);rw[<-append_assoc,<-append_assoc];exact(List.perm_append_comm).append_right _
theorem Cj{st:St}(f:aH m ws)(hs:Vs m st):((wt++nx ws st).flatMap (A ws)).length+1=((wt++[st]).flatMap (A ws)).length:=by
 rw[List.flatMap_append,List.flatMap_append,length_append,length_append];have:[st].flatMap (A ws)=st::(nx ws st).flatMap (A ws):=by simp[GJ f hs]
 rw[this,length_cons];omega
def nW(f:List Nat):List Int:=f.map λ(k:Nat)=>(k:Int)
def jM(p:Int):Nat->List Wy->List Nat|_,[]=>[]|i,w::ws=>if w.s=p then i::jM p (i+1) ws else jM p (i+1) ws
def qx(p:Int):D->Option D|.tup [i,.tup (.int s::_)]=>if s==p then some i else none|_=>none
def HD(ws:List Wy):List D:=(ws.map Wy.d).mapIdx λi d=>D.tup [.int (i:Int),d]
theorem Bq{ds:List D}{d:D}(h:d∈ds.mapIdx λi d=>D.tup [.int (i:Int),d]):∃(i:Nat)(e:D),d=.tup [.int i,e]/\e∈ds:=by rw[List.mem_mapIdx]at h;obtain⟨i,f,rfl⟩:=h;exact⟨i,_,rfl,getElem_mem f⟩
theorem Du{d:D}(h:d∈HD ws):∃(i:Nat)(w:Wy),d=.tup [.int i,w.d]/\w∈ws:=by obtain⟨i,e,rfl,he⟩:=Bq h;obtain⟨w,f,rfl⟩:=mem_map.mp he;exact⟨i,w,rfl,f⟩
theorem sZ(f:D->Option D)(g:Nat->List Wy->List Nat)(h0:∀i,g i []=[])(h1:∀(i:Nat)(w:Wy)(ws:List Wy),(match f (.tup [.int (i:Int),w.d])with|some x=>x=.int (i:Int)/\g i (w::ws)=i::g (i+1) ws|none=>g i (w::ws)=g (i+1) ws)):∀(ws:List Wy)(i:Nat),(((ws.map Wy.d).mapIdx λj d=>D.tup [.int ((i+j:Nat):Int),d]).filterMap f)=(nW (g i ws)).map D.int
 |[],i=>by rw[h0];rfl|w::ws,i=>by
   rw[map_cons,List.mapIdx_cons,filterMap_cons];have q:=sZ f g h0 h1 ws (i+1);have e:(λ(j:Nat)(d:D)=>D.tup [.int ((i+(j+1):Nat):Int),d])=λj d=>D.tup [.int ((i+1+j:Nat):Int),d]:=by funext j d;rw[show i+(j+1)=i+1+j by omega]
   rw[e,q];have:=h1 i w ws;rw[Nat.add_zero];cases hf:f (.tup [.int (i:Int),w.d])with|none=>rw[hf]at this;simp only at this;rw[this]|some x=>rw[hf]at this;simp only at this;rw[this.2,this.1];rfl
theorem GR:(HD ws).filterMap (qx p)=(nW (jM p 0 ws)).map D.int:=by have:=sZ (qx p) (jM p) (λ_=>rfl) (λi w ws=>by by_cases h:w.s=p<;>simp[qx,Wy.d,jM,h]) ws 0;simpa[HD]using this
inductive XH(a b:Sl)(ρ:List Sl):Prop where|mk(s:Sl)(t:Sl)(q0:ρ=[a,b,s,t])(q1:fr s=true)(q2:fr t=true)
theorem CQ(h:aH m ws)(k:Q (.own ((nW (jM p 0 ws)).map D.int)) [.val false (aR m ws),.val false (.int p)]):(run Γ w (n+1) 0 [.val false (aR m ws),.val false (.int p)]).sat Q:=by
 refine aU (d:=f0) rfl rfl (by decide) ?_;symm;have g:=h.len;have h1:ws.length<=lim:=by show _<=16777216;omega
 simp[f0,h1];refine lK (XH _ _) (qx p) ⟨.bG,.bG,rfl,rfl,rfl⟩ ?_ ?_
 . rintro d hd _⟨s,t,rfl,hs,f⟩;obtain⟨i,w,rfl,q⟩:=Du hd;by_cases e:w.s=p;.simp[hs,f,Wy.d,qx,e];exact⟨_,_,rfl,rfl,rfl⟩
   .simp[hs,f,Wy.d,qx,e];exact⟨_,_,rfl,rfl,rfl⟩
 .rintro _⟨s,t,rfl,hs,f⟩;rw[show((List.map Wy.d ws).mapIdx λi d=>D.tup [.int (i:Int),d])=HD ws from rfl,GR];generalize(nW (jM p 0 ws)).map D.int=L at*;simp;exact k
theorem tW{p:Int}:∀(ws:List Wy)(i:Nat),(jM p i ws).length<=ws.length|[],_=>cD|w::ws,i=>by have:=tW (p:=p) ws (i+1);rw[jM];split<;>simp<;>omega
def P0(ws:List Wy)(st:St):List Nat->List St|[]=>[]|j::f=>(match ws[j]?with|some v=>if(decide (0<v.r)&&!st.ps.contains v.t)=true then[on st j v]else[]|none=>[])++P0 ws st f
theorem wj{ws:List Wy}{st:St}:∀{b:List Wy}{i:Nat},ws.drop i=b->P0 ws st (jM (lst st.ps) i b)=oM st i b
 |[],i,_=>rfl|v::b,i,h=>by
   have e:ws[i]?=some v:=by have:=List.getElem?_drop (xs:=ws) (i:=i) (j:=0);rw[h]at this;simpa using this.symm
   have g:ws.drop (i+1)=b:=by rw[<-List.drop_drop,h];rfl
   rw[jM,oM];by_cases c:v.s=lst st.ps
   . have f:goes st v=(decide (0<v.r)&&!st.ps.contains v.t):=by unfold goes;rw[decide_eq_true c];rfl
     rw[if_pos c,P0,e,wj g,f];dsimp only;split<;>rfl
   . have f:goes st v=false:=by unfold goes;rw[decide_eq_false c];rfl
     rw[if_neg c,wj g,f];rfl
theorem qJ{ws:List Wy}{p:Int}:∀{b:List Wy}{i:Nat},i+b.length=ws.length->∀j∈jM p i b,j<ws.length
 |[],i,_,j,h=>by cases h|v::b,i,f,j,h=>by
   rw[length_cons]at f;rw[jM]at h;split at h
   . rcases mem_cons.mp h with rfl|h;.omega
     .exact qJ (by omega) j h
   .exact qJ (by omega) j h
inductive JSo(ws:List Wy)(st:St)(a0 a1 a2:Sl)(r:List D)(ρ:List Sl):Prop where|mk(X:List St)(us:List Nat)(s4 s5:Sl)(q0:ρ=[a0,a1,a2,.own false (X.map encP),s4,s5])(q1:(fr s4=true/\fr s5=true))(q2:r=(nW us).map D.int)(q3:(∀j∈us,j<ws.length))(q4:X++P0 ws st us=nx ws st)(q5:X.length+us.length<=12)
theorem zB{st:St}(y:aH m ws)(hs:Vs m st)(k:Q (.own ((nx ws st).map encP)) [.val false (aR m ws),.val false (.tup (st.w.map D.int)),.val false (.tup (st.ps.map D.int))]):(run Γ w (n+2) 10 [.val false (aR m ws),.val false (.tup (st.w.map D.int)),.val false (.tup (st.ps.map D.int))]).sat Q:=by
 have U:=y.len;have H:=hs.six y.m1;have I:=hs.len;have J:=wG hs.ne;refine aU (d:=VJ) rfl rfl (by decide) ?_;symm;simp[VJ];apply ao;simp[J];refine CQ y ?_;simp;have z:=wj (ws:=ws) (st:=st) (b:=ws) (i:=0) rfl;have B:=qJ (ws:=ws) (p:=lst st.ps) (b:=ws) (i:=0) (by omega);have L:=tW (p:=lst st.ps) ws 0;generalize jM (lst st.ps) 0 ws=C at*;refine cO (JSo ws st _ _ _) ?_ ?_ ⟨[],C,.bG,.bG,rfl,⟨rfl,rfl⟩,rfl,B,z,by simp;omega⟩;.rintro d r _⟨X,g,s4,s5,rfl,⟨M,N⟩,hr,q,f,G⟩;cases g with|nil=>cases hr|cons j g=>
     obtain⟨rfl,rfl⟩:d=.int (j:Int)/\r=(nW g).map D.int:=by simpa[nW]using hr
     have O:=q j (by simp);have e:ws[j]?=some ws[j]:=by simp[O]
     generalize ws[j]=v at e;rw[P0,e]at f;dsimp only at f;rw[length_cons]at G;have s:=zy (S:=st.ps) (i:=v.t);simp[M];apply ao;simp[rJ e,N];apply ao;by_cases c2:0<v.r;.cases c3:st.ps.contains v.t with|true=>rw[c3]at s f;simp[eY,cZ,c2,s];simp at f;exact⟨X,g,.val false (.int j),.val false v.d,rfl,⟨rfl,rfl⟩,rfl,λj h=>q j (by simp[h]),f,by omega⟩|false=>
         rw[c3]at s f;simp[eY,cZ,c2,s];apply ao;simp[eY,show X.length<16777216 by omega];refine⟨by show _<=16777216;omega,by show _<=16777216;omega,X++[on st j v],g,.val false (.int j),.val false v.d,?_,⟨rfl,rfl⟩,rfl,λj h=>q j (by simp[h]),?_,by simp;omega⟩;.simp[encP,on]
         .rw[append_assoc];simpa[c2]using f
     .simp[eY,cZ,c2];simp[c2]at f;exact⟨X,g,.val false (.int j),.val false v.d,rfl,⟨rfl,rfl⟩,rfl,λj h=>q j (by simp[h]),f,by omega⟩
 . rintro _⟨X,g,s4,s5,rfl,_,hr,q,f,G⟩;have:g=[]:=by cases g with|nil=>rfl|cons _ _=>cases hr
   subst this;rw[P0,append_nil]at f;symm;simp;rw[f];exact k
def tupI(w:List Int):D:=.tup (w.map D.int)
abbrev st1:S:=.asg 3 (.pop 2)
abbrev st2:S:=.ifs (.cmp .eq (.idx (.idx (.var 3) (.con (.int 1))) (.neg (.con (.int 1)))) (.bin .sub (.idx (.var 0) (.con (.int 0))) (.con (.int 1)))) [.app 1 (.idx (.var 3) (.con (.int 0)))] [.xF 2 (.call 10 [.var 0,.idx (.var 3) (.con (.int 0)),.idx (.var 3) (.con (.int 1))])]
abbrev st3:S:=.ifs (.cmp .gt (.blt .len [.var 1]) (.glob "MOST_WALKS" (.int 60))) [.lq 1] []
abbrev WS(m:Int)(ws:List Wy)(fd:List (List Int))(wt:List St)(s3:Sl):List Sl:=[.val false (aR m ws),.own false (fd.map tupI),.own false (wt.map encP),s3]
structure Iv(m:Int)(ws:List Wy)(L:List (List Int))(fd:List (List Int))(wt:List St)(M:Nat):Prop where
 vs:∀s∈wt,Vs m s
 pm:(fd++wt.flatMap (E ws (m-1))).Perm L
 ln:(wt.flatMap (A ws)).length=M
 le:M<=4000000
theorem JT{x:St}:0<(A ws x).length:=by unfold A;cases 6-x.ps.length<;>simp[al]
theorem Iv.wl{L fd:List (List Int)}{M:Nat}(h:Iv m ws L fd wt M):wt.length<=M:=by
 have:∀l:List St,l.length<=(l.flatMap (A ws)).length:=λl=>by induction l with|nil=>simp|cons x l f=>rw[List.flatMap_cons,length_append,length_cons];have:=JT (ws:=ws) (x:=x);omega
 have:=this wt;have:=h.ln;omega
inductive NXt(m:Int)(ws:List Wy)(L:List (List Int))(M:Nat)(ρ:List Sl):Prop where|mk(fd':List (List Int))(J6:List St)(Eu:Sl)(M':Nat)(q0:ρ=WS m ws fd' J6 Eu)(q1:fr Eu=true)(q2:Iv m ws L fd' J6 M')(q3:M'<M)(q4:fd'.length<=61)
theorem By{M:Nat}{L fd:List (List Int)}{st:St}{s3:Sl}(f:aH m ws)(h:Iv m ws L fd (wt++[st]) M)(O:fd.length<=60)(C:fr s3=true):(bO (run Γ w (n+2)) w [st1,st2] (WS m ws fd (wt++[st]) s3)).sat λG ρ=>G=.next/\NXt m ws L M ρ:=by
 have hs:=h.vs st (by simp);have H:=hs.six f.m1;have y:=wG hs.ne;have q:=h.wl;have I:=h.le;have g:=h.ln;rw[length_append]at q;rw[List.flatMap_append,length_append]at g;have B:=JT (ws:=ws) (x:=st);have J:[st].flatMap (A ws)=A ws st:=by simp
 rw[J]at g;symm;simp[O4,encP,C];apply ao;by_cases c:lst st.ps=m-1;.simp[y,c];symm;simp[show fd.length<16777216 by omega];refine⟨fd++[st.w],wt,.val false (.tup [.tup (st.w.map D.int),.tup (st.ps.map D.int)]),(wt.flatMap (A ws)).length,by simp[tupI],rfl,⟨λs z=>h.vs s (by simp[z]),?_,rfl,by omega⟩,by omega,by simp;omega⟩;have:=h.pm;rw[List.flatMap_append,show[st].flatMap (E ws (m-1))=[st.w]by simp[GQ c]]at this;refine List.Perm.trans ?_ this;rw[append_assoc];exact List.perm_append_comm.append_left fd
 . have N:(nx ws st).length<=12:=le_trans rY f.len;have r:=Cj (wt:=wt) f hs;rw[h.ln]at r;simp[y,c];apply ao;simp;refine zB f hs ?_;simp[show wt.length+(nx ws st).length<=16777216 by omega];refine⟨fd,wt++nx ws st,.val false (.tup [.tup (st.w.map D.int),.tup (st.ps.map D.int)]),((wt++nx ws st).flatMap (A ws)).length,by simp,rfl,⟨λs z=>?_,?_,rfl,by omega⟩,by omega,by omega⟩
   . rcases mem_append.mp z with z|z;.exact h.vs s (by simp[z])
     .exact(dF f hs z).1
   .have:=h.pm;rw[List.flatMap_append,show[st].flatMap (E ws (m-1))=(nx ws st).flatMap (E ws (m-1))by simp[Bp f hs c]]at this;rw[List.flatMap_append];exact this
theorem Bg{q:List Sl->Res Bool}{body:List Sl->Res Fl}{s:List Sl->Option (Nat×List Sl)}(J:Nat->List Sl->Prop)(h:∀M ρ,J M ρ->∃f,q ρ=.ok true f/\((body f=.stuck/\∃g,s f=some (1,g))\/(s f=none/\∃g r,body f=.ok .next g/\r<M/\J r g))):∀(k M:Nat)(ρ:List Sl),M<k->J M ρ->lC q body k ρ=.stuck/\∃g,pA q body s k ρ=some (1,g)
 |0,M,ρ,C,_=>by omega|k+1,M,ρ,C,G=>by
   obtain⟨f,t1,y⟩:=h M ρ G;rcases y with⟨b1,g,b2⟩|⟨b1,g,r,b2,L,z⟩
   . refine⟨?_,g,?_⟩;.rw[lC,t1];show(if true=true then(body f).bind _ else Res.ok Fl.next f)=_;rw[if_pos rfl,b1];rfl
     .rw[pA,t1];dsimp only;rw[b2]
   . obtain⟨H,B,I⟩:=Bg J h k r g (by omega) z;refine⟨?_,B,?_⟩;.rw[lC,t1];show(if true=true then(body f).bind _ else Res.ok Fl.next f)=_;rw[if_pos rfl,b2];exact H
     .rw[pA,t1];dsimp only;rw[b1];dsimp only;rw[b2];exact I
theorem ur{q r:Type}{o:Res q}{f:q->List Sl->Res r}{b:r}(h:o.bind f=.ok b ρ):∃a g,o=.ok a g/\f a g=.ok b ρ:=by cases o with|ok a g=>exact⟨a,g,rfl,h⟩|exc _ _=>cases h|stuck=>cases h
theorem JD{s1 s2:S}{r:List S}{f:List Sl}(h:bO c n [s1,s2] ρ=.ok .next f)(z:∀ρ,lz c n s1 ρ=none)(B:∀ρ,lz c n s2 ρ=none):bO c n (s1::s2::r) ρ=bO c n r f/\bI c n (s1::s2::r) ρ=bI c n r f:=by rw[bO]at h;obtain⟨g,q,s,h⟩:=ur h;cases g with
 |next=>
   dsimp only at h;rw[bO]at h;obtain⟨g,C,y,h⟩:=ur h;cases g with|next=>
     dsimp only at h;rw[bO]at h;cases h;refine⟨?_,?_⟩;.rw[bO,s];show bO c n (s2::r) q=_;rw[bO,y];rfl
     .rw[bI,z];dsimp only;rw[s];dsimp only;rw[bI,B];dsimp only;rw[y]|_=>cases h
 |_=>cases h
theorem x_1:lz c n st1 ρ=none:=by rw[lz];rfl
theorem x_2:lz c n st2 ρ=none:=by
 have f:∀ρ,bI c n [.app 1 (.idx (.var 3) (.con (.int 0)))] ρ=none:=λρ=>by
  rw[bI];have:lz c n (.app 1 (.idx (.var 3) (.con (.int 0)))) ρ=none:=by rw[lz]<;>simp
  rw[this];dsimp only;split;.rw[bI]
  .rfl
 have g:∀ρ,bI c n [.xF 2 (.call 10 [.var 0,.idx (.var 3) (.con (.int 0)),.idx (.var 3) (.con (.int 1))])] ρ=none:=λρ=>by
  rw[bI];have:lz c n (.xF 2 (.call 10 [.var 0,.idx (.var 3) (.con (.int 0)),.idx (.var 3) (.con (.int 1))])) ρ=none:=by rw[lz]<;>simp
  rw[this];dsimp only;split;.rw[bI]
  .rfl
 rw[lz];split
 . split;.exact f _
   .exact g _
 .rfl
inductive Wv(m:Int)(ws:List Wy)(L:List (List Int))(M:Nat)(ρ:List Sl):Prop where|mk(fd:List (List Int))(wt:List St)(s3:Sl)(q0:ρ=WS m ws fd wt s3)(q1:fr s3=true)(q2:Iv m ws L fd wt M)(q3:fd.length<=60)
theorem Zy(f:aH m ws):Vs m ⟨[],[0],0⟩:=⟨by simp,λp g=>by rw[mem_singleton.mp g];have:=f.m0;omega,by simp,rfl⟩
theorem Iv.zero(f:aH m ws):Iv m ws (E ws (m-1) ⟨[],[0],0⟩) [] [⟨[],[0],0⟩] (A ws ⟨[],[0],0⟩).length:=⟨λs z=>by rw[mem_singleton.mp z];exact Zy f,by simp,by simp,CN f.len⟩
theorem Cd{L:List (List Int)}(r:L.length<=16777216)(h:∀w∈L,w≠[]):sortable (L.map tupI)=true:=by
 have:(L.map tupI).all nQ=true:=by rw[all_eq_true];intro x g;obtain⟨p,q,rfl⟩:=mem_map.mp g;have f:=h p q;cases p with|nil=>exact absurd rfl f|cons a p=>show((a::p).map D.int).all dR=true;rw[all_eq_true];intro d hd;obtain⟨i,_,rfl⟩:=mem_map.mp hd;rfl
 simp only[sortable,length_map,this,Bool.or_true,Bool.and_true,decide_eq_true_eq];omega
theorem Dg{a b:List (List Int)}(p:a.Perm b)(f:sortable (b.map tupI)=true):qz (a.map tupI)=qz (b.map tupI):=nG f ((iu _).trans (p.map tupI)) (oG _)
@[simp]theorem N6{ds:List D}:blt .sorted [.lst ds]=if sortable ds=true then some (.own (qz ds))else none:=rfl
theorem JF(f:aH m ws):∀w∈E ws (m-1) ⟨[],[0],0⟩,w≠[]:=λw g=>by
 have m0:=f.m0;have h0:lst [0]≠m-1:=by show(0:Int)≠m-1;omega
 rw[Bp f (Zy f) h0]at g;obtain⟨s,hs,g⟩:=mem_flatMap.mp g;have h1:=dF f (Zy f) hs;have q:=h1.1.six f.m1;exact Tw f (6-s.ps.length) h1.1 (by omega) h1.2.2.2.2 w g
theorem S6(hw:5000000<=w)(g:aH m ws)(hL:(E ws (m-1) ⟨[],[0],0⟩).length<=60)(k:Q (.own (qz ((E ws (m-1) ⟨[],[0],0⟩).map tupI))) [.val false (aR m ws)]):(run Γ w (n+3) 11 [.val false (aR m ws)]).sat Q:=by
 have hA:=CN (ws:=ws) (st:=⟨[],[0],0⟩) g.len;refine aU (d:=f11) rfl rfl (by decide) ?_;symm;simp[f11];apply ao;simp;apply ao;simp;refine iH (Wv m ws (E ws (m-1) ⟨[],[0],0⟩)) ?_ (k:=w) (m:=(A ws ⟨[],[0],0⟩).length) (by omega) ⟨[],[⟨[],[0],0⟩],.bG,rfl,rfl,.zero g,by simp⟩;rintro M _⟨fd,wt,s3,rfl,J,H,N⟩;rcases List.eq_nil_or_concat wt with rfl|⟨wt,st,rfl⟩
 . have I:fd.Perm (E ws (m-1) ⟨[],[0],0⟩):=by simpa using H.pm
   have s:=Cd (L:=E ws (m-1) ⟨[],[0],0⟩) (by omega) (JF g);have y:=Cd (L:=fd) (by omega) λw z=>JF g w (I.mem_iff.mp z);rw[<-Dg I s]at k;simp;apply ao;simp[y];exact k
 . rw[List.concat_eq_append]at*;obtain⟨fl,O,e,rfl,f,U,W,X,rfl,B,q,C,Y⟩:=sat_iff.mp (By (w:=w) (n:=n) g H N J);have G:f.length<=60:=by have:=q.pm.length_eq;rw[length_append]at this;omega
   have Z:=(JD (r:=[st3]) e (λ_=>x_1) (λ_=>x_2)).1;have hl:0<(wt++[st]).length:=by simp
   generalize wt++[st]=ae at*;simp[hl];show Res.sat _ (bO _ _ (st1::st2::[st3]) _);rw[Z];symm;simp[show ¬(60:Int)<(f.length:Int)by omega];exact⟨X,C,f,U,W,rfl,B,q,G⟩
theorem S7(hw:5000000<=w)(z:aH m ws)(hL:60<(E ws (m-1) ⟨[],[0],0⟩).length):∃args,run Γ w (n+3) 11 [.val false (aR m ws)]=.exc 1 args:=by
 have hA:=CN (ws:=ws) (st:=⟨[],[0],0⟩) z.len;have C:∀M ρ,Wv m ws (E ws (m-1) ⟨[],[0],0⟩) M ρ->∃g,dY (ev (run Γ w (n+2)) (.cmp .gt (.blt .len [.var 2]) (.con (.int 0)))) ρ=.ok true g/\((bO (run Γ w (n+2)) w [st1,st2,st3] g=.stuck/\∃f,bI (run Γ w (n+2)) w [st1,st2,st3] g=some (1,f))\/(bI (run Γ w (n+2)) w [st1,st2,st3] g=none/\∃f y,bO (run Γ w (n+2)) w [st1,st2,st3] g=.ok .next f/\y<M/\Wv m ws (E ws (m-1) ⟨[],[0],0⟩) y f)):=by
  rintro M _⟨fd,wt,s3,rfl,W,U,X⟩;have s:0<wt.length:=by cases wt with|nil=>have:=U.pm.length_eq;simp at this;omega|cons _ _=>simp
  refine⟨WS m ws fd wt s3,by simp[dY,s],?_⟩;rcases List.eq_nil_or_concat wt with rfl|⟨wt,st,rfl⟩;.simp at s
  . rw[List.concat_eq_append]at*;obtain⟨fl,f,e,rfl,q,G,H,y,rfl,I,J,L,Y⟩:=sat_iff.mp (By (w:=w) (n:=n) z U X W);obtain⟨Z,e3⟩:=JD (r:=[st3]) e (λ_=>x_1) (λ_=>x_2);rw[Z,e3];by_cases c:60<(q.length:Int)
    . left;refine⟨?_,WS m ws q G H,?_⟩;.simp[bO,c]
      .simp[bI,lz,dY,c]
    . right;refine⟨?_,WS m ws q G H,y,?_,L,q,G,H,rfl,I,J,by omega⟩;.simp[bI,lz,dY,c,bO]
      .simp[bO,c]
 obtain⟨N,f,O⟩:=Bg (Wv m ws (E ws (m-1) ⟨[],[0],0⟩)) C w (A ws ⟨[],[0],0⟩).length (WS m ws [] [⟨[],[0],0⟩] .bG) (by omega) ⟨[],[⟨[],[0],0⟩],.bG,rfl,rfl,.zero z,by simp⟩;have ew:WS m ws [] [⟨[],[0],0⟩] .bG=[.val false (aR m ws),.own false [],.own false [.tup [.tup [],.tup [.int 0]]],.bG]:=rfl;rw[ew]at N O;rw[iR (d:=⟨1,4,[.asg 1 (.lst []),.asg 2 (.lst [.tup [.tup [],.tup [.con (.int 0)]]]),.whl (.cmp .gt (.blt .len [.var 2]) (.con (.int 0))) [st1,st2,st3],.ret (.blt .sorted [.var 1])]⟩) rfl];generalize([st1,st2,st3]:List S)=B at N O ⊢;have z3:zM (run Γ w (n+2)) w (.cmp .gt (.blt .len [.var 2]) (.con (.int 0))) B w [.val false (aR m ws),.own false [],.own false [.tup [.tup [],.tup [.int 0]]],.bG]=.stuck:=N;unfold enter;simp[bO,bI,lz,dz,fH,z3,O]
def mv(m x:Int):Int:=if x=m-1 then m else x
def wB(m:Int)(w:Wy):Wy:=⟨mv m w.s,mv m w.t,w.r,w.h⟩
def dD(m:Int)(ws:List Wy)(k:Int)(u:Wy)(t:Int):List Wy:=(ws.map (wB m)).set k.toNat ⟨mv m u.s,m-1,u.r,t⟩++[⟨m-1,mv m u.t,u.r,u.h-t⟩]
theorem pY(q:Q (.val (.int (mv m p))) [.val false (.int (m-1)),.val false (.int p)]):(run Γ w (n+1) 3 [.val false (.int (m-1)),.val false (.int p)]).sat Q:=by
 refine aU (d:=f3) rfl rfl (by decide) ?_;symm;unfold mv at q;by_cases h:p=m-1;.rw[if_pos h]at q;simpa[f3,h]using(by simpa[h]using q)
 .rw[if_neg h]at q;simpa[f3,h]using q
inductive F7(a b c d e f g:Sl)(ρ:List Sl):Prop where|mk(s:Sl)(q0:ρ=[a,b,c,d,e,f,g,s])(q1:fr s=true)
def YD(m:Int):D->D|.tup [.int s,.int t,.int r,.int h]=>(wB m ⟨s,t,r,h⟩).d|d=>d
theorem Ja{w:Wy}:YD m w.d=(wB m w).d:=rfl
theorem MF(h0:0<=k)(h1:k<(n:Int)):jr n k=some k.toNat:=by unfold jr;simp[h0,h1]
theorem Rz(g:at' (ws.map Wy.d) k=some u.d)(h0:0<=k)(h1:k<(ws.length:Int))(f:ws[k.toNat]?=some u):at' ((ws.map (wB m)).map Wy.d) k=some (wB m u).d:=by rw[eF h0 (by simpa using h1)];simp[f]
theorem yZ(I:ws.length<=12)(h0:0<=k)(h1:k<(ws.length:Int))(z:ws[k.toNat]?=some u)(g:at' (ws.map Wy.d) k=some u.d)(t0:1<=t)(t1:t<u.h)(q:Q (.val (aR (m+1) (dD m ws k u t))) [.val false (aR m ws),.val false (.int k),.val false (.int t)]):(run Γ w (n+2) 4 [.val false (aR m ws),.val false (.int k),.val false (.int t)]).sat Q:=by
 refine aU (d:=f4) rfl rfl (by decide) ?_;symm;simp[f4,CV h0 h1 g,nu];apply ao;simp[t0,t1];apply ao;simp;apply ao;have f:ws.length<=lim:=by show _<=16777216;omega
 have B:ws.length<lim:=by show _<16777216;omega
 simp[f];refine je (F7 _ _ _ _ _ _ _) (YD m) ⟨.bG,rfl,rfl⟩ ?_ ?_;.rintro d hd _⟨s,rfl,hs⟩;obtain⟨v,_,rfl⟩:=mem_map.mp hd;simp[hs,eO,eY,cZ,nu];refine pY ?_;simp[eO,eY,cZ,nu];refine pY ?_;simp[eO,eY,cZ,nu,Ja];exact⟨rfl,_,rfl,rfl⟩
 rintro _⟨s,rfl,hs⟩;have C:(ws.map Wy.d).map (YD m)=(ws.map (wB m)).map Wy.d:=by simp[Ja]
 have y:=Rz (m:=m) g h0 h1 z;rw[C];have G:=MF (n:=ws.length) h0 h1;simp;apply ao;rw[map_map]at y;simp[y];apply ao;simp[eO,cZ,G];apply ao;simp[eY,cZ,nu,B];apply ao;simp;have H:aR (m+1) (dD m ws k u t)=.tup [.int (m+1),.tup ((ws.map (Wy.d ∘ wB m)).set k.toNat (.tup [.int (wB m u).s,.int (m-1),.int (wB m u).r,.int t])++[.tup [.int (m-1),.int (wB m u).t,.int (wB m u).r,.int ((wB m u).h-t)]])]:=by simp[aR,dD,Wy.d,wB,map_set]
 rw[H]at q;exact q
theorem vQ{st s:St}:∀{ws:List Wy}{i:Nat},s∈oM st i ws↔∃(j:Nat)(v:Wy),ws[j]?=some v/\goes st v=true/\s=on st (i+j) v
 |[],i=>by simp[oM]|v::ws,i=>by
   have q:=vQ (st:=st) (s:=s) (ws:=ws) (i:=i+1);rw[oM];constructor
   . intro h;have hh:(goes st v=true/\s=on st i v)\/s∈oM st (i+1) ws:=by
      split at h
      . rename_i c;rcases mem_cons.mp h with h|h;.exact .inl ⟨c,h⟩
        .exact .inr h
      .exact .inr h
     rcases hh with⟨c,rfl⟩|h;.exact⟨0,v,rfl,c,rfl⟩
     .obtain⟨j,u,h1,f,g⟩:=q.mp h;exact⟨j+1,u,by simpa using h1,f,by rw[g,add_assoc,Nat.add_comm 1 j]⟩
   .rintro⟨j,u,h1,f,g⟩;cases j with|zero=>
       have:v=u:=by simpa using h1
       subst this;rw[if_pos f,g];exact mem_cons_self|succ j=>
       have r:s∈oM st (i+1) ws:=q.mpr ⟨j,u,by simpa using h1,f,by rw[g,add_assoc,Nat.add_comm 1 j]⟩;split;.exact mem_cons_of_mem _ r
       .exact r
theorem oE(h:ps≠[]):ps.getLast?=some (lst ps):=by unfold lst;rw[List.getLast?_eq_some_getLast h];rfl
theorem mO{ws:List Wy}:∀{r ps qs:List Int},ps≠[]->eV ws r ps=some qs->∃f,qs=ps++f/\f.length=r.length|[],ps,qs,_,h=>by rw[eV]at h;cases h;exact⟨[],by simp,rfl⟩|k::r,ps,qs,g,h=>by rw[eV]at h;cases e:bF ws ps k with|none=>rw[e]at h;cases h|some s=>rw[e]at h;obtain⟨v,y,rfl,_⟩:=jP g e;obtain⟨f,h1,q⟩:=mO (by simp) h;exact⟨v.t::f,by rw[h1,append_assoc];rfl,by simp[q]⟩
theorem v9{g:List Int}(h:bF ws ps k=some g)(q:ws[k.toNat]?=some v):0<v.r:=by
 have f:=fu h;unfold bF at h;rw[if_pos ⟨f.1,f.2.1⟩,q]at h;by_cases c:v.r<1;.simp[c]at h
 .omega
theorem RW{m e:Int}{ws:List Wy}(B:aH m ws):∀{r:List Int}{st:St}{qs:List Int},Vs m st->eV ws r st.ps=some qs->lst qs=e->st.w++r∈E ws e st
 |[],st,qs,g,h,he=>by rw[eV]at h;cases h;rw[GQ he];simp|k::r,st,qs,g,h,he=>by
   have C:lst st.ps≠e:=λz=>by
    obtain⟨nd,_,_⟩:=rm B g.ne g.nd g.Rm h;obtain⟨f,rfl,q⟩:=mO g.ne h;have hs:f≠[]:=by rintro rfl;simp at q
    have h1:lst (st.ps++f)∈f:=by
     have:lst (st.ps++f)=lst f:=by unfold lst;rw[List.getLast?_append,oE hs];rfl
     rw[this];exact mV hs
    rw[nodup_append]at nd;exact nd.2.2 _ (mV g.ne) _ h1 (by rw[z,he])
   rw[eV]at h;cases e1:bF ws st.ps k with|none=>rw[e1]at h;cases h|some M=>
     rw[e1]at h;have I:=fu e1;obtain⟨v,y,rfl,J,q,N⟩:=jP g.ne e1;have hr:=v9 e1 y;rw[oE g.ne]at q;have q:lst st.ps=v.s:=Option.some.inj q;have H:on st k.toNat v∈nx ws st:=vQ.mpr ⟨k.toNat,v,y,by unfold goes;simp[q,hr,J],by simp⟩;have G:=(dF B g H).1;rw[Bp B g C,mem_flatMap];refine⟨_,H,?_⟩;have:=RW B (r:=r) (st:=on st k.toNat v) G h he;have L:(on st k.toNat v).w++r=st.w++k::r:=by show(st.w++[((k.toNat:Nat):Int)])++r=_;rw[Int.toNat_of_nonneg I.1,append_assoc];rfl
     rwa[L]at this
theorem Jc{m e:Int}{ws:List Wy}(g:aH m ws):∀{k:Nat}{st:St}{l:List Int},Vs m st->l∈en ws e k st->∃r qs,l=st.w++r/\eV ws r st.ps=some qs/\lst qs=e
 |0,st,l,f,h=>by
   rw[en]at h;split at h;.rename_i c;rw[mem_singleton]at h;exact⟨[],st.ps,by simp[h],rfl,c⟩
   .cases h|k+1,st,l,f,h=>by
   rw[en]at h;split at h;.rename_i c;rw[mem_singleton]at h;exact⟨[],st.ps,by simp[h],rfl,c⟩
   . rw[mem_flatMap]at h;obtain⟨s,hs,h⟩:=h;have q:=(dF g f hs).1;obtain⟨j,v,h1,B,rfl⟩:=vQ.mp hs;obtain⟨r,qs,C,G,H⟩:=Jc g q h;have y:v.s=lst st.ps/\0<v.r/\v.t∉st.ps:=by unfold goes at B;simpa using B
     have I:=(gW h1).1;rw[zero_add]at*;have z:bF ws st.ps (j:Int)=some (st.ps++[v.t]):=yR g f.ne (by omega) (by omega) (by simpa using h1) y.2.1 (by rw[oE f.ne,y.1]) y.2.2;refine⟨(j:Int)::r,qs,?_,?_,H⟩;.rw[C];show(st.w++[(j:Int)])++r=_;rw[append_assoc];rfl
     .rw[eV,z];exact G
theorem vs0(h:2<=m):Vs m ⟨[],[0],0⟩:=⟨by simp,λp f=>by rw[mem_singleton.mp f];omega,by simp,rfl⟩
theorem yK(f:aH m ws):l∈E ws e ⟨[],[0],0⟩↔∃qs,eV ws l [0]=some qs/\lst qs=e:=by
 constructor;.intro h;obtain⟨r,qs,rfl,g,q⟩:=Jc f (vs0 f.m0) h;exact⟨qs,by simpa using g,q⟩
 .rintro⟨qs,g,q⟩;have:=RW f (st:=⟨[],[0],0⟩) (vs0 f.m0) g q;simpa using this
theorem v7{ws:List Wy}:∀{l ps qs:List Int},ps≠[]->eV ws l ps=some qs->Wk ws (lst ps) (lst qs) (tot ws l)|[],ps,qs,_,h=>by rw[eV]at h;cases h;exact .nil|k::l,ps,qs,g,h=>by rw[eV]at h;cases e:bF ws ps k with|none=>rw[e]at h;cases h|some B=>
     rw[e]at h;obtain⟨v,q,rfl,C,f,y⟩:=jP g e;have hr:=v9 e q;rw[oE g]at f;have f:lst ps=v.s:=Option.some.inj f;have r:=v7 (l:=l) (by simp) h;rw[qG]at r;have:=(Wk.one y hr).trans r;rw[f];have z:tot ws (k::l)=v.h+tot ws l:=by
      show(hh ws k::l.map (hh ws)).sum=_;have:hh ws k=v.h:=by unfold hh;rw[q]
      rw[sum_cons,this];rfl
     rw[z];exact this
theorem Bc{g:Int}(q:aH m ws)(b0:0<=b)(b1:b<m)(h:cg ws 0 b (some g)):∃l qs,eV ws l [0]=some qs/\lst qs=b/\tot ws l=g:=by obtain⟨_,_,_,l,qs,h1,f,r⟩:=sat_iff.mp (o8 (w:=50000000) (n:=0) (Q:=λ_ _=>∃l qs,eV ws l [0]=some qs/\lst qs=b/\tot ws l=g) (cD) q b0 b1 h λl ps h1 f _ s=>⟨l,ps,h1,by unfold lst;rw[f];rfl,s⟩);exact⟨l,qs,h1,f,r⟩
theorem Rv{f:List (List Int)}(q:aH m ws)(h:cg ws 0 (m-1) o)(y:∀l,l∈f↔l∈E ws (m-1) ⟨[],[0],0⟩):(f.map (tot ws)).min?=o:=by
 have m0:=q.m0;have wk:∀l∈f,Wk ws 0 (m-1) (tot ws l):=λl z=>by obtain⟨qs,h1,r⟩:=(yK q).mp ((y l).mp z);have:=v7 (by simp) h1;rw[r]at this;exact this
 cases o with|none=>
   have:f=[]:=by cases f with|nil=>rfl|cons l _=>exact absurd (wk l (by simp)) (h _)
   rw[this];rfl|some g=>obtain⟨l,qs,h1,r,B⟩:=Bc q (by omega) (by omega) h;rw[List.min?_eq_some_iff];refine⟨mem_map.mpr ⟨l,(y l).mpr ((yK q).mpr ⟨qs,h1,r⟩),B⟩,λb C=>?_⟩;obtain⟨G,s,rfl⟩:=mem_map.mp C;exact h.2 _ (wk G s)
theorem sY(h:x<m):mv m x≠m-1:=by unfold mv;split<;>omega
theorem rO{y:Int}(f:x<m)(g:y<m)(h:mv m x=mv m y):x=y:=by unfold mv at h;split at h<;>split at h<;>omega
theorem part_mem{x:Wy}(e:ws[j]?=some u)(h:x∈dD m ws (j:Int) u t):x=⟨mv m u.s,m-1,u.r,t⟩\/(∃v∈ws,x=wB m v)\/x=⟨m-1,mv m u.t,u.r,u.h-t⟩:=by
 unfold dD at h;rcases mem_append.mp h with h|h
 . rcases List.mem_or_eq_of_mem_set h with h|h;.obtain⟨v,f,rfl⟩:=mem_map.mp h;exact .inr (.inl ⟨v,f,rfl⟩)
   .exact .inl h
 .exact .inr (.inr (mem_singleton.mp h))
theorem yC(e:ws[j]?=some u):(⟨mv m u.s,m-1,u.r,t⟩:Wy)∈dD m ws (j:Int) u t/\(⟨m-1,mv m u.t,u.r,u.h-t⟩:Wy)∈dD m ws (j:Int) u t/\∀(i:Nat)(v:Wy),ws[i]?=some v->i≠j->wB m v∈dD m ws (j:Int) u t:=by have g:=(gW e).1;unfold dD;refine⟨mem_append_left _ (mem_of_getElem? (i:=j) (by rw[toNat_natCast,getElem?_set_self (by simpa using g)])),by simp,λi v q f=>mem_append_left _ (mem_of_getElem? (i:=i) ?_)⟩;rw[toNat_natCast,gk f,getElem?_map,q];rfl
theorem uq(m0:2<=m)(e:ws[j]?=some u)(k:Wk ws 0 p h):Wk (dD m ws (j:Int) u t) 0 (mv m p) h:=by obtain⟨q,y,z⟩:=yC (m:=m) (t:=t) e;induction k with|nil=>rw[show mv m 0=0 by unfold mv;rw[if_neg (by omega)]];exact .nil|step k B r s g=>
   rename_i p h v;obtain⟨i,f⟩:=List.getElem?_of_mem B;by_cases c:i=j
   . subst c;rw[e]at f;cases f;have s1:=Wk.step g q r (by show mv m u.s=_;rw[s]);have s2:=Wk.step s1 y r rfl;have:h+t+(u.h-t)=h+u.h:=by omega
     rw[<-this];exact s2
   .exact Wk.step g (z i v f c) r (by show mv m v.s=_;rw[s])
theorem j5{q:Int}(B:aH m ws)(e:ws[j]?=some u)(k:Wk (dD m ws (j:Int) u t) 0 q h):(q=m-1->0<u.r/\∃g,Wk ws 0 u.s g/\h=g+t)/\∀p,p<m->q=mv m p->Wk ws 0 p h:=by
 have m0:=B.m0;have J:=mem_of_getElem? e;have C:=B.ok u J;have L:mv m 0=0:=by unfold mv;rw[if_neg (by omega)]
 induction k with|nil=>refine⟨λz=>by omega,λp f z=>?_⟩;rw[<-L]at z;rw[<-rO (by omega) f z];exact .nil|step k M r s G=>
   rename_i p h v;rcases part_mem e M with rfl|⟨v,y,rfl⟩|rfl;.have H:=G.2 u.s C.s1 s.symm;exact⟨λ_=>⟨r,h,H,rfl⟩,λp f z=>absurd z.symm (sY f)⟩
   .have I:=B.ok v y;have H:=G.2 v.s I.s1 s.symm;refine⟨λz=>absurd z (sY I.t1),λp f z=>?_⟩;rw[<-rO I.t1 f z];exact Wk.step H y r rfl
   . obtain⟨_,g,N,hh⟩:=G.1 s.symm;refine⟨λz=>absurd z (sY C.t1),λp f z=>?_⟩;rw[<-rO C.t1 f z];have:=Wk.step N J r rfl;have O:h+(u.h-t)=g+u.h:=by omega
     show Wk ws 0 u.t (h+(u.h-t));rw[O];exact this
theorem o7(f:aH m ws)(e:ws[j]?=some u)(g:p<m)(h:cg (dD m ws (j:Int) u t) 0 (mv m p) o):cg ws 0 p o:=h.iff λx=>⟨λk=>(j5 f e k).2 p g rfl,λk=>uq f.m0 e k⟩
theorem zP{a:Option Int}(f:aH m ws)(e:ws[j]?=some u)(h:cg (dD m ws (j:Int) u t) 0 (m-1) o)(q:cg ws 0 u.s a):o=if 0<u.r then a.map (·+t)else none:=by
 have m0:=f.m0;have mk:∀g,0<u.r->Wk ws 0 u.s g->Wk (dD m ws (j:Int) u t) 0 (m-1) (g+t):=λg hr k=>Wk.step (uq m0 e k) (yC e).1 hr rfl;by_cases c:0<u.r;.rw[if_pos c];cases a with
   |none=>cases o with|none=>rfl|some x=>obtain⟨_,g,z,_⟩:=(j5 f e h.1).1 rfl;exact absurd z (q g)
   |some g=>cases o with|none=>exact absurd (mk g c q.1) (h _)|some x=>obtain⟨_,g',y,rfl⟩:=(j5 f e h.1).1 rfl;have h1:=h.2 _ (mk g c q.1);have B:=q.2 _ y;show some (g'+t)=some (g+t);congr 1;omega
 .rw[if_neg c];cases o with|none=>rfl|some x=>exact absurd ((j5 f e h.1).1 rfl).1 c
theorem Hb(r:aH m ws)(e:ws[j]?=some u)(G:m<6)(s:ws.length<12)(t0:1<=t)(t1:t<u.h):aH (m+1) (dD m ws (j:Int) u t):=by
 have y:=r.ok u (mem_of_getElem? e);have m0:=r.m0;have f:∀x,0<=x->x<m->0<=mv m x/\mv m x<m+1:=λx h0 h1=>by unfold mv;split<;>omega
 obtain⟨s0,s1,q,g,ne,r0,r1,h0,h1⟩:=y;refine⟨by omega,by omega,by unfold dD;simp;omega,λx B=>?_⟩;rcases part_mem e B with rfl|⟨v,C,rfl⟩|rfl;.exact⟨(f _ s0 s1).1,(f _ s0 s1).2,by show 0<=m-1;omega,by show m-1<m+1;omega,sY s1,r0,r1,t0,by show t<=1000000;omega⟩
 .obtain⟨s0,s1,q,g,ne,r0,r1,h0,h1⟩:=r.ok v C;exact⟨(f _ s0 s1).1,(f _ s0 s1).2,(f _ q g).1,(f _ q g).2,λz=>ne (rO s1 g z),r0,r1,h0,h1⟩
 .exact⟨by show 0<=m-1;omega,by show m-1<m+1;omega,(f _ q g).1,(f _ q g).2,λz=>sY g z.symm,r0,r1,by show 1<=u.h-t;omega,by show u.h-t<=1000000;omega⟩
structure Tl(m:Int)(ws:List Wy)(hs:List (Option Int)):Prop where
 len:(hs.length:Int)=m
 least:∀(p:Nat)(o:Option Int),hs[p]?=some o->cg ws 0 p o
theorem Tl.at{m p:Int}{ws:List Wy}{hs:List (Option Int)}(h:Tl m ws hs)(f:0<=p)(g:p<m):∃o,at' (hs.map oD) p=some (oD o)/\cg ws 0 p o/\hs[p.toNat]?=some o:=by
 have q:=h.len;have e:hs[p.toNat]?=some (hs[p.toNat]'(by omega)):=getElem?_eq_getElem (by omega);refine⟨_,?_,?_,e⟩;.rw[eF f (by simp;omega),getElem?_map,e];rfl
 .have:=h.least _ _ e;rwa[show((p.toNat:Nat):Int)=p by omega]at this
theorem Tl.last(h:Tl m ws hs)(m0:2<=m):∃o,at' (hs.map oD) (-1)=some (oD o)/\cg ws 0 (m-1) o:=by
 have f:=h.len;rcases List.eq_nil_or_concat hs with z|⟨a,x,z⟩;.rw[z]at f;simp at f;omega
 . rw[List.concat_eq_append]at z;subst z;simp at f;refine⟨x,?_,?_⟩;.rw[map_append];exact m8
   .have:=h.least a.length x (by simp);rwa[show((a.length:Nat):Int)=m-1 by omega]at this
inductive JNs(ws:List Wy)(a0 a1:Sl)(r:List D)(ρ:List Sl):Prop where|mk(us:List Wy)(s:Sl)(q0:ρ=[a0,a1,s])(q1:fr s=true)(q2:r=us.map Wy.d)(q3:∀v∈us,v∈ws)
theorem Mv(h:aH m ws)(C:Tl m ws hs)(k:Q (.val (.bl true)) [.val false (aR m ws),.own true (hs.map oD)]):(run Γ w (n+1) 20 [.val false (aR m ws),.own true (hs.map oD)]).sat Q:=by
 refine aU (d:=WK) rfl rfl (by decide) ?_;symm;simp[WK];refine cO (JNs ws _ _) ?_ ?_ ⟨ws,.bG,rfl,rfl,rfl,λv q=>q⟩;.rintro d r _⟨f,s,rfl,z,hr,G⟩;cases f with|nil=>cases hr|cons v f=>
     obtain⟨rfl,rfl⟩:d=v.d/\r=f.map Wy.d:=by simpa using hr
     have q:=G v (by simp);have g:∀v∈f,v∈ws:=λx H=>G x (mem_cons_of_mem _ H);have y:=h.ok v q;obtain⟨I,B,J,_⟩:=C.at y.s0 y.s1;obtain⟨L,a2,l2,_⟩:=C.at y.t0 y.t1;simp[z];apply ao;by_cases c:0<v.r;.cases I with|none=>simp[eO,cZ,c,B,oD];exact⟨f,_,rfl,rfl,rfl,g⟩|some a=>have wk:=Wk.step J.1 q c rfl;cases L with|none=>exact absurd wk (l2 _)|some b=>have M:=l2.2 _ wk;simp[eO,cZ,c,B,oD];apply ao;simp[eO,eY,nu,B,a2,oD,show ¬ a+v.h<b by omega];exact⟨f,_,rfl,rfl,rfl,g⟩
     .simp[cZ,c];exact⟨f,_,rfl,rfl,rfl,g⟩
 .rintro _⟨f,s,rfl,_⟩;symm;simp;exact k
theorem u9(B:aH m ws)(f:l≠[])(h:eV ws l [0]=some qs):eV ws l []=some qs:=by cases l with|nil=>exact absurd rfl f|cons k l=>rw[eV]at h ⊢;cases e:bF ws [0] k with|none=>rw[e]at h;cases h|some I=>
     rw[e]at h;have q:=fu e;obtain⟨v,y,rfl,J,f,C⟩:=jP (by simp) e;have hr:=v9 e y;have hs:v.s=0:=by simp at f;exact f.symm
     have G:=B.ok v C;have H:bF ws [] k=some ([0]++[v.t]):=by unfold bF;rw[if_pos ⟨q.1,q.2.1⟩,y];have g:¬ v.t=0:=λz=>G.ne (by rw[hs,z]);simp[show ¬ v.r<1 by omega,hs,g]
     rw[H];exact h
theorem yS(h:eV ws l [0]=some qs)(f:lst qs=b)(h0:b≠0):l≠[]:=by rintro rfl;rw[eV]at h;cases h;exact h0 f.symm
theorem wV(f:aH m ws)(g:l.length<=100)(h:eV ws l []=some qs)(k:Q (.val (.tup (qs.map D.int))) (A2 m ws l)):(run Γ w (n+1) 12 (A2 m ws l)).sat Q:=sat_iff.mpr ⟨_,_,qu f g h,k⟩
theorem Hg(g:aH m ws)(h:eV ws l [0]=some qs)(q:lst qs=0):l=[]:=by have m0:=g.m0;obtain⟨nd,_,_⟩:=rm g (by simp) (by simp) (λx s=>by rw[mem_singleton.mp s];omega) h;obtain⟨f,rfl,z⟩:=mO (by simp) h;cases f with|nil=>exact List.eq_nil_of_length_eq_zero (by simpa using z.symm)|cons x y=>
   exfalso;have:lst ([0]++x::y)=lst (x::y):=by unfold lst;rw[List.getLast?_append,oE (by simp)];rfl
   rw[this]at q;have r:=mV (ps:=x::y) (by simp);rw[q]at r;rw[nodup_append]at nd;exact nd.2.2 0 (by simp) 0 r rfl
theorem Ha:cm .eq (.tup []) (.tup [])=some true:=rfl
inductive JWt(m:Int)(a0 a1:Sl)(r:List D)(ρ:List Sl):Prop where|mk(s2:Sl)(s3:Sl)(s4:Sl)(q0:ρ=[a0,a1,s2,s3,s4])(q1:A3 (fr s2=true) (fr s3=true) (fr s4=true))(q2:∀d∈r,∃i,d=.int i/\1<=i/\i<m)
theorem Ly(B:50000000<=w)(h:aH m ws)(C:Tl m ws hs)(k:Q (.val (.bl true)) [.val false (aR m ws),.own true (hs.map oD)]):(run Γ w (n+4) 19 [.val false (aR m ws),.own true (hs.map oD)]).sat Q:=by
 have m0:=h.m0;have m1:=h.m1;refine aU (d:=Wt) rfl rfl (by decide) ?_;symm;simp[Wt,show m<=1000000000 by omega,show-1000000000<=m by omega];refine cO (JWt m _ _) ?_ ?_ ⟨.bG,.bG,.bG,rfl,⟨rfl,rfl,rfl⟩,λd hd=>?_⟩;.rintro d r _⟨s2,s3,s4,rfl,⟨L,G,H⟩,hd⟩;obtain⟨i,rfl,U,i1⟩:=hd d (by simp);have q:∀d∈r,∃i,d=.int i/\1<=i/\i<m:=λd h=>hd d (mem_cons_of_mem _ h);obtain⟨o,a,lo,_⟩:=C.at (p:=i) (by omega) i1;simp[L];apply ao;cases o with|none=>simp[a,oD];exact⟨_,_,_,rfl,⟨rfl,G,H⟩,q⟩|some g=>
     simp[a,oD];apply ao;simp;refine o8 B h (by omega) i1 lo λl ps s y W M=>?_;have I:lst ps=i:=by unfold lst;rw[y];rfl
     have z:=yS s I (by omega);have eq:=u9 h z s;obtain⟨f,rfl,_⟩:=mO (by simp) s;have N:at' (([0]++f).map D.int) 0=some (.int 0):=by rw[eF (by omega) (by simp)];rfl
     have J:=wG (ps:=[0]++f) (by simp);rw[I]at J;generalize[0]++f=ps at*;simp[G];apply ao;simp;refine wV h (by omega) eq ?_;simp[H];apply ao;simp;refine qw h (by omega) eq ?_;simp[a,oD,M,N,J];exact⟨_,_,_,rfl,⟨rfl,rfl,rfl⟩,q⟩
 . rintro _⟨s2,s3,s4,rfl,_⟩;symm;obtain⟨o,a,lo,_⟩:=C.at (p:=0) (by omega) (by omega);obtain rfl:o=some 0:=by cases o with|none=>exact absurd .nil (lo 0)|some g=>have:=lo.2 0 .nil;have:=(Wk.nn h (by omega) (by omega) lo.1).1;congr 1;omega
   simp[a,oD];refine o8 B h (by omega) (by omega) lo λl ps s y _ _=>?_;obtain rfl:=Hg h s (by unfold lst;rw[y];rfl);simp[Ha];exact k
 .obtain⟨i,O,rfl⟩:=mem_map.mp hd;have:=List.mem_range.mp O;exact⟨_,rfl,by omega,by omega⟩
def Qq:D->List Int|.tup ds=>ds.map lB|_=>[]
theorem ue:Qq (tupI l)=l:=by show(l.map D.int).map lB=l;rw[map_map];exact(List.map_congr_left λ_ _=>rfl).trans (List.map_id _)
def PK(ws:List Wy)(d:D):D:=.int (tot ws (Qq d))
inductive F3c(a b c:Sl)(ρ:List Sl):Prop where|mk(s:Sl)(q0:ρ=[a,b,c,s])(q1:fr s=true)
theorem Ng(Z:50000000<=w)(h:aH m ws)(U:Tl m ws hs)(k:Q (.val (.bl true)) [.val false (aR m ws),.own true (hs.map oD)]):(run Γ w (n+4) 21 [.val false (aR m ws),.own true (hs.map oD)]).sat Q:=by
 have m0:=h.m0;obtain⟨o,a,lo⟩:=U.last m0;refine aU (d:=UG) rfl rfl (by decide) ?_;symm;by_cases c:(E ws (m-1) ⟨[],[0],0⟩).length<=60
 . obtain⟨r,ρ,e,rfl,rfl⟩:=sat_iff.mp (S6 (w:=w) (n:=n) (Q:=λr ρ=>r=.own (qz ((E ws (m-1) ⟨[],[0],0⟩).map tupI))/\ρ=[.val false (aR m ws)]) (by omega) h c ⟨rfl,rfl⟩);obtain⟨f,L,M⟩:∃f:List (List Int),qz ((E ws (m-1) ⟨[],[0],0⟩).map tupI)=f.map tupI/\∀l,l∈f↔l∈E ws (m-1) ⟨[],[0],0⟩:=by
    have H:=iu ((E ws (m-1) ⟨[],[0],0⟩).map tupI);refine⟨(qz ((E ws (m-1) ⟨[],[0],0⟩).map tupI)).map Qq,?_,λl=>?_⟩;.rw[map_map];refine((List.map_congr_left λd hd=>?_).trans (List.map_id _)).symm;obtain⟨l,_,rfl⟩:=mem_map.mp (H.mem_iff.mp hd);show tupI (Qq (tupI l))=_;rw[ue];rfl
    . rw[mem_map];constructor;.rintro⟨d,hd,rfl⟩;obtain⟨l,q,rfl⟩:=mem_map.mp (H.mem_iff.mp hd);rw[ue];exact q
      .intro q;exact⟨tupI l,H.mem_iff.mpr (mem_map.mpr ⟨l,q,rfl⟩),ue⟩
   rw[L]at e;have B:=Rv h lo M;have N:f.length<=60:=by have z:=(iu ((E ws (m-1) ⟨[],[0],0⟩).map tupI)).length_eq;rw[L]at z;simp at z;omega
   simp[UG];rw[ex];simp[iB,bu,bR,dh,aL,e];apply ao;simp[a];refine⟨λ_=>?_,by show _<=16777216;omega⟩;refine je (F3c _ _ _) (PK ws) ⟨.bG,rfl,rfl⟩ ?_ ?_;.rintro d hd _⟨s,rfl,C⟩;obtain⟨l,q,rfl⟩:=mem_map.mp hd;obtain⟨qs,G,I⟩:=(yK h).mp ((M l).mp q);have J:=yS G I (by omega);have W:=u9 h J G;have g4:=pU h G;rw[show PK ws (tupI l)=.int (tot ws l)from by unfold PK;rw[ue]];simp[C,tupI];refine qw h (by omega) W ?_;simp;exact⟨_,rfl,rfl⟩
   . rintro _⟨s,rfl,C⟩;have X:(f.map tupI).map (PK ws)=(f.map (tot ws)).map D.int:=by rw[map_map,map_map];refine List.map_congr_left λl _=>?_;show PK ws (tupI l)=.int (tot ws l);unfold PK;rw[ue]
     rw[X];have O:blt .DY [.lst ((f.map (tot ws)).map D.int)]=some (.val (oD o)):=by show((some ((f.map (tot ws)).map D.int)).bind λds=>ds.mapM jF).map _=_;rw[bind_some,oH];show some (R.val (match(f.map (tot ws)).min? with|some i=>.int i|none=>.non))=_;rw[B];cases o<;>rfl
     have Y:cm .eq (oD o) (oD o)=some true:=by cases o with|none=>rfl|some i=>
        have g:gq (.int i) (.int i)=true:=by show(i==i)=true;simp
        exact congrArg some g
     rw[map_map]at O;simp[O,Y];exact k
 . obtain⟨args,e⟩:=S7 (w:=w) (n:=n) (by omega) h (by omega);obtain⟨g,rfl⟩:∃g,o=some g:=by cases o with|some g=>exact⟨g,rfl⟩|none=>exfalso;cases hE:E ws (m-1) ⟨[],[0],0⟩with|nil=>rw[hE]at c;simp at c|cons l r=>obtain⟨qs,G,I⟩:=(yK h (l:=l)).mp (by rw[hE];simp);have:=v7 (by simp) G;rw[I]at this;exact lo _ this
   simp[UG];rw[ex];cases args with|nil=>simp[dz,fH,iB,bu,bR,dh,aL,e,a,oD];exact k|cons x y=>simp[dz,fH,iB,bu,bR,dh,aL,e,a,oD];exact k
theorem gdO(h:hs.length<=100):gd 1 (.lst (hs.map oD))=true:=by show(decide ((hs.map oD).length<=1000)&&(hs.map oD).all (gd 0))=true;rw[and_eq_true];refine⟨by simp;omega,all_eq_true.mpr λd hd=>?_⟩;obtain⟨o,_,rfl⟩:=mem_map.mp hd;cases o<;>rfl
theorem Tv:cm .eq (oD o) (oD o)=some true:=by cases o with|none=>rfl|some i=>
   have g:gq (.int i) (.int i)=true:=by show(i==i)=true;simp
   exact congrArg some g
theorem Oq{f:Type}{xs:List f}(h0:0<=k)(h1:k<(xs.length:Int)):cut xs (some k) none=xs.drop k.toNat:=by
 unfold cut cF;simp[h0];try rw[Nat.min_eq_left (by omega)]
 try rw[take_of_length_le (by simp)]
theorem rest_eq{fs:List (Option Int)}(h:aH m ws)(e:ws[j]?=some u)(q:Tl m ws hs)(r:Tl (m+1) (dD m ws (j:Int) u t) fs):fs.take (m-1).toNat++fs.drop m.toNat=hs:=by
 have m0:=h.m0;have y:=q.len;have l2:=r.len;refine List.ext_getElem? λi=>?_;by_cases c:i<(m-1).toNat
 . rw[getElem?_append_left (by simp;omega),List.getElem?_take_of_lt c];have f:fs[i]?=some fs[i]:=getElem?_eq_getElem (by omega);have g:hs[i]?=some hs[i]:=getElem?_eq_getElem (by omega);rw[f,g];have f1:=r.least i _ f;have f2:=q.least i _ g;have:mv m (i:Int)=i:=by unfold mv;rw[if_neg (by omega)]
   rw[<-this]at f1;rw[(o7 h e (by omega) f1).uniq f2]
 . rw[getElem?_append_right (by simp;omega)];have s:(fs.take (m-1).toNat).length=(m-1).toNat:=by simp;omega
   rw[s,List.getElem?_drop];by_cases c2:i=(m-1).toNat;.subst c2;rw[Nat.sub_self,Nat.add_zero];have f:fs[m.toNat]?=some fs[m.toNat]:=getElem?_eq_getElem (by omega);have g:hs[(m-1).toNat]?=some hs[(m-1).toNat]:=getElem?_eq_getElem (by omega);rw[f,g];have f1:=r.least _ _ f;have f2:=q.least _ _ g;rw[show((m.toNat:Nat):Int)=mv m (m-1)by unfold mv;rw[if_pos rfl];omega]at f1;rw[show(((m-1).toNat:Nat):Int)=m-1 by omega]at f2;rw[(o7 h e (by omega) f1).uniq f2]
   .rw[List.getElem?_eq_none (by omega),List.getElem?_eq_none (by omega)]
theorem lM(f:50000000<=w)(h:aH m ws)(k:∀hs:List (Option Int),Tl m ws hs->Q (.own (hs.map oD)) [.val false (aR m ws)]):(run Γ w (n+2) 6 [.val false (aR m ws)]).sat Q:=Dt f h λhs h1 g=>k hs ⟨h1,g⟩
theorem Sh{fs:List (Option Int)}{a2 a3 a5:Sl}(s:fs.length<=100)(b1:at' (fs.map oD) (m-1)=some (oD o))(s1:cut (fs.map oD) none (some (m-1))=(fs.map oD).take (m-1).toNat)(s2:cut (fs.map oD) (some m) none=(fs.map oD).drop m.toNat)(g:(fs.map oD).take (m-1).toNat++(fs.map oD).drop m.toNat=hs.map oD)(q:cm .eq (.lst (hs.map oD)) (.lst (hs.map oD))=some true)(k:Q (.val (.bl true)) [.val false (aR m ws),.own true (hs.map oD),a2,a3]):(bO (run Γ w n) w [.ret (.and (.cmp .eq (.bin .add (.slice (.var 4) (.con .non) (.bin .sub (.idx (.var 0) (.con (.int 0))) (.con (.int 1)))) (.slice (.var 4) (.idx (.var 0) (.con (.int 0))) (.con .non))) (.var 1)) (.cmp .eq (.idx (.var 4) (.bin .sub (.idx (.var 0) (.con (.int 0))) (.con (.int 1)))) (.var 6)))] [.val false (aR m ws),.own true (hs.map oD),a2,a3,.own false (fs.map oD),a5,.val false (oD o)]).sat (eQ 4 Q):=by
 have f:((fs.map oD).take (m-1).toNat).length+((fs.map oD).drop m.toNat).length<=16777216:=by simp;omega
 have r:lW (.lst ((fs.map oD).take (m-1).toNat)) (.lst ((fs.map oD).drop m.toNat))=some (.own (hs.map oD)):=by show(if _ then _ else _)=_;rw[if_pos f,g]
 symm;generalize(fs.map oD).take (m-1).toNat=X1 at*;generalize(fs.map oD).drop m.toNat=X2 at*;simp[JM,part,Fz,s1,s2,r,q,b1,Tv];exact k
theorem DN(G:50000000<=w)(h:aH m ws)(q:Tl m ws hs)(e:ws[j]?=some u)(H:m<6)(s:ws.length<12)(t0:1<=t)(t1:t<u.h)(k:Q (.val (.bl true)) [.val false (aR m ws),.own true (hs.map oD),.val false (.int j),.val false (.int t)]):(run Γ w (n+3) 22 [.val false (aR m ws),.own true (hs.map oD),.val false (.int j),.val false (.int t)]).sat Q:=by
 have m0:=h.m0;have N:=(gW e).1;have B:=rJ (f:=Wy.d) e;have C:=h.ok u (mem_of_getElem? e);refine aU (d:=VD) rfl rfl (by decide) ?_;symm;simp[VD];refine yZ (by omega) (by omega) (by omega) (by simpa using e) B t0 t1 ?_;simp;refine lM G (Hb h e H s t0 t1) λfs y=>?_;have O:=q.len;have l2:=y.len;have z:=rest_eq h e q y;obtain⟨o,b1,b2,_⟩:=y.at (p:=m-1) (by omega) (by omega);obtain⟨I,c1,c2,_⟩:=q.at C.s0 C.s1;have ho:=zP h e b2 c2;have s1:=Ez (xs:=fs.map oD) (k:=m-1) (by omega) (by simp;omega);have s2:=Oq (xs:=fs.map oD) (k:=m) (by omega) (by simp;omega);have J:(fs.map oD).take (m-1).toNat++(fs.map oD).drop m.toNat=hs.map oD:=by rw[<-z,map_append,List.map_take,List.map_drop]
 have L:=eq_self (k:=1) (by omega) (gdO (hs:=hs) (by omega));simp;apply ao;simp[B];apply ao;simp;apply ao;have fin:=λ{a2 a3 a5:Sl}(M:Q (.val (.bl true)) [.val false (aR m ws),.own true (hs.map oD),a2,a3])=>Sh (w:=w) (n:=n+2) (m:=m) (ws:=ws) (a2:=a2) (a3:=a3) (a5:=a5) (by omega) b1 s1 s2 J L M;by_cases c:0<u.r;.rw[if_pos c]at ho;cases I with|none=>subst ho;simp[eO,cZ,c,c1,oD];exact fin k|some g=>subst ho;simp[eO,cZ,c,c1,oD];apply ao;simp[eO,c1,oD];exact fin k
 .rw[if_neg c]at ho;subst ho;simp[cZ,c];exact fin k
inductive JC(ns:List Int)(_:Nat)(ρ:List Sl):Prop where|mk(cs:List Int)(s:Sl)(q0:ρ=[.val false (.lst (ns.map D.int)),.val false (.int 12),.own false (cs.map D.int),s])(q1:fr s=true)(q2:cs.length=12)
theorem Ht{f:List Int}{a b:Option Int}:cut (f.map D.int) a b=(cut f a b).map D.int:=by unfold cut;simp
theorem vZ{ns:List Int}(C:ns.length<=63)(k:∀f:List Int,Q (.own (f.map D.int)) [.val false (.lst (ns.map D.int)),.val false (.int 12)]):(run Γ w (n+1) 18 [.val false (.lst (ns.map D.int)),.val false (.int 12)]).sat Q:=by
 refine aU (d:=Wf) rfl rfl (by decide) ?_;symm;simp[Wf];refine⟨by show 12<=16777216;omega,?_⟩;symm;simp;refine⟨by omega,?_⟩;refine tK (g:=λ(k:Nat)=>D.int (k:Int)) (JC ns) ?_ ?_ ⟨replicate 12 0,.bG,by simp[replicate],rfl,rfl⟩
 . rintro i _ q⟨f,s,rfl,hs,hc⟩;have G:0<=(i:Int)%12:=Int.emod_nonneg _ (by decide);have H:(i:Int)%12<12:=Int.emod_lt_of_pos _ (by decide);obtain⟨j,r,y⟩:∃j,(i:Int)%12=j/\j.toNat<f.length:=⟨_,rfl,by omega⟩;have z:at' (f.map D.int) j=some (.int f[j.toNat]):=by rw[eF (by omega) (by simp;omega)];simp[y]
   have a2:at' (ns.map D.int) (i:Int)=some (.int ns[i]):=by rw[eF (by omega) (by simp;omega)];simp[q]
   have B:jr f.length j=some j.toNat:=wg (by omega) (by omega);simp[hs];apply ao;simp[r,z,a2,B];exact⟨f.set j.toNat (f[j.toNat]*1000003+ns[i]),.val false (.int i),by simp[map_set],rfl,by simpa using hc⟩
 .rintro _⟨f,s,rfl,hs,hc⟩;symm;simp[JM,part,Fz,Ht];exact k _
theorem pW(h0:0<m)(g:m<=1000000)(k:∀d y:Int,0<=d->d<m->Q (.val (.int d)) [.own true [.int y],.val false (.int m)]):(run Γ w (n+1) 15 [.own true [.int x],.val false (.int m)]).sat Q:=by
 have f:m<1606938044258990275541962092341162602522202993782792835301376:=by omega
 refine aU (d:=Qa) rfl rfl (by decide) ?_;symm;simp[Qa,h0,f];apply ao;simp[h0,f,jr];apply ao;simp;exact k _ _ (Int.emod_nonneg _ (by omega)) (Int.emod_lt_of_pos _ h0)
theorem Sw:cm .ne (oD o) (oD o)=some false:=by cases o with|none=>rfl|some i=>
   have g:(!gq (.int i) (.int i))=false:=by show(!(i==i))=false;simp
   exact congrArg some g
inductive JL(v:Sl)(r:List D)(ρ:List Sl):Prop where|mk(s1:Sl)(s2:Sl)(s3:Sl)(s4:Sl)(s5:Sl)(s6:Sl)(s7:Sl)(q0:ρ=[v,s1,s2,s3,s4,s5,s6,s7])(q1:A7 (fr s1=true) (fr s2=true) (fr s3=true) (fr s4=true) (fr s5=true) (fr s6=true) (fr s7=true))(q2:∀d∈r,∃i,d=D.int i)
inductive JLp(a0 a1 a3 a4:Sl)(_:Nat)(ρ:List Sl):Prop where|mk(y:Int)(s5 s6 s7:Sl)(q0:ρ=[a0,a1,.own false [.int y],a3,a4,s5,s6,s7])(q1:A3 (fr s5=true) (fr s6=true) (fr s7=true))
theorem Gs(ns:List Int)(M:ns.length<=63):∃as,run Γ 100000000 40 23 [.val false (.lst (ns.map D.int))]=.ok (.val (.bl true)) as:=by
 suffices h:∀w,50000000<=w->(run Γ w 40 23 [.val false (.lst (ns.map D.int))]).sat λr _=>r=.val (.bl true)by obtain⟨a,ρ,e,rfl⟩:=sat_iff.mp (h 100000000 (by decide));exact⟨ρ,e⟩
 intro w G;refine aU (d:=VR) rfl rfl (by decide) ?_;symm;simp[VR];refine vZ M λcs=>?_;simp;refine cO (JL (.val false (.lst (ns.map D.int)))) ?_ ?_ ⟨.bG,.bG,.bG,.bG,.bG,.bG,.bG,rfl,⟨rfl,rfl,rfl,rfl,rfl,rfl,rfl⟩,λd hd=>?_⟩
 . rintro d r _⟨s1,s2,s3,s4,s5,s6,s7,rfl,⟨h1,N,O,U,z,B,s⟩,hd⟩;obtain⟨x,rfl⟩:=hd d (by simp);have C:∀d∈r,∃i,d=D.int i:=λd h=>hd d (mem_cons_of_mem _ h);simp[h1];apply ao;simp;refine G3 λy=>?_;simp[N];apply ao;simp;refine Hy λm ws y g=>?_;simp[O];have m0:=g.m0;have m1:=g.m1;have W:=g.len;symm;simp;refine lM G g λhs H=>?_;simp[U];apply ao;simp;refine Ly G g H ?_;simp;refine Mv g H ?_;simp;apply ao;simp;refine Ng G g H ?_;simp;apply ao;simp;refine oO (by omega) ?_;simp;refine lM G (uc g) λfs X=>?_;obtain⟨o,a,lo⟩:=H.last m0;obtain⟨Y,a2,J⟩:=X.last m0;obtain rfl:Y=o:=by refine cg.uniq (J.iff λh=>?_) lo;have:=yP (m:=m) (ws:=ws) (p:=0) (b:=m-1) (h:=h);rw[show m-1-(m-1)=0 by omega,show m-1-0=m-1 by omega]at this;exact this
   simp[a,a2,Sw];apply ao;by_cases c:m<6
   . by_cases c2:ws.length<12
     . simp[c,show(ws.length:Int)<12 by omega,c2];symm;simp[show(ws.length:Int)<=1000000000 by omega];refine tK (JLp _ _ _ _) ?_ ?_ ⟨y,s5,s6,s7,rfl,z,B,s⟩
       . rintro i _ Z⟨y,s5,s6,s7,rfl,z,B,s⟩;have I:ws[i]?=some ws[i]:=by simp[Z]
         have a1:=rJ (f:=Wy.d) I;have L:=g.ok _ (mem_of_getElem? I);generalize ws[i]=v at*;have v0:=L.h0;have v1:=L.h1;simp[z];apply ao;simp[a1,nu,B];apply ao;by_cases q:2<v.h;.simp[q,show 1<v.h-1 by omega,show 1+1<v.h by omega];refine pW (by omega) (by omega) λd y d0 d1=>?_;simp[s];apply ao;simp[show 1<v.h by omega];refine DN G g H I c c2 (by omega) (by omega) ?_;simp;exact⟨_,_,_,_,rfl,rfl,rfl,rfl⟩
         . simp[q,show ¬ 1<v.h-1 by omega,show ¬ 1+1<v.h by omega];refine pW (by omega) (by omega) λd y d0 d1=>?_;simp[s];apply ao;by_cases c3:1<v.h;.simp[c3];refine DN G g H I c c2 (by omega) (by omega) ?_;simp;exact⟨_,_,_,_,rfl,rfl,rfl,rfl⟩
           .simp[c3];exact⟨_,_,_,_,rfl,rfl,rfl,rfl⟩
       .rintro _⟨y,s5,s6,s7,rfl,z,B,s⟩;simp;exact⟨_,_,_,_,_,_,_,rfl,⟨rfl,rfl,rfl,rfl,z,B,s⟩,C⟩
     .simp[c,show ¬(ws.length:Int)<12 by omega,c2];exact⟨_,_,_,_,_,_,_,rfl,⟨rfl,rfl,rfl,rfl,z,B,s⟩,C⟩
   .simp[c];exact⟨_,_,_,_,_,_,_,rfl,⟨rfl,rfl,rfl,rfl,z,B,s⟩,C⟩
 .rintro _⟨s1,s2,s3,s4,s5,s6,s7,rfl,_⟩;symm;simp
 .obtain⟨i,_,rfl⟩:=mem_map.mp hd;exact⟨i,rfl⟩
end T
end
structure PySem.W.Fast:Prop where(tw1857621813779618800 tw9994945428803852751 tw11411578907548165363 tw2356314830651464722 tw6322829701526431474 tw5026624469228103604 tw5973114934116267759 tw4893612315242329582 tw4990972237162222496 tw6812128791218983022 tw4198711942442493625 tw15346110952594220019 tw12040812036163711227 tw5881852971704634991 tw13101465766486884951 tw8067136540282164466 tw17584414221725516249 tw16530510260439753233 tw16471563435304309562 tw3024909953438874016 tw9349925002528271932 tw684909467162376359 tw14606652578825408222 tw891721375208058691 tw11288431784279934442 tw17875808357145525736 tw7680538311105789135 tw871057869899551560 tw16924867301525644994 tw15049488318608225037 tw2101341785307005665 tw7524124922659309821 tw514042042881423668 tw15131075780823034753 tw17097294375797235662 tw15458241332770903746 tw2583727895578818823 tw12307946440291096559 tw14311357878391380778 tw4490940731362791634 tw5022818839547724761 tw15740545959241012807 tw5239385479668989691 tw17085429310495015915 tw8113143012970657481 tw1455306275363177764 tw6037171681942722047 tw2227841142547421962 tw10815070120228634362 tw12978030994314255138 tw8842661604969137655 tw17845788140713104954 tw16768606495300730604 tw336329743000778340 tw11866461825042717780 tw16240000397788861249 tw1780233205401939712 tw5232128337799479550 tw7959776076013203406 tw16584150552681200366 tw7142184961601210479 tw14772846879969938587 tw3517415465016377693 tw2904958517516722666 tw14390423258425121333 tw6863545843435604417 tw7919495077770680428 tw13659048234104186690 tw1751505271549302784 tw8560765384455061207 tw3368704046501851491 tw15829264315564017483 tw11369319367348463843 tw2872625691044117365 tw4999150624129426946 tw10568007012795786070 tw14134298584243876729 tw12539125022333722484 tw13424658311077517367 tw11429057595036880984 tw18396268644142806309 tw4964034587182689157 tw6799269820365258667 tw5659647838180556636 tw14007349669319574216 tw5584379342536593907 tw5070630561047466696 tw6097323066937957637 tw12732020402746483067 tw16614608647023796607 tw8315741323951542523 tw12113522356831323270 tw15148644272566086074 tw13618718187188042157 tw9948659114033477524 tw3274571163702803444 tw17791230174159089870 tw11476860054606852314 tw198167471839484225 tw12765522300585239428 tw6347969215485978646 tw10032099604322827570 tw487139024640915793 tw4706642257272625675 tw12621557904075759556 tw14633481316743022628 tw11140947272675060008 tw11007779440635308608 tw8842045140726228479 tw7620891208807858664 tw6294916712999735774 tw5581402014536185402 tw7465830575140142910 tw13261710107689209579 tw6930348405360378800 tw8444969551306135385 tw4082687388835742762 tw6426502826894077179 tw2603230102560054778 tw5082930741155398560 tw17087778549029051819 tw11604288297248830858 tw18322945416536852206 tw17348796084524322403 tw10157169824302105592 tw11105158570702927724 tw8369379848375083406 tw2835153432321425529 tw12565223975704659316 tw17362230788346354749 tw6319650593154284009 tw14609233172833483397 tw11522939999656835283 tw6556038653509277855 tw6184524928179108107 tw17163840855916532986 tw3935159794264149737 tw17849132337874476569 tw8570982205573070810 tw14733673351678539640 tw5411043167257084769 tw5943502503468341074 tw13847238325562251747 tw17185730034553460270 tw1638048081478920693 tw5099463427809459711 tw16577955325308308570 tw18013046347269072334 tw3818136910356179469 tw11981075506336280577 tw13417475957914427564 tw16978581047370132410 tw4250460763544066632 tw1507178974958694914 tw8411919363353454997 tw3014833675209581475 tw14761355431835806207 tw10994387488071741960 tw15630587237594070578 tw6125893941308250956 tw17050144231155430463 tw9523810363771812259 tw14132082644280235203 tw5322301536129412123 tw3408927752314745180 tw16307246799201918071 tw87439033572407769 tw15011854565154099782 tw3802027544624783111 tw15679594641290852964 tw15273091370625121867 tw15509790092005120057 tw15752106719106179034 tw17181822496428809158 tw2239470266444426655 tw11439355596877892423 tw12521044598185657887 tw4254871386665646558 tw8058308315537187453 tw10198933111696395678 tw9021349902890510861 tw10853308965122642484 tw3075968050561934001 tw14188530151013875541 tw12525592666962376032 tw12780088417705847266 tw17945317554544885076 tw14331399578092099060 tw4771896789512736459 tw6464035109357049013 tw1413649841751191641 tw16847468050864349949 tw12938887639584065320 tw4066195166483441818 tw2844215912577633396 tw14640108338491145663 tw1960855780436554638 tw9807805262079785145 tw5513959014813041368 tw18037793797829805666 tw8386618016510815158 tw13042339902045099500 tw12132015555438345335 tw4358702523176159164 tw9890459740889234567 tw8866983036828232198 tw10242845941210227036 tw13489329115941846742 tw1272787426393734775 tw4231328191264035026 tw11059399232837213757 tw5022643592020470136 tw4080143014522197153 tw8219013585577686053 tw4151335596245793394 tw8657555429673663444 tw16847374009956217263 tw13388998302763829083 tw17905066713145299128 tw8239475808695432933 tw1495222701014422152 tw3335928719853305003 tw5611677006760111748 tw10650847970033611221:True)
namespace T
open PySem L2 PySem.Spec PyProof.Rows HH
theorem T4{P:List Value → Prop}{n:Nat}(h:∀(a:Value)(b:List Value),b.length=n → P (a::b))(b:List Value)(c:b.length=n+1):P b:=by cases b with|nil=>cases c|cons a b=>exact h a b (Nat.succ.inj c)
theorem lk0{P:List Value → Prop}(h:P [])(b:List Value)(c:b.length=0):P b:=by cases b with|nil=>exact h|cons a b=>cases c
theorem wL{P:List Value → Prop}(h:∀a,P [a]):∀b:List Value,b.length=1 → P b:=T4 λa=>lk0 (h a)
theorem jz{P:List Value → Prop}(h:∀a b,P [a,b]):∀c:List Value,c.length=2 → P c:=T4 λa=>wL (h a)
theorem RG{P:List Value → Prop}(h:∀a b c,P [a,b,c]):∀e:List Value,e.length=3 → P e:=T4 λa=>jz (h a)
theorem XJ{P:List Value → Prop}(h:∀a b c d,P [a,b,c,d]):∀e:List Value,e.length=4 → P e:=T4 λa=>RG (h a)
theorem lk5{P:List Value → Prop}(h:∀a b c d e,P [a,b,c,d,e]):∀f:List Value,f.length=5 → P f:=T4 λa=>XJ (h a)
local macro_rules|`(term|‹$p›)=>`(λ_ _ _ _ _ _=>$p)
structure Txt(K:PySem.W.Frag):Prop where
 D0:bL K "ways_out" s0
 D1:bL K "known_way" s1
 D2:bL K "turned_net" s2
 D3:bL K "end_moved" s3
 D4:bL K "parted_net" s4
 D5:bL K "hours_from" s5
 D6:bL K "soonest_hours" s6
 D7:bL K "hours_to" s7
 D8:bL K "is_soonest_step" s8
 D9:bL K "soonest_walk" s9
 D10:bL K "steps_on" U3
 D11:bL K "all_walks" QX
 D12:bL K "walk_places" s12
 D13:bL K "walk_length" ZJ
 D14:bL K "_law_pot" Zq
 D15:bL K "_law_take" s15
 D16:bL K "_law_way" Zh
 D17:bL K "_law_net" XN
 D18:bL K "_law_folded" ZM
 D19:bL K "_law_walks_told" Z9
 D20:bL K "_law_none_sooner" ZS
 D21:bL K "_law_least" ZF
 D22:bL K "_law_parted_alike" Xq
 D23:bL K "law" Z1
 iY:PySem.W.nsIn K mainGlobals "enumerate"=some none
 bH:PySem.W.nsIn K mainGlobals "len"=some none
 xK:PySem.W.nsIn K mainGlobals "list"=some none
 pg:PySem.W.nsIn K mainGlobals "max"=some none
 gh:PySem.W.nsIn K mainGlobals "min"=some none
 bN:PySem.W.nsIn K mainGlobals "range"=some none
 jC:PySem.W.nsIn K mainGlobals "reversed"=some none
 gj:PySem.W.nsIn K mainGlobals "sorted"=some none
 Ed:PySem.W.nsIn K mainGlobals "sum"=some none
 bT:PySem.W.nsIn K mainGlobals "tuple"=some none
 bC:∃t,PySem.W.nsIn K mainGlobals "MOST_WALKS"=some (some (Value.int 60 t))lU:∃C,MK K "TooMany" C
 dX:∃C,uB K "TooMany" C
noncomputable def lE{K:PySem.W.Frag}(T:Txt K):Nat->Addr:=λk=>if k=1 then T.lU.choose else 0
structure Oks(Pg:Program)(w:World)(K:PySem.W.Frag)(mg:Str->Option Value)(base:Heap)(cl:Nat->Addr)(n:Nat):Prop where
 c0:aZ Pg w K mg base n (run Γ 100000000 n) 0 "ways_out" 2
 c1:aZ Pg w K mg base n (run Γ 100000000 n) 1 "known_way" 2
 c2:aZ Pg w K mg base n (run Γ 100000000 n) 2 "turned_net" 1
 c3:aZ Pg w K mg base n (run Γ 100000000 n) 3 "end_moved" 2
 c4:aZ Pg w K mg base n (run Γ 100000000 n) 4 "parted_net" 3
 c5:aZ Pg w K mg base n (run Γ 100000000 n) 5 "hours_from" 2
 c6:aZ Pg w K mg base n (run Γ 100000000 n) 6 "soonest_hours" 1
 c7:aZ Pg w K mg base n (run Γ 100000000 n) 7 "hours_to" 2
 c8:aZ Pg w K mg base n (run Γ 100000000 n) 8 "is_soonest_step" 2
 c9:aZ Pg w K mg base n (run Γ 100000000 n) 9 "soonest_walk" 2
 Xb:aZ Pg w K mg base n (run Γ 100000000 n) 10 "steps_on" 3
 c11:aZ Pg w K mg base n (run Γ 100000000 n) 11 "all_walks" 1
 c12:aZ Pg w K mg base n (run Γ 100000000 n) 12 "walk_places" 2
 Xc:aZ Pg w K mg base n (run Γ 100000000 n) 13 "walk_length" 2
 Xd:aZ Pg w K mg base n (run Γ 100000000 n) 14 "_law_pot" 1
 Rr:aZ Pg w K mg base n (run Γ 100000000 n) 15 "_law_take" 2
 c16:aZ Pg w K mg base n (run Γ 100000000 n) 16 "_law_way" 2
 Xe:aZ Pg w K mg base n (run Γ 100000000 n) 17 "_law_net" 1
 Xf:aZ Pg w K mg base n (run Γ 100000000 n) 18 "_law_folded" 2
 Xg:aZ Pg w K mg base n (run Γ 100000000 n) 19 "_law_walks_told" 2
 Xh:aZ Pg w K mg base n (run Γ 100000000 n) 20 "_law_none_sooner" 2
 c21:aZ Pg w K mg base n (run Γ 100000000 n) 21 "_law_least" 2
 Xi:aZ Pg w K mg base n (run Γ 100000000 n) 22 "_law_parted_alike" 4
 c23:aZ Pg w K mg base n (run Γ 100000000 n) 23 "law" 1
 x11:pM Pg w K mg base cl n (run Γ 100000000 n) 11 "all_walks" 1
set_option maxHeartbeats 0 in
theorem Dw{Pg:Program}{w:World}{K:PySem.W.Frag}{mg:Str->Option Value}{base:Heap}(T:Txt K)(X:K.In base)(G:base.Ns mainGlobals mg):∀n,Oks Pg w K mg base (lE T) n
 |0=>{
   c0:=cu (ps:=["net","place"]) X G T.D0 rfl ‹jz λ_ _=>rfl›
   c1:=cu (ps:=["net","number"]) X G T.D1 rfl ‹jz λ_ _=>rfl›
   c2:=cu (ps:=["net"]) X G T.D2 rfl ‹wL λ_=>rfl›
   c3:=cu (ps:=["end","place"]) X G T.D3 rfl ‹jz λ_ _=>rfl›
   c4:=cu (ps:=["net","number","hours"]) X G T.D4 rfl ‹RG λ_ _ _=>rfl›
   c5:=cu (ps:=["net","start"]) X G T.D5 rfl ‹jz λ_ _=>rfl›
   c6:=cu (ps:=["net"]) X G T.D6 rfl ‹wL λ_=>rfl›
   c7:=cu (ps:=["net","place"]) X G T.D7 rfl ‹jz λ_ _=>rfl›
   c8:=cu (ps:=["way","left"]) X G T.D8 rfl ‹jz λ_ _=>rfl›
   c9:=cu (ps:=["net","place"]) X G T.D9 rfl ‹jz λ_ _=>rfl›
   Xb:=cu (ps:=["net","walk","places"]) X G T.D10 rfl ‹RG λ_ _ _=>rfl›
   c11:=cu (ps:=["net"]) X G T.D11 rfl ‹wL λ_=>rfl›
   c12:=cu (ps:=["net","walk"]) X G T.D12 rfl ‹jz λ_ _=>rfl›
   Xc:=cu (ps:=["net","walk"]) X G T.D13 rfl ‹jz λ_ _=>rfl›
   Xd:=cu (ps:=["cell"]) X G T.D14 rfl ‹wL λ_=>rfl›
   Rr:=cu (ps:=["pot","many"]) X G T.D15 rfl ‹jz λ_ _=>rfl›
   c16:=cu (ps:=["pot","many"]) X G T.D16 rfl ‹jz λ_ _=>rfl›
   Xe:=cu (ps:=["pot"]) X G T.D17 rfl ‹wL λ_=>rfl›
   Xf:=cu (ps:=["script","most"]) X G T.D18 rfl ‹jz λ_ _=>rfl›
   Xg:=cu (ps:=["net","told"]) X G T.D19 rfl ‹jz λ_ _=>rfl›
   Xh:=cu (ps:=["net","told"]) X G T.D20 rfl ‹jz λ_ _=>rfl›
   c21:=cu (ps:=["net","told"]) X G T.D21 rfl ‹jz λ_ _=>rfl›
   Xi:=cu (ps:=["net","told","number","hours"]) X G T.D22 rfl ‹XJ λ_ _ _ _=>rfl›
   c23:=cu (ps:=["script"]) X G T.D23 rfl ‹wL λ_=>rfl›
   x11:=Ov (ps:=["net"]) X G T.D11 rfl ‹wL λ_=>rfl›}|n+1=>have a:=Dw (Pg:=Pg) (w:=w) (base:=base) T X G n
   {c0:=cj (ps:=["net","place"]) X G T.D0 rfl rfl ‹jz λ_ _=>rfl› λ_ _ F=>d0 (cl:=lE T) F (mg_none_of X G T.iY)
    c1:=cj (ps:=["net","number"]) X G T.D1 rfl rfl ‹jz λ_ _=>rfl› λ_ _ F=>d1 (cl:=lE T) F (mg_none_of X G T.bH)
    c2:=cj (ps:=["net"]) X G T.D2 rfl rfl ‹wL λ_=>rfl› λ_ _ F=>d2 (cl:=lE T) F (mg_none_of X G T.bT)
    c3:=cj (ps:=["end","place"]) X G T.D3 rfl rfl ‹jz λ_ _=>rfl› λ_ _ F=>d3 (cl:=lE T) F
    c4:=cj (ps:=["net","number","hours"]) X G T.D4 rfl rfl ‹RG λ_ _ _=>rfl› λ_ _ F=>d4 (cl:=lE T) F (mg_none_of X G T.bT) a.c3 a.c1
    c5:=cj (ps:=["net","start"]) X G T.D5 rfl rfl ‹jz λ_ _=>rfl› λ_ _ F=>d5 (cl:=lE T) F
    c6:=cj (ps:=["net"]) X G T.D6 rfl rfl ‹wL λ_=>rfl› λ_ _ F=>d6 (cl:=lE T) F a.c5
    c7:=cj (ps:=["net","place"]) X G T.D7 rfl rfl ‹jz λ_ _=>rfl› λ_ _ F=>d7 (cl:=lE T) F (mg_none_of X G T.xK) (mg_none_of X G T.jC) a.c5 a.c2
    c8:=cj (ps:=["way","left"]) X G T.D8 rfl rfl ‹jz λ_ _=>rfl› λ_ _ F=>d8 (cl:=lE T) F
    c9:=cj (ps:=["net","place"]) X G T.D9 rfl rfl ‹jz λ_ _=>rfl› λ_ _ F=>d9 (cl:=lE T) F (mg_none_of X G T.gh) (mg_none_of X G T.bT) a.c7 a.c8 a.c0
    Xb:=cj (ps:=["net","walk","places"]) X G T.D10 rfl rfl ‹RG λ_ _ _=>rfl› λ_ _ F=>d10 (cl:=lE T) F a.c0
    c11:=cj (ps:=["net"]) X G T.D11 rfl rfl ‹wL λ_=>rfl› λ_ _ F=>d11 (cl:=lE T) F (mg_none_of X G T.bH) (mg_none_of X G T.gj) (T.bC.elim λt e=>⟨t,mg_of X G e⟩) a.Xb
    c12:=cj (ps:=["net","walk"]) X G T.D12 rfl rfl ‹jz λ_ _=>rfl› λ_ _ F=>d12 (cl:=lE T) F (mg_none_of X G T.bH) (mg_none_of X G T.bT)
    Xc:=cj (ps:=["net","walk"]) X G T.D13 rfl rfl ‹jz λ_ _=>rfl› λ_ _ F=>d13 (cl:=lE T) F (mg_none_of X G T.Ed) a.c12
    Xd:=cj (ps:=["cell"]) X G T.D14 rfl rfl ‹wL λ_=>rfl› λ_ _ F=>d14 (cl:=lE T) F (mg_none_of X G T.bN)
    Rr:=cj (ps:=["pot","many"]) X G T.D15 rfl rfl ‹jz λ_ _=>rfl› λ_ _ F=>d15 (cl:=lE T) F
    c16:=cj (ps:=["pot","many"]) X G T.D16 rfl rfl ‹jz λ_ _=>rfl› λ_ _ F=>d16 (cl:=lE T) F (mg_none_of X G T.gh) a.Rr
    Xe:=cj (ps:=["pot"]) X G T.D17 rfl rfl ‹wL λ_=>rfl› λ_ _ F=>d17 (cl:=lE T) F (mg_none_of X G T.bH) (mg_none_of X G T.bN) (mg_none_of X G T.bT) a.Rr a.c16
    Xf:=cj (ps:=["script","most"]) X G T.D18 rfl rfl ‹jz λ_ _=>rfl› λ_ _ F=>d18 (cl:=lE T) F (mg_none_of X G T.bH) (mg_none_of X G T.pg) (mg_none_of X G T.gh) (mg_none_of X G T.bN)
    Xg:=cj (ps:=["net","told"]) X G T.D19 rfl rfl ‹jz λ_ _=>rfl› λ_ _ F=>d19 (cl:=lE T) F (mg_none_of X G T.bN) a.c9 a.Xc a.c12
    Xh:=cj (ps:=["net","told"]) X G T.D20 rfl rfl ‹jz λ_ _=>rfl› λ_ _ F=>d20 (cl:=lE T) F
    c21:=cj (ps:=["net","told"]) X G T.D21 rfl rfl ‹jz λ_ _=>rfl› λ_ _ F=>d21 (cl:=lE T) F (mg_none_of X G T.gh) a.c11 a.Xc (yq X G (Tg T.dX T.lU.choose_spec)) a.x11
    Xi:=cj (ps:=["net","told","number","hours"]) X G T.D22 rfl rfl ‹XJ λ_ _ _ _=>rfl› λ_ _ F=>d22 (cl:=lE T) F a.c4 a.c6
    c23:=cj (ps:=["script"]) X G T.D23 rfl rfl ‹wL λ_=>rfl› λ_ _ F=>d23 (cl:=lE T) F (mg_none_of X G T.bH) (mg_none_of X G T.pg) (mg_none_of X G T.bN) a.Xf a.c21 a.Xe a.Xh a.Xi a.Xd a.Rr a.Xg a.c6 a.c2
    x11:=Lj (ps:=["net"]) X G T.D11 rfl rfl ‹wL λ_=>rfl› λ_ _ F=>YK (cl:=lE T) F (mg_none_of X G T.bH) (mg_none_of X G T.gj) (T.bC.elim λt e=>⟨t,mg_of X G e⟩) a.Xb (yq X G (Tg T.dX T.lU.choose_spec))}
theorem gin{K:PySem.W.Frag}{x:Str}{i:Int}{t:Tok}(a:PySem.W.nsIn K mainGlobals x=some (some (Value.int i t))):∃t,PySem.W.nsIn K mainGlobals x=some (some (Value.int i t)):=⟨t,a⟩
set_option maxHeartbeats 0 in
theorem N8{Pg:Program}{w:World}{K:PySem.W.Frag}{mg:Str->Option Value}{h:Heap}{i:Addr}(T:Txt K)(X:K.In h)(G:h.Ns mainGlobals mg)(g:mg "law"=some (.ref i)):∃fd:FuncData,(∀(s:Shared)(u:Value),BindsTo s fd ⟨[u],[]⟩ [("script",u)])/\∀base:Heap,K.In base->base.Ns mainGlobals mg->gP Pg w K mg base Bt 40 i fd ["script"] (Ey K 1 (run Γ 100000000 40 23)):=by
 obtain⟨f,fd,a,F⟩:=T.D23.ex;have e:=g.symm.trans (mg_of X G a);cases e;refine⟨fd,λs u=>?_,λbase j l=>?_⟩;.obtain⟨q,r,kV,m,pm,t,cdv,ct,o,rfl,lk,p⟩:=F.ex;exact .of_eq rfl
 .have b:=Dw (Pg:=Pg) (w:=w) (base:=base) T j l 39;exact d23 (cl:=lE T) (k:=39) (n:=100000000) (c:=run Γ 100000000 39) F (mg_none_of X G T.bH) (mg_none_of X G T.pg) (mg_none_of X G T.bN) b.Xf b.c21 b.Xe b.Xh b.Xi b.Xd b.Rr b.Xg b.c6 b.c2
end T
open PySem PySem.W PyProof.Rows
set_option maxRecDepth 100000 in
set_option maxHeartbeats 0 in
theorem PySem.Challenge.cw_hourhaul_k11_whole_soonest_is_least_holds : PySem.Challenge.rw_hourhaul_k11_whole_soonest_is_least.Holds := by
 w_on;o_law;k_head;(case hw=>w_witness2);k_fill;refine L2.Dq (l:=PySem.Challenge.rw_hourhaul_k11_whole_soonest_is_least) (n:=63) (k:=40) (x:="script") (CX:=L2.Bt) (sp:=λK=>HH.Ey K 1 (HH.run T.Γ 100000000 40 23)) rfl (by decide) rfl ⟨rfl,by decide,by decide⟩ (λw h Y=>PySem.W.kIn_of Y) ?F ?S ?C;case F=>
  intro w mg j h f G b;refine T.N8 ?T f G b;constructor;iterate 24(· refine' HH.Lk ?a ?l ?c ?k;case a|l|c|k=>k_is)
  iterate 10(· k_is)
  . (refine' T.gin ?a);(case a=>k_is)
  . (refine' HH.Zd ?a);(case a=>k_is)
  . (refine' HH.Od ?ca ?cq);(case ca=>k_is);(case cq=>k_exc)
 case S=>intro K H a ns g m i;obtain⟨as,e⟩:=T.Gs ns g;exact HH.Af i e
 case C=>exact λH s e o z=>z
