import PyProof.Rows.All
import Wide.All
import OpenK.AllK
import Wide.FinOn
import Lean
import PyProof.EqAt
import PyProof.EqKinds
import PyProof.TupleCall
import PySem.Str
import PySem.Builtin.Int.W1All
import PyProof.NeKinds
import PyProof.ZipIter
import PyProof.SumWalkG
import PyProof.MinMaxWalk
import PyProof.WalksMore
import PyProof.SeqI3
import PyProof.WalkInts
import PyProof.Rows.CallKwBuiltin
import PyProof.Rows.Tup
import PyProof.CollectIter
import PyProof.EnumMake
import PyProof.TupleOfSeq
import PyProof.ListNew
import PyProof.ReprLoop
import PyProof.StationsW
import PyProof.ExcClass3
import PyProof.Rows.CatchBare
import OpenK.KOwn
import KE.KIsAll
import PyProof.NsDelKeeps
import PyProof.RulesAs
import PyProof.ExcArgsOwn
import PyProof.ListRange
import KE.RegKIsAll
import KE.KRevIter
import PyProof.Rows.SortRuns
import KE.KSortTup
import PyProof.DictWalks
import KE.KDictList
import KE.KItemsList
import PyProof.ExcBaseAll.ValueError
import PySem.Challenge.RW_hourhaul_k89_worths_losses_gaps
set_option Elab.async false
set_option linter.all false
set_option maxRecDepth 100000
set_option genInjectivity false
set_option genSizeOf false
set_option compiler.extract_closed false
set_option bootstrap.genMatcherCode false
open List(replicate getElem?_set_ne getElem?_set_self mem_cons size_toArray mem_map map_cons length_map mem_singleton map_map mem_of_getElem? mem_cons_of_mem length_cons mem_append length_append nodup_cons getElem?_append_left getElem?_map all_eq_true mem_append_right append_nil lookup_cons find?_cons append_assoc mem_append_left map_congr_left mem_cons_self getElem?_append_right replicate_succ getElem_mem map_append filterMap_cons foldl map_nil any_cons length_range length_take getElem?_replicate drop_eq_getElem_cons cons_append toArray nodup_append mem_filter reverse_cons flatten_cons drop_eq_nil_iff ext_getElem all_cons getElem?_set map any_eq_true of_mem_zip nil_append length_nil map_set sum_cons)
open PySem.W(mg_none_of kitOne mg_of keepIn methodObj KitX kitx_dict kia_one)
open PySem.Heap(lt_size get?_push_of_some get?_push_size get?_update_other size_push get?_update_self get?_none_of_le SameBut)
open Nat(le_refl ne_of_lt lt_of_lt_of_le zero_le le_trans lt_irrefl le_of_lt zero_add le_succ)
open PySem.Builtin.Tuple(tupleExact tupleItemsOf)
open Option(map_eq_some_iff bind_some bind_eq_some_iff isSome_map getD_none)
open PySem.Builtin.SmallTypes(nextOf)
open Bool(and_eq_true false_eq_true or_eq_true not_eq_true')
open PySem.Builtin.Slice(slicePlaces sliceAdjust sliceApplied)
open PySem.Builtin.List(listTooLong listExtendWith listLengthHint listSameRef)
open Array(length_toList toList)
open PySem.F(slot_tuple_add entry_tuple_add args_tuple_add_2 slot_tuple_mul plainAttrs_list slot_dict_get)
open PySem.SeqAt.EqAt(int_str str_int)
open PySem.SeqAt.RcAt(lists_lengths)
open Int(sub_zero mul_comm mul_one mul_add mul_neg)
open PySem.SeqAt.RcNeAt(none_int none_str bool_int bool_str int_none int_bool int_int int_list str_none str_bool str_str str_list list_int list_str)
theorem gY{h:PySem.Heap}{o b:PySem.Obj}{a:PySem.Addr}(e:h.get? a=some o):(h.push b).get? a=some o:=PySem.Heap.get?_push_of_some _ e
theorem eV{b:Type}{l:List b}{i:Nat}{a:b}(h:l[i]?=some a):∃h:i<l.length,l[i]=a:=List.getElem?_eq_some_iff.mp h
theorem fL{b:Type}{l:List b}{i j:Nat}{a:b}(h:j≠i):(l.set i a)[j]?=l[j]?:=List.getElem?_set_ne (Ne.symm h)
theorem wB{n:Nat}:0<=n:=Nat.zero_le n
theorem eG{n:Nat}:n<=n:=Nat.le_refl n
namespace _L
open PySem Spec PyProof.Rows
variable{w:World}{h:Heap}{t' i:Nat}{M:Model}{A:Around}{s:Shared}{pos:Pos}{pins:List (Addr×Obj)}{op:CmpOp}{K:PySem.W.Frag}{tg:Expr}{us:List Value}
noncomputable abbrev Key:=Sum Int Str
noncomputable def qj:Key->Value->Bool|.inl k,v=>Value.isInt k v|.inr x,v=>Value.isStrOf x v
noncomputable def aeb(w:World):Key->Int|.inl k=>hashInt k|.inr x=>hashStr w x
theorem bF:∀{k:Key}{v:Value},qj k v=true->(∃i t,k=Sum.inl i/\v=Value.int i t)\/(∃x t,k=Sum.inr x/\v=Value.str x t)|.inl i,v,h=>by obtain⟨t,e⟩:=Value.isInt_shape (k:=i) (v:=v) h;exact .inl ⟨i,t,rfl,e⟩|.inr x,v,h=>by obtain⟨t,e⟩:=Value.isStrOf_shape (x:=x) (v:=v) h;exact .inr ⟨x,t,rfl,e⟩
theorem Gr(i:Int)(t:Tok):qj (.inl i) (.int i t)=true:=by simp[qj,Value.isInt]
theorem Gk(x:Str)(t:Tok):qj (.inr x) (.str x t)=true:=by simp[qj,Value.isStrOf]
theorem V4(a b:Int):decide ((Sum.inl a:Key)=Sum.inl b)=(a==b):=by
 by_cases e:a=b;.subst e;simp
 .have h:¬(Sum.inl a:Key)=Sum.inl b:=λq=>e (Sum.inl.inj q);rw[decide_eq_false h];exact(beq_eq_false_iff_ne.mpr e).symm
theorem T9(a b:Str):decide ((Sum.inr a:Key)=Sum.inr b)=decide (a=b):=by
 by_cases e:a=b;.subst e;simp
 .have h:¬(Sum.inr a:Key)=Sum.inr b:=λq=>e (Sum.inr.inj q);rw[decide_eq_false h,decide_eq_false e]
theorem Tz(a:Int)(b:Str):decide ((Sum.inl a:Key)=Sum.inr b)=false:=decide_eq_false (λq=>nomatch q)
theorem Uo(a:Str)(b:Int):decide ((Sum.inr a:Key)=Sum.inl b)=false:=decide_eq_false (λq=>nomatch q)
noncomputable def bh(prog:Program)(w:World):PySem.KeyKind prog w Key where
 is:=qj;hash:=aeb w;inj:=λv a b g f=>by
  rcases bF g with⟨i,t,rfl,rfl⟩|⟨x,t,rfl,rfl⟩
  . rcases bF f with⟨j,u,rfl,e⟩|⟨y,u,rfl,e⟩;.injection e with e1 _;rw[e1]
    .exact nomatch e
  . rcases bF f with⟨j,u,rfl,e⟩|⟨y,u,rfl,e⟩;.exact nomatch e
    .injection e with e1 _;rw[e1]
 byValue:=λk v h=>by rcases bF h with⟨i,t,rfl,rfl⟩|⟨x,t,rfl,rfl⟩<;>rfl
 pyHash:=λc h=>by
  rcases bF c with⟨i,t,rfl,rfl⟩|⟨x,t,rfl,rfl⟩;.exact wpAny_pyHash_int h
  .exact wpAny_pyHash_str h
 eqBool:=λl c h=>by
  rcases bF l with⟨i,t,rfl,rfl⟩|⟨x,t,rfl,rfl⟩
  . rcases bF c with⟨j,u,rfl,rfl⟩|⟨y,u,rfl,rfl⟩;.rw[V4]at h;exact wpAny_eqBool_int h
    .rw[Tz]at h;exact int_str i t y u _ _ _ _ h
  . rcases bF c with⟨j,u,rfl,rfl⟩|⟨y,u,rfl,rfl⟩;.rw[Uo]at h;exact str_int x t j u _ _ _ _ h
    .rw[T9]at h;exact wpAny_eqBool_str h
 «strs»:=λk x t v h=>by
  rcases bF h with⟨i,u,rfl,e⟩|⟨y,u,rfl,e⟩;.exact nomatch e
  .injection e with e1 _;subst e1;cases v<;>rfl
theorem yW(prog:Program)(w:World)(i:Int)(t:Tok):(bh prog w).is (.inl i) (.int i t)=true:=Gr i t
theorem yh(prog:Program)(w:World)(x:Str)(t:Tok):(bh prog w).is (.inr x) (.str x t)=true:=Gk x t
inductive V where|non|bl(b:Bool)|int(i:Int)|str(x:Str)|byt(b:Array UInt8)|flt(b:UInt64)|ref(a:Addr)|ty(n:String)deriving DecidableEq
noncomputable def RelV:V->Value->Prop|.non,u=>u=Value.none|.bl b,u=>u=Value.bool b|.int i,u=>∃t,u=Value.int i t|.str x,u=>∃t,u=Value.str x t|.byt b,u=>∃t,u=Value.bytes b t|.flt b,u=>∃t,u=Value.float b t|.ref a,u=>u=Value.ref a|.ty n,u=>u=Value.type n
noncomputable abbrev Vals:List V->List Value->Prop:=Paired RelV
theorem Vals.length{xs:List V}{us:List Value}(r:Vals xs us):xs.length=us.length:=Paired.length r
theorem Vals.get:∀{xs:List V}{us:List Value}{i:Nat}{x:V},Vals xs us->xs[i]?=some x->∃u,us[i]?=some u/\RelV x u|_,_,_,_,.nil,e=>by simp at e|_,_,0,_,.cons r _,e=>by simp at e;subst e;exact⟨_,rfl,r⟩|_,_,i+1,x,.cons _ t,e=>by obtain⟨u,h1,a⟩:=Vals.get (i:=i) (x:=x) t (by simpa using e);exact⟨u,by simpa using h1,a⟩
theorem Vals.set{x:V}{u:Value}(r:RelV x u):∀{xs:List V}{us:List Value}(i:Nat),Vals xs us->Vals (xs.set i x) (us.set i u)|_,_,_,.nil=>.nil|_,_,0,.cons _ t=>.cons r t|_,_,i+1,.cons q t=>.cons q (Vals.set r i t)
theorem Vals.append:∀{xs ys:List V}{us ws:List Value},Vals xs us->Vals ys ws->Vals (xs++ys) (us++ws)|_,_,_,_,.nil,s=>s|_,_,_,_,.cons r t,s=>.cons r (Vals.append t s)
theorem Vals.take:∀{xs:List V}{us:List Value}(n:Nat),Vals xs us->Vals (xs.take n) (us.take n)|_,_,0,_=>.nil|_,_,_+1,.nil=>.nil|_,_,n+1,.cons r t=>.cons r (Vals.take n t)
theorem Vals.drop:∀{xs:List V}{us:List Value}(n:Nat),Vals xs us->Vals (xs.drop n) (us.drop n)|_,_,0,r=>r|_,_,_+1,.nil=>.nil|_,_,n+1,.cons _ t=>Vals.drop n t
noncomputable def qC:Option V->Option Value->Prop|some v,some u=>RelV v u|none,none=>True|_,_=>False
noncomputable def KV{κ:Type}:List (κ×V)->List (κ×Value)->Prop:=Paired λ(p:κ×V)(q:κ×Value)=>p.1=q.1/\RelV p.2 q.2
noncomputable def kV:Key->V|.inl i=>.int i|.inr x=>.str x
inductive HO where|lst(xs:List V)|tup(xs:List V)|dK(kvs:List (Key×V))|dT(kvs:List (List Key×V))|set(S:Int->Bool)(n:Nat)|ins(C dx:Addr)(fs:List (Str×V))|own(x:Addr)|xd(fs:List (Str×V))|met(f x:Addr)|vO(lo hi:Int)|dz(o:Obj)(u:HO)|RL(ps:Array Value)|ext(φ:Heap->Prop)
noncomputable abbrev Hp:=Addr->Option HO
variable{H:Hp}
noncomputable def upd(H:Hp)(a:Addr)(o:HO):Hp:=λb=>if b=a then some o else H b
theorem aL{a:Addr}{o:HO}:upd H a o a=some o:=by unfold upd;rw[if_pos rfl]
theorem aB{a b:Addr}{o:HO}(h:b≠a):upd H a o b=H b:=by unfold upd;rw[if_neg h]
theorem BP{a:Addr}{o u:HO}:upd (upd H a o) a u=upd H a u:=by funext b;unfold upd;split<;>rfl
theorem Yz{a b:Addr}{o u:HO}(h:H a=some o)(h':H b=some u)(d:o≠u):a≠b:=by intro e;subst e;rw[h]at h';exact d (Option.some.inj h')
theorem iu{a b:Addr}{o:HO}(h:H a=some o)(h':H b=none):a≠b:=by intro e;subst e;rw[h]at h';cases h'
section
variable(P:Program)(w:World)
noncomputable def bA(H:Hp)(h:Heap)(a:Addr):HO->Prop|.lst xs=>xs.length<=sizeLine/\∃(b:List Value)(n:Nat),Vals xs b/\h.get? a=some {cls:=.type "list",data:=.seq b.toArray n}|.tup xs=>xs.length<=sizeLine/\∃b:List Value,Vals xs b/\IsTup h a b.toArray|.dK kvs=>kvs.length<=sizeLine/\(a==sysModules)=false/\∃vs,KV kvs vs/\h.DictOf (bh P w) a vs|.dT kvs=>kvs.length<=sizeLine/\(a==sysModules)=false/\∃xs:List (List Key×Addr×Value),Paired (λ(p:List Key×V)(q:List Key×Addr×Value)=>p.1=q.1/\H q.2.1=some (.tup (p.1.map kV))/\RelV p.2 q.2.2) kvs xs/\∃o es ep,h.get? a=some o/\o.ExactDict/\o.data=.dict es ep/\es.toList=xs.map (entryOfKey (tupleKind (bh P w)))/\(xs.map (·.1)).Nodup|.set S n=>h.SetOf (intKind P w) a S n|.ins C e fs=>H e=some (.own a)/\fs.length<=1000/\e≠a/\h.get? a=some (PySem.W.instObj C e)/\∃c,h.Ns1 e c/\(∀f,qC (fs.lookup f) (c f))/\PySem.Within c (fs.map (·.1))|.own _=>∃o,h.get? a=some o|.xd fs=>∃c,h.Ns1 a c/\∀f,qC (fs.lookup f) (c f)|.vO lo hi=>∃t u v,h.get? a=some {cls:=.type "range",data:=.fields #[.int lo t,.int hi u,.int 1 v]}|.dz o u=>h.get? a=some o/\bA H h a u|.RL ps=>h.get? a=some {cls:=.none,data:=.fields ps}|.met f x=>h.get? a=some (methodObj (.ref f) (.ref x))|.ext g=>g h/\(∃o,h.get? a=some o)/\∀h1 j:Heap,g h1->(∀o,h1.get? a=some o->j.get? a=some o)->g j
noncomputable def jT(H:Hp)(h:Heap):Prop:=∀a o,H a=some o->bA P w H h a o
end
section
variable{P:Program}{w:World}{H H':Hp}{h h':Heap}{a:Addr}{o:HO}
theorem bA.lt(x:bA P w H h a o):a<h.objs.size:=by cases o with|lst xs=>obtain⟨_,_,_,_,e⟩:=x;exact lt_size e|tup xs=>obtain⟨_,_,_,p⟩:=x;exact p.lt|dK kvs=>obtain⟨_,_,_,_,o,_,_,e,_⟩:=x;exact lt_size e|dT kvs=>obtain⟨_,_,_,_,o,_,_,e,_⟩:=x;exact lt_size e|set S n=>obtain⟨o,_,_,_,e,_⟩:=x;exact lt_size e|ins C b fs=>obtain⟨_,_,_,e,_⟩:=x;exact lt_size e|own y=>obtain⟨_,e⟩:=x;exact lt_size e|xd fs=>obtain⟨_,⟨_,_,_,e,_⟩,_⟩:=x;exact lt_size e|vO lo hi=>obtain⟨_,_,_,e⟩:=x;exact lt_size e|dz c u=>obtain⟨e,_⟩:=x;exact lt_size e|RL ps=>exact lt_size (show h.get? a=some _ from x)|met f y=>exact lt_size (show h.get? a=some _ from x)|ext g=>obtain⟨_,⟨_,e⟩,_⟩:=x;exact lt_size e
theorem Paired.Vd{g j:Type}{F G:g->j->Prop}:∀{c:List g}{e:List j},Paired F c e->(∀a b,F a b->G a b)->Paired G c e|_,_,.nil,_=>.nil|_,_,.cons r t,f=>.cons (f _ _ r) (Paired.Vd t f)
theorem bA.stay(x:bA P w H h a o)(k:∀b u,(b=a\/H b=some (.own a))->h.get? b=some u->h'.get? b=some u)(ho:∀b,H b=some (.own a)->H' b=some (.own a))(ht:∀b xs,H b=some (.tup xs)->H' b=some (.tup xs)):bA P w H' h' a o:=by induction o with|lst xs=>obtain⟨z,j,n,r,e⟩:=x;exact⟨z,j,n,r,k _ _ (.inl rfl) e⟩|tup xs=>obtain⟨z,j,r,g,e,c⟩:=x;exact⟨z,j,r,g,k _ _ (.inl rfl) e,c⟩|dK kvs=>obtain⟨z,y,vs,r,g,es,ep,e,c⟩:=x;exact⟨z,y,vs,r,g,es,ep,k _ _ (.inl rfl) e,c⟩|dT kvs=>obtain⟨z,y,xs,r,g,es,ep,e,c⟩:=x;exact⟨z,y,xs,Paired.Vd r λp q z=>⟨z.1,ht _ _ z.2.1,z.2.2⟩,g,es,ep,k _ _ (.inl rfl) e,c⟩|set S n=>obtain⟨g,es,ep,t,e,c⟩:=x;exact⟨g,es,ep,t,k _ _ (.inl rfl) e,c⟩|ins C E fs=>obtain⟨d,z,ne,e,l,⟨od,es,ep,m,c⟩,r⟩:=x;exact⟨ho _ d,z,ne,k _ _ (.inl rfl) e,l,⟨od,es,ep,k _ _ (.inr d) m,c⟩,r⟩|own y=>obtain⟨g,e⟩:=x;exact⟨g,k _ _ (.inl rfl) e⟩|xd fs=>obtain⟨l,⟨od,es,ep,e,c⟩,r⟩:=x;exact⟨l,⟨od,es,ep,k _ _ (.inl rfl) e,c⟩,r⟩|vO lo hi=>obtain⟨t,u,v,e⟩:=x;exact⟨t,u,v,k _ _ (.inl rfl) e⟩|dz g u B=>obtain⟨e,q⟩:=x;exact⟨k _ _ (.inl rfl) e,B q⟩|RL ps=>have e:h.get? a=some {cls:=.none,data:=.fields ps}:=x;show h'.get? a=some {cls:=.none,data:=.fields ps};exact k a _ (.inl rfl) e|met f y=>have e:h.get? a=some (methodObj (.ref f) (.ref y)):=x;show h'.get? a=some (methodObj (.ref f) (.ref y));exact k a _ (.inl rfl) e|ext G=>obtain⟨p,⟨o,e⟩,st⟩:=x;exact⟨st _ _ p λo q=>k _ _ (.inl rfl) q,⟨o,k _ _ (.inl rfl) e⟩,st⟩
theorem jT.lt(x:jT P w H h)(e:H a=some o):a<h.objs.size:=(x a o e).lt
theorem jT.fresh(x:jT P w H h)(e:h.objs.size<=a):H a=none:=by cases q:H a with|none=>rfl|some u=>exact absurd (lt_of_lt_of_le (x.lt q) e) (lt_irrefl _)
theorem jT.kept(x:jT P w H h)(k:∀b u,h.get? b=some u->h'.get? b=some u):jT P w H h':=λa o e=>(x a o e).stay (λb u _ q=>k b u q) (λ_ q=>q) λ_ _ q=>q
theorem jT.laid(x:jT P w H h)(k:∀b u,h.get? b=some u->h'.get? b=some u)(j:h.objs.size<=a)(new:bA P w (upd H a o) h' a o):jT P w (upd H a o) h':=λb u e=>by
 have f:=x.fresh j;by_cases g:b=a;.subst g;rw[aL]at e;cases e;exact new
 .rw[aB g]at e;exact(x b u e).stay (λc v _ q=>k c v q) (λc q=>by rw[aB (iu q f)];exact q) λc xs q=>by rw[aB (iu q f)];exact q
end
noncomputable def Rd(H:Hp)(a:Addr)(u:HO):Prop:=H a=some u\/∃o,H a=some (.dz o u)
theorem Rd.ok{P:Program}{a:Addr}{u:HO}(r:Rd H a u)(x:jT P w H h):bA P w H h a u:=by
 rcases r with r|⟨o,r⟩;.exact x a u r
 .obtain⟨_,q⟩:=x a _ r;exact q
noncomputable def YC:Option HO->Prop|some (.lst _)=>True|some (.dK _)=>True|some (.dT _)=>True|some (.set _ _)=>True|some (.ins _ _ _)=>True|some (.ext _)=>True|_=>False
section
variable{P:Program}{w:World}{H:Hp}{h h':Heap}{x e:Addr}{o':HO}
theorem jT.write(ok:jT P w H h)(g:YC (H x))(he:e=x\/H e=some (.own x))(k:∀b u,b≠e->h.get? b=some u->h'.get? b=some u)(l:∃u,h'.get? e=some u)(new:bA P w (upd H x o') h' x o'):jT P w (upd H x o') h':=λb u q=>by
 have f:∀c y,H c=some (.own y)->c≠x:=λc y r z=>by subst z;rw[r]at g;exact g
 have m:∀c xs,H c=some (.tup xs)->c≠x:=λc xs r z=>by subst z;rw[r]at g;exact g
 by_cases j:b=x;.subst j;rw[aL]at q;cases q;exact new
 . rw[aB j]at q;by_cases a:b=e
   . have n:H b=some (.own x):=by
      rcases he with z|z;.exact absurd (a.trans z) j
      .rw[a];exact z
     rw[q]at n;cases n;obtain⟨v,o⟩:=l;exact⟨v,by rw[a];exact o⟩
   . refine(ok b u q).stay (λc v hc r=>k c v ?_ r) (λc r=>by rw[aB (f c b r)];exact r) λc xs r=>by rw[aB (m c xs r)];exact r
     rcases hc with rfl|hc;.exact a
     . rintro rfl;rcases he with z|z;.exact f c b hc z
       .rw[hc]at z;cases z;exact j rfl
end
structure Un(fs ex:List Addr)(H H':Hp)(h h':Heap):Prop where
 keep:∀b o,h.get? b=some o->H b=none->b∉fs->b∉ex->h'.get? b=some o
 slot:∀b o,h.get? b=some o->H b=none->b∈fs->b∉ex->∃sl,h'.get? b=some {o with slots:=sl}free:∀b o,h.get? b=some o->H b=none->b∉ex->H' b=none
 there:∀b o,h.get? b=some o->b∉ex->∃o',h'.get? b=some o'
 tups:∀b xs,H b=some (.tup xs)->H' b=some (.tup xs)qI:∀b o u,H b=some (.dz o u)->H' b=some (.dz o u)uB:∀b ps,H b=some (.RL ps)->∃more,H' b=some (.RL (ps++more))
section
variable{fs fs' ex ex':List Addr}{H H1 H2:Hp}{h h1 h2 h':Heap}{a x e:Addr}{o:HO}
theorem Un.any(u:Un fs ex H H1 h h1){b:Addr}{c:Obj}(q:h.get? b=some c)(n:H b=none)(f:b∉ex):∃sl,h1.get? b=some {c with slots:=sl}:=by
 by_cases g:b∈fs;.exact u.slot b c q n g f
 .exact⟨c.slots,u.keep b c q n g f⟩
theorem Un.kept(k:∀b u,h.get? b=some u->h'.get? b=some u):Un fs ex H H h h':=⟨λb c q _ _ _=>k b c q,λb c q _ _ _=>⟨c.slots,k b c q⟩,λ_ _ _ n _=>n,λb c q _=>⟨c,k b c q⟩,λ_ _ q=>q,λ_ _ _ q=>q,λ_ ps q=>⟨#[],by rw[q];simp⟩⟩
theorem Un.refl:Un fs ex H H h h:=Un.kept λ_ _ q=>q
theorem Un.laid(k:∀b u,h.get? b=some u->h'.get? b=some u)(f:h.objs.size<=a)(c:H a=none):Un fs ex H (upd H a o) h h' where
 keep:=λb u q _ _ _=>k b u q;slot:=λb u q _ _ _=>⟨u.slots,k b u q⟩;free:=λb u q n _=>by rw[aB (ne_of_lt (lt_of_lt_of_le (lt_size q) f))];exact n
 there:=λb u q _=>⟨u,k b u q⟩;tups:=λb xs q=>by rw[aB (iu q c)];exact q
 qI:=λb u xs q=>by rw[aB (iu q c)];exact q
 uB:=λb ps q=>⟨#[],by rw[aB (iu q c),q];simp⟩
theorem Un.write(f:YC (H x))(he:e=x\/H e=some (.own x))(k:∀b u,b≠e->h.get? b=some u->h'.get? b=some u)(g:∃u,h'.get? e=some u):Un fs ex H (upd H x o) h h':=by
 have l:∀b,H b=none->b≠x:=λb n z=>by subst z;rw[n]at f;exact f
 have m:∀b,H b=none->b≠e:=λb n z=>by
  subst z;rcases he with r|r;.exact l b n r
  .rw[n]at r;cases r
 have j:∀b u,H b=some u->¬ YC (some u)->b≠x:=λb u q nm z=>by subst z;rw[q]at f;exact nm f
 refine⟨λb u q n _ _=>k b u (m b n) q,λb u q n _ _=>⟨u.slots,k b u (m b n) q⟩,λb u q n _=>by rw[aB (l b n)];exact n,λb u q _=>?_,λb xs q=>by rw[aB (j b _ q λz=>z)];exact q,λb u xs q=>by rw[aB (j b _ q λz=>z)];exact q,λb ps q=>⟨#[],by rw[aB (j b _ q λz=>z),q];simp⟩⟩;by_cases c:b=e;.subst c;exact g
 .exact⟨u,k b u c q⟩
end
noncomputable def trk(h:Heap)(H:Hp):List Addr:=(List.range h.objs.size).filter λa=>(H a).isSome
noncomputable def vY(h:Heap)(H:Hp):Heap:=PySem.W.hideAll h (trk h H)
theorem Ff(h:Heap)(H:Hp):(vY h H).objs.size=h.objs.size:=PySem.W.hideAll_size _ _
theorem Hu{b:Addr}{o:Obj}(e:h.get? b=some o)(n:H b=none):(vY h H).get? b=some o:=PySem.W.hideAll_get _ e λa=>by have q:(H b).isSome=true:=(mem_filter.mp a).2;rw[n]at q;simp at q
theorem M8{b:Addr}{o:Obj}(e:(vY h H).get? b=some o):h.get? b=some o/\H b=none:=by have a:h.get? b=some o:=PySem.W.of_hideAll (trk h H) e;refine⟨a,?_⟩;cases q:H b with|none=>rfl|some x=>have c:b∈trk h H:=mem_filter.mpr ⟨List.mem_range.mpr (lt_size a),by simp[q]⟩;have z:(vY h H).get? b=none:=PySem.W.hideAll_none (trk h H) c;rw[z]at e;cases e
structure Mod(K:PySem.W.Frag)(mg:Str->Option Value)(base:Heap):Prop where
 qX:K.In base
 glob:base.Ns mainGlobals mg
 blt:∃mb,base.Ns builtinsNs mb/\∀x:Str,x≠"__name__"->mb x=bootBuiltins x
 nolimit:base.NoLimit
structure Cx where
 prog:Program
 w:World
 K:PySem.W.Frag
 mg:Str->Option Value
 base:Heap
 A:Around
 N:List Str
 s₀:Shared
 H₀:Hp
 env:Env
 outer:List Env
 stack:List Env
 ex:List Addr
 fn:Str->Bool
 calm:Bool
 pn:List (Addr×Obj)xe:Value->Shared->Prop
variable{X:Cx}
noncomputable def frs(l:List Env):List Addr:=l.filterMap (·.frame)
noncomputable abbrev Cx.fs(X:Cx):List Addr:=frs X.outer
noncomputable def vC(a:Scope)(x:Str):Prop:=a.names.lookup x=some .local\/a.names.lookup x=some .cell\/a.names.lookup x=some .free
noncomputable def Loc(a:Scope)(x:Str):Prop:=a.names.lookup x=some .local\/a.names.lookup x=some .cell
noncomputable def Look(env:Env)(h:Heap)(m:Str->Option Value)(x:Str)(u:Value):Prop:=(env.kindOf x=some .local/\m x=some u)\/((env.kindOf x=some .cell\/env.kindOf x=some .free)/\∃c,env.cells.lookup x=some c/\h.IsCell c (some u))
structure Cx.Ok(X:Cx):Prop where
 mod:Mod X.K X.mg X.base
 kind:X.env.scope.kind=.function
 glob:X.env.globals=mainGlobals
 blt:X.env.builtins=builtinsNs
 above:X.s₀.heap.objs.size<=X.env.locals
 inj:∀x y c,X.env.cells.lookup x=some c->X.env.cells.lookup y=some c->x=y
 has:∀x,(X.env.kindOf x=some .cell\/X.env.kindOf x=some .free)->∃c,X.env.cells.lookup x=some c
 cab:∀x c,X.fn x=true->X.env.cells.lookup x=some c->X.s₀.heap.objs.size<=c
 hd:X.calm=true->X.A.handled=none
 frames:X.A.frames=some X.stack
 RM:X.stack=X.outer\/(X.stack=X.env::X.outer/\X.env.frame=some X.env.locals)Ym:∀b∈X.ex,b≠X.env.locals/\∀x c,X.env.cells.lookup x=some c->c≠b
 bs:∀b o,X.base.get? b=some o->X.s₀.heap.get? b=some o/\X.H₀ b=none
 G3:X.base.objs.size<=X.s₀.heap.objs.size
 xH:∀b o,X.base.get? b=some o->b∉X.ex
 zm:∀b∈X.ex,b∉X.fs
 mW:X.s₀.heap.FunFrames X.base X.outer
 Ml:∀b∈X.fs,X.H₀ b=none
structure Inv(X:Cx)(pins:List (Addr×Obj))(σ:List (Option V))(H:Hp)(s:Shared):Prop where
 ok:X.Ok
 os:s.os=X.s₀.os
 bare:AllBare s.gens
 base:Un X.fs X.ex X.H₀ H X.s₀.heap s.heap
 loc:∃m,s.heap.Ns X.env.locals m/\∀(i:Nat)(x:Str)(v:V),X.N[i]?=some x->σ[i]?=some (some v)->vC X.env.scope x->∃u,RelV v u/\Look X.env s.heap m x u
 cell:∀x c,X.env.cells.lookup x=some c->∃v,s.heap.IsCell c v
 free:H X.env.locals=none
 gk:∀x c,X.env.cells.lookup x=some c->H c=none
 pin:∀p∈X.pn++pins,s.heap.get? p.1=some p.2/\H p.1=none/\p.1≠X.env.locals/\p.1∉X.fs/\∀v,p.2.data≠.cell v
 hok:jT X.prog X.w H s.heap
 len:σ.length=X.N.length
section
variable{X:Cx}{pins:List (Addr×Obj)}{σ:List (Option V)}{H H':Hp}{s:Shared}{h':Heap}
theorem Cx.Ok.Og(ok:X.Ok){b:Addr}{o:Obj}(e:X.base.get? b=some o):b∉X.fs:=λa=>by have:=(ok.mW.mem a).1;rw[e]at this;cases this
theorem Inv.bs(I:Inv X pins σ H s):∀b o,X.base.get? b=some o->s.heap.get? b=some o/\H b=none:=λb o e=>⟨I.base.keep b o (I.ok.bs b o e).1 (I.ok.bs b o e).2 (I.ok.Og e) (I.ok.xH b o e),I.base.free b o (I.ok.bs b o e).1 (I.ok.bs b o e).2 (I.ok.xH b o e)⟩
theorem Inv.bk(I:Inv X pins σ H s):∀b o,X.base.get? b=some o->s.heap.get? b=some o:=λb o e=>(I.bs b o e).1
theorem Inv.mod(I:Inv X pins σ H s):Mod X.K X.mg X.base:=I.ok.mod
theorem Inv.Mh(I:Inv X pins σ H s):X.K.In s.heap:=I.ok.mod.qX.keeps I.bk
theorem Inv.lt(I:Inv X pins σ H s):X.env.locals<s.heap.objs.size:=let⟨_,hn,_⟩:=I.loc;hn.lt
theorem Inv.sz(I:Inv X pins σ H s):X.s₀.heap.objs.size<=s.heap.objs.size:=le_trans I.ok.above (le_of_lt I.lt)
theorem Inv.afy(I:Inv X pins σ H s){a:Addr}(h:s.heap.objs.size<=a):a∉X.fs:=λb=>by obtain⟨_,o,ho,_⟩:=I.ok.mW.mem b;exact absurd (lt_of_lt_of_le (lt_size ho) (le_trans I.sz h)) (lt_irrefl _)
theorem Inv.Iz(I:Inv X pins σ H s):∀x c,X.env.cells.lookup x=some c->c≠X.env.locals:=λx c e z=>by obtain⟨v,o,ho,hd⟩:=I.cell x c e;obtain⟨m,⟨f,es,ep,a,b,_⟩,_⟩:=I.loc;rw[z,a]at ho;cases ho;rw[b]at hd;cases hd
theorem Inv.mW(I:Inv X pins σ H s):s.heap.FunFrames X.base X.outer:=by
 have all:∀(l:List Env),(∀b∈frs l,b∈X.fs)->X.s₀.heap.FunFrames X.base l->s.heap.FunFrames X.base l:=by intro l;induction l with|nil=>intro _ _;trivial|cons env r g=>intro hs j;obtain⟨k,⟨L,o,a,m,ho,hd⟩,hr⟩:=j;have c:L∈X.fs:=hs L (by unfold frs;rw[filterMap_cons,a];exact mem_cons_self);obtain⟨sl,e⟩:=I.base.slot L o ho (I.ok.Ml L c) c λz=>I.ok.zm L z c;exact⟨k,⟨L,_,a,m,e,hd⟩,g (λb f=>hs b (by unfold frs;rw[filterMap_cons,a];exact mem_cons_of_mem _ f)) hr⟩
 exact all X.outer (λ_ f=>f) I.ok.mW
theorem Inv.stack(I:Inv X pins σ H s):s.heap.FunFrames X.base X.stack:=by
 rcases I.ok.RM with e|⟨e,a⟩;.rw[e];exact I.mW
 .rw[e];obtain⟨m,b,_⟩:=I.loc;refine .cons (by rw[I.ok.kind];decide) a b ?_ I.mW;exact get?_none_of_le (le_trans I.ok.G3 I.ok.above)
theorem Inv.rN(I:Inv X pins σ H s):∀b∈frs X.stack,b∈X.env.locals::X.fs:=λb a=>by
 rcases I.ok.RM with e|⟨e,c⟩;.rw[e]at a;exact mem_cons_of_mem _ a
 .rw[e]at a;unfold frs at a;rw[filterMap_cons,c]at a;exact a
theorem Inv.qQ(I:Inv X pins σ H s):∀b∈frs X.stack,H b=none:=λb hb=>by
 rcases mem_cons.mp (I.rN b hb)with e|hb;.rw[e];exact I.free
 .obtain⟨_,o,ho,_⟩:=I.ok.mW.mem hb;exact I.base.free b o ho (I.ok.Ml b hb) λz=>I.ok.zm b z hb
theorem Inv.step{g':Array GenState}{d':Drawn}{ch:List Addr}(I:Inv X pins σ H s)(f:∀b∈ch,(b∈X.ex\/X.s₀.heap.objs.size<=b)/\b≠X.env.locals/\(∀x c,X.env.cells.lookup x=some c->c≠b)/\∀p∈X.pn++pins,p.1≠b)(keep:∀b o,b≠X.env.locals->b∉X.fs->b∉ch->s.heap.get? b=some o->H b=none->h'.get? b=some o)(slot:∀b o,b≠X.env.locals->b∈X.fs->b∉ch->s.heap.get? b=some o->H b=none->∃sl,h'.get? b=some {o with slots:=sl})(free:∀b o,b∉ch->s.heap.get? b=some o->H b=none->H' b=none)(there:∀b o,b∉ch->s.heap.get? b=some o->∃B,h'.get? b=some B)(tups:∀b xs,H b=some (.tup xs)->H' b=some (.tup xs))(qI:∀b o u,H b=some (.dz o u)->H' b=some (.dz o u))(uB:∀b ps,H b=some (.RL ps)->∃more,H' b=some (.RL (ps++more)))(ns:∀m,s.heap.Ns X.env.locals m->h'.Ns X.env.locals m)(hok:jT X.prog X.w H' h')(O:AllBare g'):Inv X pins σ H' {s with heap:=h',gens:=g',drawn:=d',toks:=t'}:=by
 have C:∀b o,X.s₀.heap.get? b=some o->b≠X.env.locals:=λb o e=>ne_of_lt (lt_of_lt_of_le (lt_size e) I.ok.above);have j:∀b o,X.s₀.heap.get? b=some o->b∉X.ex->b∉ch:=λb o e a y=>by
  rcases(f b y).1 with z|z;.exact a z
  .exact absurd (lt_of_lt_of_le (lt_size e) z) (lt_irrefl _)
 have g:∀x c,X.env.cells.lookup x=some c->∀v,s.heap.IsCell c v->h'.IsCell c v:=λx c e v⟨o,ho,hd⟩=>by
  have E:c∉ch:=λz=>(f c z).2.2.1 x c e rfl;by_cases hc:c∈X.fs;.obtain⟨sl,q⟩:=slot c o (I.Iz x c e) hc E ho (I.gk x c e);exact⟨_,q,hd⟩
  .exact⟨o,keep c o (I.Iz x c e) hc E ho (I.gk x c e),hd⟩
 refine⟨I.ok,I.os,O,⟨λb o e n y a=>?_,λb o e n y a=>?_,λb o e n a=>?_,λb o e a=>?_,λb xs e=>tups b xs (I.base.tups b xs e),λb o xs e=>qI b o xs (I.base.qI b o xs e),λb ps e=>?_⟩,?_,λx c e=>?_,?_,λx c e=>?_,λp L=>?_,hok,I.len⟩;.exact keep b o (C b o e) y (j b o e a) (I.base.keep b o e n y a) (I.base.free b o e n a)
 .obtain⟨sl,t⟩:=I.base.slot b o e n y a;obtain⟨J,G⟩:=slot b _ (C b o e) y (j b o e a) t (I.base.free b o e n a);exact⟨J,G⟩
 .obtain⟨B,t⟩:=I.base.there b o e a;exact free b B (j b o e a) t (I.base.free b o e n a)
 .obtain⟨B,t⟩:=I.base.there b o e a;exact there b B (j b o e a) t
 .obtain⟨m1,t⟩:=I.base.uB b ps e;obtain⟨Q,G⟩:=uB b _ t;exact⟨m1++Q,by rw[G,Array.append_assoc]⟩
 . obtain⟨m,U,W⟩:=I.loc;refine⟨m,ns m U,λi x v t G Y=>?_⟩;obtain⟨u,r,l⟩:=W i x v t G Y;refine⟨u,r,?_⟩;rcases l with l|⟨k,c,e,z⟩;.exact .inl l
   .exact .inr ⟨k,c,e,g x c e _ z⟩
 .obtain⟨v,z⟩:=I.cell x c e;exact⟨v,g x c e v z⟩
 .obtain⟨m,⟨o,_,_,ho,_⟩,_⟩:=I.loc;exact free _ o (λz=>(f _ z).2.1 rfl) ho I.free
 .obtain⟨v,o,ho,hd⟩:=I.cell x c e;exact free c o (λz=>(f c z).2.2.1 x c e rfl) ho (I.gk x c e)
 .obtain⟨e,n,ne,N,d⟩:=I.pin p L;have E:p.1∉ch:=λz=>(f p.1 z).2.2.2 p L rfl;exact⟨keep p.1 p.2 ne N E e n,free p.1 p.2 E e n,ne,N,d⟩
theorem Inv.un(I:Inv X pins σ H s)(u:Un X.fs [] H H' s.heap h')(hok:jT X.prog X.w H' h'):Inv X pins σ H' {s with heap:=h',toks:=t'}:=by obtain⟨m,⟨o,es,ep,ho,r⟩,_⟩:=id I.loc;obtain⟨sl,j⟩:=u.any ho I.free (by simp);exact I.step (g':=s.gens) (d':=s.drawn) (ch:=[]) (λ_ z=>nomatch z) (λb o _ c _ e n=>u.keep b o e n c (by simp)) (λb o _ c _ e n=>u.slot b o e n c (by simp)) (λb o _ e n=>u.free b o e n (by simp)) (λb o _ e=>u.there b o e (by simp)) u.tups u.qI u.uB (λp k=>by obtain⟨q,f,g,a,l⟩:=k;rw[ho]at a;cases a;exact⟨_,f,g,j,l⟩) hok I.bare
theorem Inv.call{g':Array GenState}{d':Drawn}{ch:List Addr}(I:Inv X pins σ H s)(u:Un (frs X.stack) ch H H' s.heap h')(hok:jT X.prog X.w H' h')(l:AllBare g')(a:∀b∈ch,(b∈X.ex\/X.s₀.heap.objs.size<=b)/\b≠X.env.locals/\(∀x c,X.env.cells.lookup x=some c->c≠b)/\∀p∈X.pn++pins,p.1≠b):Inv X pins σ H' {s with heap:=h',gens:=g',drawn:=d',toks:=t'}:=by obtain⟨m,⟨o,es,ep,ho,r⟩,_⟩:=id I.loc;obtain⟨sl,g⟩:=u.any ho I.free λz=>(a _ z).2.1 rfl;exact I.step (ch:=ch) a (λb o g q hc e n=>u.keep b o e n (λz=>(mem_cons.mp (I.rN b z)).elim g q) hc) (λb o _ _ hc e n=>u.any e n hc) (λb o hc e n=>u.free b o e n hc) (λb o hc e=>u.there b o e hc) u.tups u.qI u.uB (λy t=>by obtain⟨B,j,k,f,v⟩:=t;rw[ho]at f;cases f;exact⟨_,j,k,g,v⟩) hok l
theorem Inv.turned{it:Addr}(I:Inv X pins σ H s)(k:∀b o,b≠it->s.heap.get? b=some o->h'.get? b=some o)(g:H it=none)(f:it≠X.env.locals)(h1:it∈X.ex\/X.s₀.heap.objs.size<=it)(j:∀x c,X.env.cells.lookup x=some c->c≠it)(l:∀p∈X.pn++pins,p.1≠it):Inv X pins σ H {s with heap:=h',toks:=t'}:=by
 have a:∀b u,H b=some u->b≠it:=λb u e z=>by rw[z,g]at e;cases e
 refine I.step (g':=s.gens) (d':=s.drawn) (ch:=[it]) (λb t=>?_) (λb o _ _ hc e _=>k b o (λz=>hc (by simp[z])) e) (λb o _ _ hc e _=>⟨o.slots,k b o (λz=>hc (by simp[z])) e⟩) (λ_ _ _ _ n=>n) (λb o hc e=>⟨o,k b o (λz=>hc (by simp[z])) e⟩) (λ_ _ e=>e) (λ_ _ _ e=>e) (λb ps e=>⟨#[],by rw[e];simp⟩) (λm y=>?_) (λb u e=>?_) I.bare
 . have e:b=it:=by simpa using t
   subst e;exact⟨h1,f,j,l⟩
 .obtain⟨o,es,ep,ho,r⟩:=y;exact⟨o,es,ep,k _ o (Ne.symm f) ho,r⟩
 . refine(I.hok b u e).stay (λc v hc q=>k c v ?_ q) (λ_ q=>q) λ_ _ q=>q;rcases hc with z|z;.rw[z];exact a b u e
   .exact a c _ z
theorem Inv.tok(I:Inv X pins σ H s)(t:Nat):Inv X pins σ H {s with toks:=t}:=I.un (h':=s.heap) (t':=t) Un.refl I.hok
theorem Inv.kept{t':Nat}(I:Inv X pins σ H s)(k:∀b u,s.heap.get? b=some u->h'.get? b=some u):Inv X pins σ H {s with heap:=h',toks:=t'}:=I.un (Un.kept k) (I.hok.kept k)
theorem Inv.laid{a:Addr}{o:HO}{t':Nat}(I:Inv X pins σ H s)(k:∀b u,s.heap.get? b=some u->h'.get? b=some u)(c:s.heap.objs.size<=a)(new:bA X.prog X.w (upd H a o) h' a o):Inv X pins σ (upd H a o) {s with heap:=h',toks:=t'}:=I.un (Un.laid k c (I.hok.fresh c)) (I.hok.laid k c new)
theorem Inv.write{x e:Addr}{o:HO}{t':Nat}(I:Inv X pins σ H s)(c:YC (H x))(he:e=x\/H e=some (.own x))(k:∀b u,b≠e->s.heap.get? b=some u->h'.get? b=some u)(a:∃u,h'.get? e=some u)(new:bA X.prog X.w (upd H x o) h' x o):Inv X pins σ (upd H x o) {s with heap:=h',toks:=t'}:=I.un (Un.write c he k a) (I.hok.write c he k a new)
theorem Inv.DK{a:List (Addr×Obj)}(I:Inv X pins σ H s)(h:∀p∈a,s.heap.get? p.1=some p.2/\H p.1=none/\p.1≠X.env.locals/\p.1∉X.fs/\∀v,p.2.data≠.cell v):Inv X a σ H s:=⟨I.ok,I.os,I.bare,I.base,I.loc,I.cell,I.free,I.gk,λp b=>(mem_append.mp b).elim (λz=>I.pin p (mem_append_left _ z)) (h p),I.hok,I.len⟩
theorem um{N:List Str}(c:N.Nodup){j:Nat}{x:Str}(a:N[i]?=some x)(b:N[j]?=some x):i=j:=by obtain⟨h1,e⟩:=eV a;obtain⟨g,f⟩:=eV b;exact(List.getElem_inj c).mp (e.trans f.symm)
theorem vp{E:Value->Shared->Prop}{x:Str}{v:V}{u:Value}{Q:Unit->Shared->Prop}(I:Inv X pins σ H s)(hN:X.N.Nodup)(hi:X.N[i]?=some x)(l:Loc X.env.scope x)(r:RelV v u)(h:∀s',Inv X pins (σ.set i (some v)) H s'->(∃a,SameBut a s.heap s'.heap/\(a=X.env.locals\/X.env.cells.lookup x=some a))->Q () s')(hf:X.fn x=true\/X.env.scope.names.lookup x=some .local:=by first|(left;rfl)|(right;rfl)|assumption):wpAny M A (storeName X.env x u) Q E s:=by
 obtain⟨m,hn,hl⟩:=id I.loc;have O:(X.env.scope.kind==.class||(X.env.scope.kind==.module&&X.env.locals !=X.env.globals))=false:=by rw[I.ok.kind];rfl
 have C:i<σ.length:=by rw[I.len];exact(eV hi).1
 have Iz:=I.Iz;have f:∀{a:Addr}{h':Heap},(∃o,s.heap.get? a=some o/\H a=none)->SameBut a s.heap h'->jT X.prog X.w H h':=λ{a h'}ha hs b ob e=>by
  obtain⟨_,_,t⟩:=ha;refine(I.hok b ob e).stay (λc Z hc q=>(hs.2 c ?_).trans q) (λ_ q=>q) λ_ _ q=>q;rintro rfl;rcases hc with rfl|hc;.rw[t]at e;cases e
  .rw[t]at hc;cases hc
 rcases l with hk|hk
 . refine wpAny_storeName_local hk hn (λh' ac hs=>?_) O;obtain⟨oL,_,_,ae,_⟩:=id hn;refine h _ ⟨I.ok,I.os,I.bare,⟨λb o e n G l=>?_,λb o e n G l=>?_,I.base.free,λb o e l=>?_,I.base.tups,I.base.qI,I.base.uB⟩,⟨_,ac,λj y v' g B e3=>?_⟩,λy c e=>?_,I.free,I.gk,λp hp=>?_,f ⟨oL,ae,I.free⟩ hs,by simpa using I.len⟩ ⟨_,hs,.inl rfl⟩;.exact(hs.2 b (ne_of_lt (lt_of_lt_of_le (lt_size e) I.ok.above))).trans (I.base.keep b o e n G l)
   .obtain⟨sl,g⟩:=I.base.slot b o e n G l;exact⟨sl,(hs.2 b (ne_of_lt (lt_of_lt_of_le (lt_size e) I.ok.above))).trans g⟩
   .obtain⟨o',g⟩:=I.base.there b o e l;exact⟨o',(hs.2 b (ne_of_lt (lt_of_lt_of_le (lt_size e) I.ok.above))).trans g⟩
   . by_cases J:j=i;.subst J;rw[hi]at g;cases g;rw[getElem?_set_self C]at B;cases B;exact⟨u,r,.inl ⟨hk,by simp⟩⟩
     . rw[fL J]at B;obtain⟨u',r',q⟩:=hl j y v' g B e3;refine⟨u',r',?_⟩;rcases q with⟨k,e⟩|⟨k,c,e,z⟩;.refine .inl ⟨k,?_⟩;have:y≠x:=λe=>J (um hN g (e▸hi));simp[this,e]
       .exact .inr ⟨k,c,e,z.sameBut hs (Iz y c e)⟩
   .obtain⟨Z,z⟩:=I.cell y c e;exact⟨Z,z.sameBut hs (Iz y c e)⟩
   .obtain⟨e,n,ne,nf,d⟩:=I.pin p hp;exact⟨(hs.2 p.1 ne).trans e,n,ne,nf,d⟩
 . have L:X.fn x=true:=by
    rcases hf with z|z;.exact z
    .rw[z]at hk;cases hk
   obtain⟨c,hc⟩:=I.ok.has x (.inl hk);obtain⟨Z,z⟩:=I.cell x c hc;refine wpAny_storeName_cell I.ok.kind hk hc z (λh' U hs=>?_);obtain⟨oc,W,af⟩:=id z;refine h {s with heap:=h'} ⟨I.ok,I.os,I.bare,⟨λb o e n G l=>?_,λb o e n G l=>?_,I.base.free,λb o e l=>?_,I.base.tups,I.base.qI,I.base.uB⟩,⟨m,hn.sameBut hs (Ne.symm (Iz x c hc)),λj y v' g B e3=>?_⟩,λy c' e=>?_,I.free,I.gk,λp hp=>?_,f ⟨oc,W,I.gk x c hc⟩ hs,by simpa using I.len⟩ ⟨c,hs,.inr hc⟩;.exact(hs.2 b (ne_of_lt (lt_of_lt_of_le (lt_size e) (I.ok.cab x c L hc)))).trans (I.base.keep b o e n G l)
   .obtain⟨sl,g⟩:=I.base.slot b o e n G l;exact⟨sl,(hs.2 b (ne_of_lt (lt_of_lt_of_le (lt_size e) (I.ok.cab x c L hc)))).trans g⟩
   .obtain⟨o',g⟩:=I.base.there b o e l;exact⟨o',(hs.2 b (ne_of_lt (lt_of_lt_of_le (lt_size e) (I.ok.cab x c L hc)))).trans g⟩
   . by_cases J:j=i;.subst J;rw[hi]at g;cases g;rw[getElem?_set_self C]at B;cases B;exact⟨u,r,.inr ⟨.inl hk,c,hc,U⟩⟩
     . rw[fL J]at B;obtain⟨u',r',q⟩:=hl j y v' g B e3;refine⟨u',r',?_⟩;rcases q with q|⟨k,c',e,z'⟩;.exact .inl q
       .refine .inr ⟨k,c',e,z'.sameBut hs ?_⟩;rintro rfl;exact J (um hN g (I.ok.inj _ _ _ e hc▸hi))
   . by_cases Y:c'=c;.subst Y;exact⟨_,U⟩
     .obtain⟨w2,z2⟩:=I.cell y c' e;exact⟨w2,z2.sameBut hs Y⟩
   .obtain⟨e,n,ne,nf,d⟩:=I.pin p hp;refine⟨(hs.2 p.1 ?_).trans e,n,ne,nf,d⟩;intro q;rw[q,W]at e;have q':oc=p.2:=Option.some.inj e;exact d Z (by rw[<-q'];exact af)
theorem kZ{E:Value->Shared->Prop}{x:Str}{v:V}{u:Value}{Q:Unit->Shared->Prop}(I:Inv X pins σ H s)(b:X.N.Nodup)(hi:X.N[i]?=some x)(c:Loc X.env.scope x)(r:RelV v u)(h:∀a,Inv X pins (σ.set i (some v)) H a->Q () a)(e:X.fn x=true\/X.env.scope.names.lookup x=some .local:=by first|(left;rfl)|(right;rfl)|assumption):wpAny M A (storeName X.env x u) Q E s:=vp I b hi c r (λa f _=>h a f) e
end
noncomputable abbrev XK:=Value->Option Addr->Hp->Prop
noncomputable abbrev St:=List (Option V)
noncomputable abbrev VK:=V->Hp->Prop
noncomputable abbrev TE:=St->Hp->VK->Prop
noncomputable abbrev TT:=St->Hp->(Bool->Hp->Prop)->Prop
noncomputable abbrev TA:=St->Hp->(List V->Hp->Prop)->Prop
structure Ends where
 nx:St->Hp->Prop
 rt:VK
 bk:St->Hp->Prop:=λ_ _=>False
 ct:St->Hp->Prop:=λ_ _=>False
noncomputable abbrev TS:=Ends->St->Hp->Prop
inductive EP(X:Cx)(pins:List (Addr×Obj))(σ:St)(Q:VK)(u:Value)(s':Shared):Prop where|mk(v:V)(H':Hp)(q0:Inv X pins σ H' s')(q1:RelV v u)(q2:Q v H')
noncomputable def TP(X:Cx)(pins:List (Addr×Obj))(σ:St)(Q:Bool->Hp->Prop)(b:Bool)(a:Shared):Prop:=∃H',Inv X pins σ H' a/\Q b H'
inductive AP(X:Cx)(pins:List (Addr×Obj))(σ:St)(Q:List V->Hp->Prop)(us:List Value)(s':Shared):Prop where|mk(vs:List V)(H':Hp)(q0:Inv X pins σ H' s')(q1:Vals vs us)(q2:Q vs H')
noncomputable def SP(X:Cx)(pins:List (Addr×Obj))(D:Ends)(f:Flow)(a:Shared):Prop:=match f with|.next=>∃σ' H',Inv X pins σ' H' a/\D.nx σ' H'|.brk=>∃σ' H',Inv X pins σ' H' a/\D.bk σ' H'|.cont=>∃σ' H',Inv X pins σ' H' a/\D.ct σ' H'|.ret u=>∃v σ' H',Inv X pins σ' H' a/\RelV v u/\D.rt v H'
noncomputable def PE(X:Cx)(e:Expr)(t:TE):Prop:=∀(pins:List (Addr×Obj))(s:Shared)(σ:St)(H:Hp)(Q:VK),Inv X pins σ H s->t σ H Q->wpAny (model X.prog X.w) X.A (eval e X.env) (EP X pins σ Q) X.xe s
noncomputable def PT(X:Cx)(e:Expr)(t:TT):Prop:=∀(pins:List (Addr×Obj))(s:Shared)(σ:St)(H:Hp)(Q:Bool->Hp->Prop),Inv X pins σ H s->t σ H Q->wpAny (model X.prog X.w) X.A (isTrue e X.env (eval e X.env)) (TP X pins σ Q) X.xe s
noncomputable def PW(X:Cx)(e:Expr)(t:TT):Prop:=∀(a:Sem Value)(pins:List (Addr×Obj))(s:Shared)(σ:St)(H:Hp)(Q:Bool->Hp->Prop),Inv X pins σ H s->t σ H Q->wpAny (model X.prog X.w) X.A (isTrue e X.env a) (TP X pins σ Q) X.xe s
theorem PW.pt{e:Expr}{t:TT}(h:PW X e t):PT X e t:=h _
noncomputable def PA(X:Cx)(es:List Expr)(t:TA):Prop:=∀(pos:Pos)(pins:List (Addr×Obj))(s:Shared)(σ:St)(H:Hp)(Q:List V->Hp->Prop),Inv X pins σ H s->t σ H Q->wpAny (model X.prog X.w) X.A (spliced (backTo pos (starEach es X.env))) (AP X pins σ Q) X.xe s
noncomputable def PS(X:Cx)(st:Stmt)(t:TS):Prop:=∀(pins:List (Addr×Obj))(s:Shared)(σ:St)(H:Hp)(D:Ends),Inv X pins σ H s->t D σ H->wpAny (model X.prog X.w) X.A (exec st X.env) (SP X pins D) X.xe s
noncomputable def o8(X:Cx)(st:List Stmt)(t:TS):Prop:=∀(pins:List (Addr×Obj))(s:Shared)(σ:St)(H:Hp)(D:Ends),Inv X pins σ H s->t D σ H->wpAny (model X.prog X.w) X.A (execs st X.env) (SP X pins D) X.xe s
theorem bU{b:Type}{t:Sem b}{Q c:b->Shared->Prop}{E:Value->Shared->Prop}(h:wpAny M A t Q E s)(e:∀a s,Q a s->c a s):wpAny M A t c E s:=wpAny_mono h e λ_ _ x=>x
section
variable{X:Cx}
noncomputable def Vs(i:Nat):TE:=λσ H Q=>∃v,σ[i]?=some (some v)/\Q v H
noncomputable def tC(v:V):TE:=λ_ H Q=>Q v H
theorem dO{x:Str}(f:X.N[i]?=some x)(g:vC X.env.scope x)(hd:(x==("__debug__":Str))=false:=by decide)(b:(x==("__classdict__":Str))=false:=by decide):PE X (.Name x pos) (Vs i):=by
 intro pins s σ H Q I h;obtain⟨v,e,h⟩:=h;obtain⟨m,j,k⟩:=I.loc;obtain⟨u,r,l⟩:=k i x v f e g;have fin:EP X pins σ Q u s:=⟨v,H,I,r,h⟩;rcases l with⟨hk,n⟩|⟨hk,c,hc,a⟩;.exact wpAny_Name (wpAny_loadName_local I.ok.kind hk j n fin) hd
 . rcases hk with hk|hk;.exact wpAny_Name (wpAny_loadName_cell I.ok.kind hk hc a fin) hd
   .exact wpAny_Name (wpAny_loadName_free I.ok.kind hk hc a fin b) hd
theorem wN{i j pos}:PE X (.Constant (.int i) j pos) (tC (.int i)):=λ_ _ _ H _ I h=>wpAny_Constant_int ⟨.int i,H,I.tok _,⟨_,rfl⟩,h⟩
theorem YW{b j pos}:PE X (.Constant (.bool b) j pos) (tC (.bl b)):=λ_ _ _ H _ I h=>Constant_bool ⟨.bl b,H,I,rfl,h⟩
theorem TY{j pos}:PE X (.Constant .none j pos) (tC .non):=λ_ _ _ H _ I h=>Constant_none ⟨.non,H,I,rfl,h⟩
noncomputable def Gl(X:Cx)(x:Str):Prop:=X.env.kindOf x=some .globalImplicit
theorem rC{E:Value->Shared->Prop}{σ:St}{x:Str}{u:Value}{Q:Value->Shared->Prop}(I:Inv X pins σ H s)(a:Gl X x)(b:X.mg x=some u)(h:Q u s)(hd:(x==("__debug__":Str))=false:=by decide):wpAny (model X.prog X.w) X.A (eval (.Name x pos) X.env) Q E s:=Calls.Name_function_global I.ok.kind a (Calls.loadGlobal_global (by rw[I.ok.glob];exact I.mod.glob.keeps I.bk) b h) hd
theorem mQ{E:Value->Shared->Prop}{σ:St}{x:Str}{u:Value}{Q:Value->Shared->Prop}(I:Inv X pins σ H s)(a:Gl X x)(b:X.mg x=none)(c:bootBuiltins x=some u)(h:Q u s)(e:x≠"__name__":=by decide)(hd:(x==("__debug__":Str))=false:=by decide):wpAny (model X.prog X.w) X.A (eval (.Name x pos) X.env) Q E s:=by obtain⟨g,h1,f⟩:=I.mod.blt;exact Calls.Name_function_global I.ok.kind a (Calls.loadGlobal_builtin (by rw[I.ok.glob];exact I.mod.glob.keeps I.bk) b (by rw[I.ok.blt];exact h1.keeps I.bk) ((f x e).trans c) h) hd
theorem gH{x:Str}{v:V}{u:Value}(a:Gl X x)(b:X.mg x=some u)(r:RelV v u)(hd:(x==("__debug__":Str))=false:=by decide):PE X (.Name x pos) (tC v):=λ_ _ _ H _ I h=>rC I a b ⟨v,H,I,r,h⟩ hd
theorem rJ{x:Str}{v:V}{u:Value}(a:Gl X x)(b:X.mg x=none)(c:bootBuiltins x=some u)(r:RelV v u)(e:x≠"__name__":=by decide)(hd:(x==("__debug__":Str))=false:=by decide):PE X (.Name x pos) (tC v):=λ_ _ _ H _ I h=>mQ I a b c ⟨v,H,I,r,h⟩ e hd
variable{a b:Expr}{ta tb:TE}{pos:Pos}
noncomputable def PC(X:Cx)(op:CmpOp)(a b:Expr)(t:TE):Prop:=∀(pins:List (Addr × Obj))(s:Shared)(σ:St)(H:Hp)(Q:VK),Inv X pins σ H s->t σ H Q->wpAny (model X.prog X.w) X.A (eval a X.env) (λv c=>wpAny (model X.prog X.w) X.A (eval b X.env) (λu e=>wpAny (model X.prog X.w) X.A (compareOp op v u) (EP X pins σ Q) X.xe e) X.xe c) X.xe s
noncomputable def tB(t:TE):TT:=λσ H Q=>t σ H λx e=>∃c,x=.bl c/\Q c e
theorem Wk{t:TE}(h:PC X op a b t)(h1:behindInMarks op b=false:=by first|(apply aaU<;>decide)|rfl):PT X (.Compare a [op] [b] pos) (tB t):=by intro pins s σ H Q I e;refine wpAny_isTrue_Compare1 (bU (h pins s σ H _ I e) λv s1 h1=>bU h1 λu s2 f=>bU f λc s3⟨x,H1,I1,r1,q1⟩=>?_) h1;obtain⟨d,rfl,q⟩:=q1;cases r1;exact wpAny_truthy_bool ⟨H1,I1,q⟩
theorem Vf{e:Expr}{t:TE}(h:PE X e t)(he:∀c,isTrue e X.env c=(do let v<-c;standAt e.pos;holding [v] (truthy v)):=by intro _;rfl):PT X e (tB t):=by intro pins s σ H Q I f;refine isTrue_plain (bU (h pins s σ H _ I f) λv s1⟨x,H1,I1,r1,q1⟩=>?_) (he _);obtain⟨d,rfl,q⟩:=q1;cases r1;exact wpAny_truthy_bool ⟨H1,I1,q⟩
variable{tA tB':TT}{rest:List Expr}
noncomputable def adM(t u:TT):TT:=λσ H Q=>t σ H λc e=>if c=true then u σ e Q else Q false e
noncomputable def tOr(t u:TT):TT:=λσ H Q=>t σ H λc e=>if c=true then Q true e else u σ e Q
noncomputable def ad1(t:TT):TT:=λσ H Q=>t σ H λc e=>Q (!c) e
theorem Mz(f:PT X a tA):PW X (.BoolOp .And [a] pos) tA:=by intro wh pins s σ H Q I h;refine isTrue_and (bU (f pins s σ H Q I h) λc s1 e=>?_);cases c with|true=>exact isTrue_and_nil e|false=>exact e
theorem VH(f:PT X a tA):PW X (.BoolOp .Or [a] pos) tA:=by intro wh pins s σ H Q I h;refine isTrue_or (bU (f pins s σ H Q I h) λc s1 e=>?_);cases c with|false=>exact isTrue_or_nil e|true=>exact e
theorem Ve(f:PT X a tA)(g:PW X (.BoolOp .And (b::rest) pos) tB'):PW X (.BoolOp .And (a::b::rest) pos) (adM tA tB'):=by intro wh pins s σ H Q I h;refine isTrue_and (bU (f pins s σ H _ I h) λc s1⟨e,I1,q1⟩=>?_);cases c with|true=>exact g wh pins s1 σ e Q I1 q1|false=>exact⟨e,I1,q1⟩
theorem Yt(f:PT X a tA)(g:PW X (.BoolOp .Or (b::rest) pos) tB'):PW X (.BoolOp .Or (a::b::rest) pos) (tOr tA tB'):=by intro wh pins s σ H Q I h;refine isTrue_or (bU (f pins s σ H _ I h) λc s1⟨e,I1,q1⟩=>?_);cases c with|true=>exact⟨e,I1,q1⟩|false=>exact g wh pins s1 σ e Q I1 q1
theorem Wr(e:PT X a tA):PT X (.UnaryOp .Not a pos) (ad1 tA):=by intro pins s σ H Q I h;exact isTrue_not (e pins s σ H (λc f=>Q (!c) f) I h)
noncomputable def aaf(ta tb:TE):TE:=λσ H Q=>ta σ H λx e=>∃c,x=.bl c/\if c=true then tb σ e Q else Q (.bl false) e
noncomputable def Y8(ta:TE):TE:=λσ H Q=>ta σ H λx e=>∃c,x=.bl c/\Q (.bl (!c)) e
theorem IK{op}{t:TE}(h:PE X a t):PE X (.BoolOp op [a] pos) t:=λpins s σ H Q I c=>BoolOp_one (h pins s σ H Q I c)
theorem HX(f:PE X a ta)(g:PE X (.BoolOp .And (b::rest) pos) tb):PE X (.BoolOp .And (a::b::rest) pos) (aaf ta tb):=by intro pins s σ H Q I h;refine BoolOp_and (bU (f pins s σ H _ I h) λv s1⟨x,H1,I1,r1,e⟩=>?_);obtain⟨c,rfl,e⟩:=e;cases r1;refine wpAny_truthy_bool ?_;cases c with|true=>exact g pins s1 σ H1 Q I1 e|false=>exact⟨.bl false,H1,I1,rfl,e⟩
theorem Jj(f:PE X a ta):PE X (.UnaryOp .Not a pos) (Y8 ta):=by intro pins s σ H Q I h;refine UnaryOp_ (bU (f pins s σ H _ I h) λv s1⟨x,H1,I1,r1,e⟩=>?_);obtain⟨c,rfl,e⟩:=e;cases r1;exact not_of (wpAny_truthy_bool ⟨.bl (!c),H1,I1,rfl,e⟩)
noncomputable def tIf(t:TT)(ta tb:TE):TE:=λσ H Q=>t σ H λc e=>if c=true then ta σ e Q else tb σ e Q
theorem JL{c:Expr}(hc:PT X c tA)(f:PE X a ta)(g:PE X b tb):PE X (.IfExp c a b pos) (tIf tA ta tb):=by intro pins s σ H Q I h;refine wpAny_IfExp (bU (hc pins s σ H _ I h) λd s1⟨e,I1,q1⟩=>?_);cases d with|true=>exact f pins s1 σ e Q I1 q1|false=>exact g pins s1 σ e Q I1 q1
end
noncomputable def fM(K:PySem.W.Frag)(H:Hp)(a:Addr)(xs:List V):Prop:=Rd H a (.lst xs)\/∃(o:Obj)(b:Array Value)(n:Nat),K.lookup a=some o/\o.cls=.type "list"/\o.dict=none/\o.data=.seq b n/\b.size<=sizeLine/\Vals xs b.toList
noncomputable def jw(K:PySem.W.Frag)(H:Hp)(a:Addr)(xs:List V):Prop:=Rd H a (.tup xs)\/∃(o:Obj)(b:Array Value)(n:Nat),K.lookup a=some o/\o.cls=.type "tuple"/\o.data=.seq b n/\b.size<=sizeLine/\Vals xs b.toList
noncomputable def aef:Value->Option V|.none=>some .non|.bool b=>some (.bl b)|.int i _=>some (.int i)|.str x _=>some (.str x)|.bytes b _=>some (.byt b)|.float b _=>some (.flt b)|.ref a=>some (.ref a)|.type n=>some (.ty n)|_=>none
theorem RelV.abs{x:V}{u:Value}(r:RelV x u):aef u=some x:=by cases x with|non=>cases r;rfl|bl _=>cases r;rfl|int _=>obtain⟨t,rfl⟩:=r;rfl|str _=>obtain⟨t,rfl⟩:=r;rfl|byt _=>obtain⟨t,rfl⟩:=r;rfl|flt _=>obtain⟨t,rfl⟩:=r;rfl|ref _=>cases r;rfl|ty _=>cases r;rfl
theorem RelV.inj{x y:V}{u:Value}(r:RelV x u)(q:RelV y u):x=y:=Option.some.inj (r.abs.symm.trans q.abs)
theorem Vals.inj:∀{xs ys:List V}{us:List Value},Vals xs us->Vals ys us->xs=ys|_,_,_,.nil,.nil=>rfl|_,_,_,.cons r t,.cons a t'=>by rw[r.inj a,Vals.inj t t']
section
variable{X:Cx}{pins:List (Addr×Obj)}{σ:St}{H:Hp}{s:Shared}{a:Addr}{xs ys:List V}
theorem fM.of(h:H a=some (.lst xs)):fM K H a xs:=.inl (.inl h)
theorem jw.of(h:H a=some (.tup xs)):jw K H a xs:=.inl (.inl h)
theorem Inv.list(I:Inv X pins σ H s)(h:fM X.K H a xs):∃b:List Value,Vals xs b/\PlainL s.heap a b.toArray/\xs.length<=sizeLine:=by
 rcases h with h|⟨o,b,n,c,hc,hd,hs,hz,r⟩;.obtain⟨z,b,n,r,e⟩:=h.ok I.hok;exact⟨b,r,⟨_,n,e,rfl,rfl,rfl⟩,z⟩
 .refine⟨b.toList,r,⟨o,n,I.Mh a o c,hc,hd,by simpa using hs⟩,?_⟩;have e:=r.length;simp only[length_toList]at e;omega
theorem Inv.tuple(I:Inv X pins σ H s)(h:jw X.K H a xs):∃b:List Value,Vals xs b/\IsTup s.heap a b.toArray/\xs.length<=sizeLine:=by
 rcases h with h|⟨o,b,n,c,hc,hs,hz,r⟩;.obtain⟨z,b,r,p⟩:=h.ok I.hok;exact⟨b,r,p,z⟩
 .refine⟨b.toList,r,⟨o,I.Mh a o c,hc,n,by simpa using hs⟩,?_⟩;have e:=r.length;simp only[length_toList]at e;omega
theorem Inv.t8(I:Inv X pins σ H s)(h:fM X.K H a xs)(h':fM X.K H a ys):xs=ys:=by
 obtain⟨b,r,⟨o,n,e,_,_,d⟩,_⟩:=I.list h;obtain⟨its',f,⟨g,j,c,_,_,d'⟩,_⟩:=I.list h';rw[e]at c;cases c;rw[d]at d';injection d' with d1 _;have:b=its':=by simpa using congrArg toList d1
 subst this;exact r.inj f
theorem Inv.o5(I:Inv X pins σ H s)(h:jw X.K H a xs)(h':jw X.K H a ys):xs=ys:=by
 obtain⟨b,r,⟨o,e,_,n,d⟩,_⟩:=I.tuple h;obtain⟨its',f,⟨g,c,_,j,d'⟩,_⟩:=I.tuple h';rw[e]at c;cases c;rw[d]at d';injection d' with d1 _;have:b=its':=by simpa using congrArg toList d1
 subst this;exact r.inj f
end
noncomputable abbrev Cx.wish(X:Cx)(E:Value->Shared->Prop):Cx:={X with xe:=E}
noncomputable abbrev Cx.nox(X:Cx):Cx:=X.wish λ_ _=>False
theorem Cx.Ok.wish{X:Cx}(ok:X.Ok)(E:Value->Shared->Prop):(X.wish E).Ok:=⟨ok.mod,ok.kind,ok.glob,ok.blt,ok.above,ok.inj,ok.has,ok.cab,ok.hd,ok.frames,ok.RM,ok.Ym,ok.bs,ok.G3,ok.xH,ok.zm,ok.mW,ok.Ml⟩
theorem Cx.Ok.jZ{E:Value->Shared->Prop}(ok:(X.wish E).Ok):X.Ok:=⟨ok.mod,ok.kind,ok.glob,ok.blt,ok.above,ok.inj,ok.has,ok.cab,ok.hd,ok.frames,ok.RM,ok.Ym,ok.bs,ok.G3,ok.xH,ok.zm,ok.mW,ok.Ml⟩
section
variable{X:Cx}{pins:List (Addr×Obj)}{σ:St}{H:Hp}{s:Shared}{E:Value->Shared->Prop}
theorem Inv.wish(I:Inv X pins σ H s)(E:Value->Shared->Prop):Inv (X.wish E) pins σ H s:=⟨I.ok.wish E,I.os,I.bare,I.base,I.loc,I.cell,I.free,I.gk,I.pin,I.hok,I.len⟩
theorem Inv.jZ(I:Inv (X.wish E) pins σ H s):Inv X pins σ H s:=⟨I.ok.jZ,I.os,I.bare,I.base,I.loc,I.cell,I.free,I.gk,I.pin,I.hok,I.len⟩
theorem SP.jZ{D:Ends}{f:Flow}{a:Shared}(h:SP (X.wish E) pins D f a):SP X pins D f a:=by cases f with|next=>obtain⟨σ',H',I,q⟩:=h;exact⟨σ',H',I.jZ,q⟩|brk=>obtain⟨σ',H',I,q⟩:=h;exact⟨σ',H',I.jZ,q⟩|cont=>obtain⟨σ',H',I,q⟩:=h;exact⟨σ',H',I.jZ,q⟩|ret u=>obtain⟨v,σ',H',I,r,q⟩:=h;exact⟨v,σ',H',I.jZ,r,q⟩
theorem o8.nox{st:List Stmt}{t:TS}(h:o8 X.nox st t):o8 X st t:=λpins s σ H D I a=>wpAny_mono (h pins s σ H D (I.wish _) a) (λ_ _ q=>q.jZ) λ_ _ z=>False.elim z
end
section
variable{X:Cx}{st:Stmt}{rest:List Stmt}{t u:TS}{e:Expr}{te:TE}{pos:Pos}
noncomputable def Z5:TS:=λD σ H=>D.nx σ H
noncomputable def aeZ(t u:TS):TS:=λD σ H=>t {D with nx:=u D} σ H
theorem wJ:o8 X [] Z5:=λ_ _ σ H _ I h=>wpAny_execs_nil ⟨σ,H,I,h⟩
theorem je(h1:PS X st t)(a:o8 X rest u):o8 X (st::rest) (aeZ t u):=by intro pins s σ H D I h;refine wpAny_execs_cons (bU (h1 pins s σ H {D with nx:=u D} I h) λf s1 q=>?_);cases f with|next=>obtain⟨σ',H',b,q⟩:=q;exact a pins s1 σ' H' D b q|ret v=>exact q|brk=>exact q|cont=>exact q
theorem MF(h1:PS X st t):o8 X [st] t:=by intro pins s σ H D I h;refine wpAny_execs_cons (bU (h1 pins s σ H D I h) λf s1 q=>?_);cases f with|next=>exact wpAny_execs_nil q|ret v=>exact q|brk=>exact q|cont=>exact q
theorem Inv.quiet{σ:St}(I:Inv X pins σ H s):interactive X.env=false:=by simp[interactive,I.ok.kind]
noncomputable def aae(te:TE):TS:=λD σ H=>te σ H λ_ a=>D.nx σ a
theorem nZ(he:PE X e te)(hs:swapsWith e none pos.line X.env=pure false:=by rfl):PS X (.Expr e pos) (aae te):=by intro pins s σ H D I h;exact wpAny_Expr_any (bU (he pins s σ H _ I h) λv s1⟨x,H1,I1,r1,q1⟩=>⟨σ,H1,I1,q1⟩) I.quiet hs
noncomputable def adz(te:TE):TS:=λD σ H=>te σ H D.rt
theorem xg(he:PE X e te):PS X (.Return (some e) pos) (adz te):=by intro pins s σ H D I h;exact wpAny_Return_some (bU (he pins s σ H _ I h) λv s1⟨x,H1,I1,r1,q1⟩=>⟨x,σ,H1,I1,r1,q1⟩)
noncomputable def adk(c:TT)(t u:TS):TS:=λD σ H=>c σ H λb a=>if b=true then t D σ a else u D σ a
theorem Ig{c:Expr}{a b:List Stmt}{f:TT}(hc:PT X c f)(j:o8 X a t)(k:o8 X b u):PS X (.If c a b pos) (adk f t u):=by intro pins s σ H D I h;refine wpAny_If (bU (hc pins s σ H _ I h) λd s1⟨g,I1,q1⟩=>?_);cases d with|true=>exact j pins s1 σ g D I1 q1|false=>exact k pins s1 σ g D I1 q1
noncomputable def V3:TS:=λ_ _ _=>False
theorem sE:PS X st V3:=λ_ _ _ _ _ _ h=>h.elim
end
noncomputable abbrev TG:=V->St->Hp->(St->Hp->Prop)->Prop
noncomputable abbrev GX:=List V->St->Hp->(St->Hp->Prop)->Prop
noncomputable def PG(X:Cx)(a:Expr)(t:TG):Prop:=∀(pins:List (Addr × Obj))(s:Shared)(σ:St)(H:Hp)(v:V)(u:Value)(Q:St->Hp->Prop),Inv X pins σ H s->RelV v u->t v σ H Q->wpAny (model X.prog X.w) X.A (assign a X.env u) (λ_ b=>∃σ' H',Inv X pins σ' H' b/\Q σ' H') X.xe s
noncomputable def PGs(X:Cx)(a:List Expr)(t:GX):Prop:=∀(pins:List (Addr × Obj))(s:Shared)(σ:St)(H:Hp)(vs:List V)(us:List Value)(Q:St->Hp->Prop),Inv X pins σ H s->Vals vs us->t vs σ H Q->wpAny (model X.prog X.w) X.A (assignInOrder ((assignEach a X.env).map (·.2)) us) (λ_ b=>∃σ' H',Inv X pins σ' H' b/\Q σ' H') X.xe s
noncomputable abbrev Jo:=V->V->V->Hp->(Hp->Prop)->Prop
noncomputable def Wq(X:Cx)(t:Jo):Prop:=∀(pins:List (Addr × Obj))(s:Shared)(σ:St)(H:Hp)(o i v:V)(a iv u:Value)(Q:Hp->Prop),Inv X pins σ H s->RelV o a->RelV i iv->RelV v u->t o i v H Q->wpAny (model X.prog X.w) X.A (setItem a iv u) (λ_ b=>∃H',Inv X pins σ H' b/\Q H') X.xe s
noncomputable abbrev TIp:=V->V->Hp->VK->Prop
noncomputable def PIp(X:Cx)(op:Operator)(t:TIp):Prop:=∀(pins:List (Addr × Obj))(s:Shared)(σ:St)(H:Hp)(x y:V)(v u:Value)(Q:VK),Inv X pins σ H s->RelV x v->RelV y u->t x y H Q->wpAny (model X.prog X.w) X.A (inplaceOp op v u) (EP X pins σ Q) X.xe s
section
variable{X:Cx}{pos:Pos}
noncomputable def kE(i:Nat):TG:=λv σ H Q=>Q (σ.set i (some v)) H
theorem bf{x:Str}(a:X.N.Nodup)(hi:X.N[i]?=some x)(b:Loc X.env.scope x)(c:X.fn x=true\/X.env.scope.names.lookup x=some .local:=by first|(left;rfl)|(right;rfl)|assumption):PG X (.Name x pos) (kE i):=by intro pins s σ H v u Q I r h;exact wpAny_assign_Name (kZ I a hi b r (λf e=>⟨_,H,e,h⟩) c)
noncomputable def Tw:GX:=λvs σ H Q=>vs=[]/\Q σ H
noncomputable def Kz(t:TG)(u:GX):GX:=λvs σ H Q=>∃v r,vs=v::r/\t v σ H λσ' H'=>u r σ' H' Q
theorem lV:PGs X [] Tw:=by intro pins s σ H vs us Q I r h;obtain⟨e,h⟩:=h;subst e;cases r;exact assignInOrder_nil ⟨σ,H,I,h⟩
theorem bV{e:Expr}{es:List Expr}{t:TG}{u:GX}(h1:PG X e t)(b:PGs X es u)(hs:(assignEach (e::es) X.env).map (·.2)=assign e X.env::(assignEach es X.env).map (·.2):=by rfl):PGs X (e::es) (Kz t u):=by intro pins s σ H vs us Q I r h;obtain⟨v,g,c,h⟩:=h;subst c;cases r with|cons r f=>rw[hs];refine assignInOrder_cons (bU (h1 pins s σ H _ _ _ I r h) λ_ s1⟨a,H1,I1,q1⟩=>?_);exact b pins s1 a H1 _ _ Q I1 f q1
noncomputable def UG(K:PySem.W.Frag)(n:Nat)(t:GX):TG:=λv σ H Q=>∃a xs,v=.ref a/\jw K H a xs/\xs.length=n/\t xs σ H Q
theorem o7{es:List Expr}{k:Nat}{t:GX}{n:Nat}(hc:X.calm=true)(h:PGs X es t)(g:(assignEach es X.env).length=n:=by rfl)(hst:(assignEach es X.env).findIdx? (·.1)=none:=by rfl):PG X (.Tuple es k pos) (UG X.K n t):=by intro pins s σ H v u Q I r c;obtain⟨a,xs,j,l,m,c⟩:=c;subst j;cases r;obtain⟨p,f,ht,hz⟩:=I.tuple l;refine assign_Tuple_tuple (I.ok.hd hc) ht (by simp[g,<-m,f.length]) hst λh' q=>?_;have x:Inv X pins σ H {s with heap:=h'}:=I.kept (t':=s.toks) λb o e=>q b o (ne_of_lt (lt_size e)) e;exact h pins _ σ H xs _ Q x (by simpa using f) c
noncomputable def ado(to a:TE)(t:Jo):TG:=λv σ H Q=>to σ H λo b=>a σ b λi c=>t o i v c λe=>Q σ e
theorem U9{o i:Expr}{to b:TE}{t:Jo}(ho:PE X o to)(hi:PE X i b)(hs:Wq X t)(c:∀ v,assign (.Subscript o i pos) X.env v=(do
  let a<-holding [v] (eval o X.env)let iv<-holding [v,a] (eval i X.env)standAt pos
  holding [v,a,iv] (setItem a iv v)release [v,a,iv] []):=by intro _;rfl):PG X (.Subscript o i pos) (ado to b t):=by intro pins s σ H v u Q I r h;rw[c];refine wpAny_bind (wpAny_holding (bU (ho pins s σ H _ I h) λa s1⟨x,H1,I1,r1,q1⟩=>?_));refine wpAny_bind (wpAny_holding (bU (hi pins s1 σ H1 _ I1 q1) λiv s2⟨y,H2,I2,r2,q2⟩=>?_));refine wpAny_bind (wpAny_standAt (wpAny_bind (wpAny_holding (bU (hs pins s2 σ H2 x y v a iv u _ I2 r1 r2 r q2) λ_ s3⟨e,I3,q3⟩=>?_))));exact wpAny_release ⟨σ,e,I3,q3⟩
noncomputable def R9(te:TE)(g:TG):TS:=λD σ H=>te σ H λx a=>g x σ a D.nx
theorem Hd{e:Expr}{te:TE}{g:TG}(he:PE X e te)(a:PG X tg g)(hs:swapsWithSole [tg] e pos.line X.env=pure false:=by rfl)(b:swappedStores [tg] e X.env=pure none:=by rfl)(h1:(assignEach [tg] X.env).map (·.2)=[assign tg X.env]:=by rfl):PS X (.Assign [tg] e pos) (R9 te g):=by intro pins s σ H D I h;refine wpAny_Assign_stores (bU (he pins s σ H _ I h) λv s1⟨x,H1,I1,r1,q1⟩=>?_) hs b;rw[h1];exact bU (a pins s1 σ H1 x v _ I1 r1 q1) λ_ s2 q=>q
theorem mV{x:Str}{e:Expr}{te:TE}{a:Pos}(b:X.N.Nodup)(hi:X.N[i]?=some x)(c:Loc X.env.scope x)(he:PE X e te)(hs:swapsWith e (some (.Name x a)) pos.line X.env=pure false:=by rfl)(f:X.fn x=true\/X.env.scope.names.lookup x=some .local:=by first|(left;rfl)|(right;rfl)|assumption):PS X (.Assign [.Name x a] e pos) (R9 te (kE i)):=by intro pins s σ H D I h;refine wpAny_Assign_Name (bU (he pins s σ H _ I h) λv s1⟨y,H1,I1,r1,q1⟩=>?_) hs;exact kZ I1 b hi c r1 (λs2 g=>⟨_,H1,g,q1⟩) f
noncomputable def ad4(i j:Nat)(a:TA):TS:=λD σ H=>a σ H λvs b=>∃v w,vs=[v,w]/\D.nx ((σ.set i (some v)).set j (some w)) b
theorem SM{j:Nat}{x y:Str}{a b:Expr}{r:TA}{g k pt:Pos}{kt k2 Wu}(hc:X.calm=true)(t:X.N.Nodup)(hi:X.N[i]?=some x)(C:X.N[j]?=some y)(l:i≠j)(u:X.env.scope.names.lookup x=some .local)(z:X.env.scope.names.lookup y=some .local)(E:PA X [a,b] r)(G:swappedStores [.Tuple [.Name x g,.Name y k] kt pt] (.Tuple [a,b] k2 Wu) X.env=pure (some [x,y]))(hs:swapsWithSole [.Tuple [.Name x g,.Name y k] kt pt] (.Tuple [a,b] k2 Wu) pos.line X.env=pure false:=by rfl):PS X (.Assign [.Tuple [.Name x g,.Name y k] kt pt] (.Tuple [a,b] k2 Wu) pos) (ad4 i j r):=by
 intro pins s σ H D I h;rw[exec_Assign_arm];refine wpAny_bind (wpAny_standAt ?_);rw[hs];refine wpAny_bind (wpAny_pure ?_);rw[if_neg (by decide)];refine wpAny_bind (Tuple_ (bU (E _ pins s σ H _ I h) λus s1⟨vs,H1,I1,r1,m⟩=>?_));obtain⟨v,w,J,m⟩:=m;subst J;obtain⟨c,f,rfl,L,O⟩:∃c f,us=[c,f]/\RelV v c/\RelV w f:=by cases r1 with|cons p q=>cases q with|cons p' Q=>cases Q;exact⟨_,_,rfl,p,p'⟩
 refine wpAny_newObj_type ?_ (by show 2<=sizeLine;decide);have U:Inv X pins σ H1 {s1 with heap:=s1.heap.push {cls:=.type "tuple",data:=.seq [c,f].toArray}}:=I1.kept (t':=s1.toks) λb o e=>gY e;rw[G];refine wpAny_bind (wpAny_pure ?_);show wpAny (model X.prog X.w) X.A (do rule "assign.swapped-stores";let items<-unpackItems (.ref s1.heap.objs.size) 2 none;assignInOrder [λv=>bindName X.env y v,λv=>bindName X.env x v] items.reverse;pure Flow.next) _ _ _;refine wpAny_bind (wpAny_rule (wpAny_bind (unpackItems_tuple (items:=#[c,f]) (I.ok.hd hc) (IsTup.new s1.heap _) λh' n=>?_)));have W:=U.kept (h':=h') (t':=s1.toks) λb o e=>n b o (ne_of_lt (lt_size e)) e;show wpAny _ _ (assignInOrder [λv=>bindName X.env y v,λv=>bindName X.env x v] [f,c]>>=λ_=>pure Flow.next) _ _ _;refine wpAny_bind (assignInOrder_cons (wpAny_bindName (kZ W t C (.inl z) O (λs2 Y=>?_) (.inr z))));refine assignInOrder_cons (wpAny_bindName (kZ Y t hi (.inl u) L (λs3 B=>assignInOrder_nil (wpAny_pure ?_)) (.inr u)));rw[List.set_comm _ _ (Ne.symm l)]at B;exact⟨_,H1,B,m⟩
noncomputable def aal(to b te:TE)(c:V->V->Hp->VK->Prop)(a:TIp)(e:Jo):TS:=λD σ H=>to σ H λo f=>b σ f λi g=>c o i g λx j=>te σ j λy k=>a x y k λz l=>e o i z l λm=>D.nx σ m
noncomputable def aaw(X:Cx)(t:V->V->Hp->VK->Prop):Prop:=∀(pins:List (Addr × Obj))(s:Shared)(σ:St)(H:Hp)(o i:V)(a iv:Value)(Q:VK),Inv X pins σ H s->RelV o a->RelV i iv->t o i H Q->wpAny (model X.prog X.w) X.A (getItem a iv) (EP X pins σ Q) X.xe s
theorem O9{o i e:Expr}{to g te:TE}{j:V->V->Hp->VK->Prop}{b:TIp}{k:Jo}{op:Operator}{c:Pos}(ho:PE X o to)(hi:PE X i g)(n:aaw X j)(he:PE X e te)(p:PIp X op b)(hs:Wq X k)(q:∀a iv new,augStore i a iv new=(do holding [new,a,iv] (setItem a iv new);release [new,a,iv] [];pure .next):=by intros;rfl):PS X (.AugAssign (.Subscript o i c) op e pos) (aal to g te j b k):=by intro pins s σ H D I h;refine wpAny_AugAssign_SubscriptAny (bU (ho pins s σ H _ I h) λa s1⟨l,H1,I1,r1,q1⟩=>?_) q;refine bU (hi pins s1 σ H1 _ I1 q1) λiv s2⟨m,H2,I2,r2,q2⟩=>?_;refine bU (n pins s2 σ H2 l m a iv _ I2 r1 r2 q2) λf s3⟨r,H3,I3,r3,q3⟩=>?_;refine bU (he pins s3 σ H3 _ I3 q3) λv s4⟨t,H4,I4,r4,q4⟩=>?_;refine bU (p pins s4 σ H4 r t f v _ I4 r3 r4 q4) λnew s5⟨u,H5,I5,r5,q5⟩=>?_;exact bU (hs pins s5 σ H5 l m u a iv new _ I5 r1 r2 r5 q5) λ_ s6⟨x,I6,q6⟩=>⟨σ,x,I6,q6⟩
noncomputable def ipI(f:Int->Int->Int):TIp:=λx y H Q=>∃i j,x=.int i/\y=.int j/\Q (.int (f i j)) H
theorem T4:PIp X .Add (ipI λi j=>i+j):=by intro pins s σ H x y v u Q I r1 a h;obtain⟨i,j,b,c,q⟩:=h;subst b;subst c;obtain⟨t,rfl⟩:=r1;obtain⟨t',rfl⟩:=a;exact iadd_int ⟨.int _,H,I.tok _,⟨_,rfl⟩,q⟩
end
section
variable{X:Cx}{pos:Pos}
noncomputable def Vj(c:TT)(f:TS):TS:=λD σ H=>∃W:Nat->St->Hp->Prop,(∃m,W m σ H)/\∀m σ H,W m σ H->c σ H λb a=>if b=true then ∃N:St->Hp->Prop,(∀σ' H',N σ' H'->∃e,e<m/\W e σ' H')/\f {D with nx:=N,ct:=N,bk:=D.nx} σ a else D.nx σ a
theorem J7{c:Expr}{body:List Stmt}{t:TT}{u:TS}(x:PassesOwn (model X.prog X.w) X.A X.env X.xe)(hc:PT X c t)(C:o8 X body u):PS X (.While c body [] pos) (Vj t u):=by intro pins s σ H D I h;obtain⟨W,⟨m0,E⟩,g⟩:=h;refine wpAny_While (codeAny_whileLoop (λn G=>∃σ' H',Inv X pins σ' H' G/\W n σ' H') ?_ m0 ⟨σ,H,I,E⟩);rintro n s1⟨e,y,J,L⟩;refine wpAny_passesOwn x (bU (hc pins s1 e y _ J (g n e y L)) λb s2⟨z,I2,k⟩=>?_);cases b with
 |true=>obtain⟨N,B,k⟩:=k;rw[if_pos rfl];refine wpAny_passesOwn x (bU (C pins s2 e z _ I2 k) λf s3 l=>?_);cases f with|next=>obtain⟨a,j,m,o⟩:=l;obtain⟨p,q,r⟩:=B a j o;exact⟨p,q,a,j,m,r⟩|cont=>obtain⟨a,j,m,o⟩:=l;obtain⟨p,q,r⟩:=B a j o;exact⟨p,q,a,j,m,r⟩|brk=>exact l|ret v=>exact l
 |false=>rw[if_neg Bool.false_ne_true];exact wpAny_execs_nil ⟨e,z,I2,k⟩
end
structure It where
 go:Nat->Hp->Prop
 Mm:Nat->Hp->V->Hp->Prop
 stop:Nat->Hp->Prop
noncomputable def qw(X:Cx)(pins:List (Addr×Obj))(H:Hp)(b:Addr):Prop:=H b=none/\b≠X.env.locals/\b∉X.fs/\(b∈X.ex\/X.s₀.heap.objs.size<=b)/\(∀x c,X.env.cells.lookup x=some c->c≠b)/\∀p∈X.pn++pins,p.1≠b
theorem Inv.Es{σ:St}{H':Hp}{b:Addr}(I:Inv X pins σ H s)(a:s.heap.objs.size<=b)(f:H' b=none):qw X pins H' b:=by
 refine⟨f,Nat.ne_of_gt (lt_of_lt_of_le I.lt a),I.afy a,.inr (le_trans I.sz a),λx c e z=>?_,λp g z=>?_⟩;.obtain⟨v,q⟩:=I.cell x c e;exact absurd (lt_of_lt_of_le q.lt (by rw[z];exact a)) (lt_irrefl _)
 .exact absurd (lt_of_lt_of_le (lt_size (I.pin p g).1) (by rw[z];exact a)) (lt_irrefl _)
structure Turn(P:Program)(w:World)(K:PySem.W.Frag)(tg:Expr)(J:It)(fp:List Addr)(it:Addr)(tn:Nat->Heap->Prop):Prop where
 mem:it∈fp
 obj:∀i h,tn i h->∀b∈fp,∃o,h.get? b=some o/\∀v,o.data≠.cell v
 keep:∀i h h',tn i h->(∀b∈fp,∀o,h.get? b=some o->h'.get? b=some o)->tn i h'
 item:∀(X:Cx),X.prog=P->X.w=w->X.K=K->X.calm=true->∀(i:Nat)(pins:List (Addr×Obj))(s:Shared)(σ:St)(H:Hp)(E:Value->Shared->Prop),Inv X pins σ H s->(∀b∈fp,qw X pins H b)->tn i s.heap->J.go i H->wpAny (model P w) X.A (pyNext (.ref it)) (λr s1=>∃u,r=some u/\wpAny (model P w) X.A (letOwnedTupleGo tg (.ref it) u) (λ_ s2=>∃x H',Inv X pins σ H' s2/\RelV x u/\J.Mm i H x H'/\tn (i+1) s2.heap/\∀b∈fp,H' b=none) E s1) E s
 done:∀(X:Cx),X.prog=P->X.w=w->X.K=K->X.calm=true->∀(i:Nat)(pins:List (Addr×Obj))(s:Shared)(σ:St)(H:Hp)(E:Value->Shared->Prop),Inv X pins σ H s->(∀b∈fp,qw X pins H b)->tn i s.heap->J.stop i H->wpAny (model P w) X.A (pyNext (.ref it)) (λr s1=>r=none/\Inv X pins σ H s1) E s
 self:∀(A:Around)(i:Nat)(s:Shared)(Q:Value->Shared->Prop)(E:Value->Shared->Prop),tn i s.heap->Q (.ref it) s->wpAny (model P w) A (pyIter (.ref it)) Q E s
noncomputable abbrev TI:=St->Hp->(It->Hp->Prop)->Prop
noncomputable def PIE(X:Cx)(pins:List (Addr×Obj))(σ:St)(tg:Expr)(R:It->Hp->Prop)(a:Value)(s2:Shared):Prop:=∃(it:Addr)(c:List Addr)(e:Nat->Heap->Prop)(J:It)(H':Hp),a=.ref it/\Inv X pins σ H' s2/\Turn X.prog X.w X.K tg J c it e/\e 0 s2.heap/\(∀b∈c,qw X pins H' b)/\R J H'
noncomputable def PI(X:Cx)(tg iter:Expr)(a:TI):Prop:=∀(pins:List (Addr × Obj))(s:Shared)(σ:St)(H:Hp)(R:It->Hp->Prop),Inv X pins σ H s->a σ H R->wpAny (model X.prog X.w) X.A (eval iter X.env) (λv s1=>wpAny (model X.prog X.w) X.A (pyIter v) (PIE X pins σ tg R) X.xe s1) X.xe s
theorem Dt{E:Value->Shared->Prop}{it:Addr}{u:Value}{o:Obj}{n:String}{vs:Array Value}{Q:Unit->Shared->Prop}(ho:s.heap.get? it=some o)(hc:o.cls=.type n)(hd:o.data=.fields vs)(b:["enumerate","zip","dict_itemiterator","dict_reverseitemiterator","odict_iterator","itertools.zip_longest","itertools.pairwise"].contains n=false)(a:Q () s):wpAny M A (letOwnedTupleGo tg (.ref it) u) Q E s:=by unfold letOwnedTupleGo;cases tg<;>first|exact wpAny_pure a|(cases u<;>first|exact wpAny_pure a|(refine wpAny_bind (wpAny_load ho ?_);rw[hc,hd];show wpAny M A (if(["enumerate","zip","dict_itemiterator","dict_reverseitemiterator","odict_iterator","itertools.zip_longest","itertools.pairwise"].contains n&&vs[0]?==some (rawInt _))=true then _ else _) Q E s;rw[if_neg (by intro h;rw[b,Bool.false_and]at h;cases h)];exact wpAny_pure a))
noncomputable def Um(K:PySem.W.Frag)(a:Addr):It:=⟨λi H=>∃xs x,fM K H a xs/\xs[i]?=some x,λi H x H'=>H'=H/\∀xs,fM K H a xs->xs[i]?=some x,λi H=>∃xs,fM K H a xs/\xs.length<=i⟩
noncomputable def Xc(K:PySem.W.Frag)(a:Addr):It:=⟨λi H=>∃xs x,jw K H a xs/\xs[i]?=some x,λi H x H'=>H'=H/\∀xs,jw K H a xs->xs[i]?=some x,λi H=>∃xs,jw K H a xs/\xs.length<=i⟩
noncomputable def YS(lo:Int)(n:Nat):It:=⟨λi _=>i<n,λi H x H'=>H'=H/\x=.int (lo+i),λi _=>n<=i⟩
theorem FP{P:Program}(a it:Addr):Turn P w K tg (Um K a) [it] it (λi h=>h.IsListIter it a i)where
 mem:=by simp
 obj:=λi h st b f=>by
  have e:b=it:=by simpa using f
  subst e;obtain⟨o,e,c,d⟩:=st;exact⟨o,e,λv z=>by rw[d]at z;cases z⟩
 keep:=λi h h' st k=>st.at λo e=>k it (by simp) o e;item:=by intro X m n q hc i pins s σ H E I j st r;subst m n q;obtain⟨xs,x,l,t⟩:=r;obtain⟨y,B,p,hz⟩:=I.list l;obtain⟨u,C,G⟩:=B.get t;obtain⟨f0,f1,f2,f3,f4,f5⟩:=j it (by simp);refine wpAny_pyNext_list_item st p.isList (x:=u) (by simpa using C) λh' g J=>?_;have L:Inv X pins σ H {s with heap:=h'}:=I.turned (t':=s.toks) (λb o f e=>(J.2 b f).trans e) f0 f1 f3 f4 f5;obtain⟨o,e,c,d⟩:=id g;exact⟨u,rfl,Dt (s:={s with heap:=h'}) e c d (by decide) ⟨x,H,L,G,⟨rfl,λys N=>by rw[I.t8 N l];exact t⟩,g,λb f=>(j b f).1⟩⟩
 done:=by intro X m n q hc i pins s σ H E I j st r;subst m n q;obtain⟨xs,l,t⟩:=r;obtain⟨y,B,p,hz⟩:=I.list l;obtain⟨f0,f1,f2,f3,f4,f5⟩:=j it (by simp);have Q:=B.length;exact wpAny_pyNext_list_end (I.ok.hd hc) st p.isList (by simp;omega) λh' O=>⟨rfl,I.turned (t':=s.toks) (λb o f e=>O b o f e) f0 f1 f3 f4 f5⟩
 self:=λ_ _ _ _ _ st h=>wpAny_pyIter_listiter st h
theorem Ak{P:Program}(a it:Addr):Turn P w K tg (Xc K a) [it] it (λi h=>h.IsTupleIter it a i)where
 mem:=by simp
 obj:=λi h st b f=>by
  have e:b=it:=by simpa using f
  subst e;obtain⟨o,e,c,d⟩:=st;exact⟨o,e,λv z=>by rw[d]at z;cases z⟩
 keep:=λi h h' st k=>st.at λo e=>k it (by simp) o e;item:=by intro X n q r hc i pins s σ H E I l st t;subst n q r;obtain⟨xs,x,m,y⟩:=t;obtain⟨g,B,p,hz⟩:=I.tuple m;obtain⟨u,C,G⟩:=B.get y;obtain⟨f0,f1,f2,f3,f4,f5⟩:=l it (by simp);refine wpAny_pyNext_tuple_item st (show s.heap.IsTuple a g.toArray from p) (x:=u) (by simpa using C) λh' j J=>?_;have L:Inv X pins σ H {s with heap:=h'}:=I.turned (t':=s.toks) (λb o f e=>(J.2 b f).trans e) f0 f1 f3 f4 f5;obtain⟨o,e,c,d⟩:=id j;exact⟨u,rfl,Dt (s:={s with heap:=h'}) e c d (by decide) ⟨x,H,L,G,⟨rfl,λys N=>by rw[I.o5 N m];exact y⟩,j,λb f=>(l b f).1⟩⟩
 done:=by intro X n q r hc i pins s σ H E I l st t;subst n q r;obtain⟨xs,m,y⟩:=t;obtain⟨g,B,p,hz⟩:=I.tuple m;obtain⟨f0,f1,f2,f3,f4,f5⟩:=l it (by simp);have Q:=B.length;exact wpAny_pyNext_tuple_end (I.ok.hd hc) st (show s.heap.IsTuple a g.toArray from p) (by simp;omega) λh' O=>⟨rfl,I.turned (t':=s.toks) (λb o f e=>O b o f e) f0 f1 f3 f4 f5⟩
 self:=λ_ _ _ _ _ st h=>wpAny_pyIter_tupleiter st h
theorem An{P:Program}(it:Addr)(lo:Int)(n:Nat):Turn P w K tg (YS lo n) [it] it (λi h=>IsRangeIter h it (lo+(i:Nat)*1) ((n:Int)-(i:Nat)) 1)where
 mem:=by simp
 obj:=λi h st b a=>by
  have e:b=it:=by simpa using a
  subst e;exact⟨_,st,λv z=>by have q:Data.fields _=Data.cell v:=z;cases q⟩
 keep:=λi h h' st k=>k it (by simp) _ st;item:=by intro X g j l hc i pins s σ H E I f st m;subst g j l;obtain⟨f0,f1,f2,f3,f4,f5⟩:=f it (by simp);have W:=Walks.range (prog:=X.prog) (w:=X.w) (I.ok.hd hc) it lo 1 n;refine W.item i s _ _ m st λv h' p r c kk=>?_;obtain⟨t,rfl⟩:=r;have u:Inv X pins σ H {s with heap:=h',toks:=p}:=I.turned (λb o a e=>kk b o (by simpa using a) e) f0 f1 f3 f4 f5;refine⟨_,rfl,Dt (s:={s with heap:=h',toks:=p}) (n:="range_iterator") c rfl rfl (by decide) ⟨.int (lo+i),H,u,⟨t,?_⟩,⟨rfl,rfl⟩,c,λb a=>(f b a).1⟩⟩;rw[mul_one]
 done:=by intro X g j l hc i pins s σ H E I f st m;subst g j l;obtain⟨f0,f1,f2,f3,f4,f5⟩:=f it (by simp);exact wpAny_pyNext_range_end (I.ok.hd hc) st (by have:n<=i:=m;omega) λh' x=>⟨rfl,I.turned (t':=s.toks) (λb o a e=>x b o a e) f0 f1 f3 f4 f5⟩
 self:=λ_ _ _ _ _ st h=>wpAny_pyIter_rangeiter st h
section
variable{X:Cx}{tg:Expr}
theorem JX{σ:St}{R:It->Hp->Prop}{E:Value->Shared->Prop}{lo hi:Int}{t u v:Tok}{a:Nat}(I:Inv X pins σ H s)(h1:-(2^62)<=lo)(f:lo<2^62)(g:-(2^62)<=hi)(j:hi<2^62)(q:R (YS lo (hi-lo).toNat) H):wpAny (model X.prog X.w) X.A (pyIter (.ref s.heap.objs.size)) (PIE X pins σ tg R) E {s with heap:=s.heap.push {cls:=.type "range",data:=.fields #[.int lo t,.int hi u,.int 1 v]},toks:=a}:=by
 refine wpAny_pyIter_range (IsRange.new ..) (small_one h1 f g j) ?_;have c:Inv X pins σ H {s with heap:=s.heap.push {cls:=.type "range",data:=.fields #[.int lo t,.int hi u,.int 1 v]},toks:=a}:=I.kept λb o e=>gY e;refine⟨(s.heap.push {cls:=.type "range",data:=.fields #[.int lo t,.int hi u,.int 1 v]}).objs.size,[(s.heap.push {cls:=.type "range",data:=.fields #[.int lo t,.int hi u,.int 1 v]}).objs.size],_,_,H,rfl,c.kept (t':=a) λb o e=>gY e,An _ lo (hi-lo).toNat,?_,λb k=>?_,q⟩
 . have l:lo+((0:Nat):Int)*1=lo:=by simp
   have m:(((hi-lo).toNat:Nat):Int)-((0:Nat):Int)=Builtin.Range.rangeSize lo hi 1:=by rw[rangeSize_one];split<;>omega
   show IsRangeIter _ _ (lo+((0:Nat):Int)*1) ((((hi-lo).toNat:Nat):Int)-((0:Nat):Int)) 1;rw[l,m];exact get?_push_size _ rfl
 . have e:b=(s.heap.push {cls:=.type "range",data:=.fields #[.int lo t,.int hi u,.int 1 v]}).objs.size:=by simpa using k
   subst e;exact c.Es (eG) (c.hok.fresh (eG))
noncomputable def Zg(a:TA):TI:=λσ H R=>a σ H λvs b=>∃j:Int,vs=[.int j]/\-(2^62)<=j/\j<2^62/\R (YS 0 j.toNat) b
theorem vD{a:Expr}{c:TA}{p:Pos}(f:Gl X "range")(g:X.mg "range"=none)(k:PA X [a] c)(hs:starEach [a] X.env=[(false,eval a X.env)]:=by rfl):PI X tg (.Call (.Name "range" p) [a] [] pos) (Zg c):=by intro pins s σ H R I h;refine Call_ (mQ I f g boot_range (PyProof.Rows.callWith_type1 (bU (k pos pins s σ H _ I h) λus s1⟨vs,H1,I1,r1,b⟩=>?_) hs rfl));obtain⟨j,e,b,l,q⟩:=b;subst e;cases r1 with|cons r m=>cases m;obtain⟨t,rfl⟩:=r;exact call_range_1 (JX I1 (by omega) (by omega) b l (by simpa using q))
noncomputable def adm(c:TI)(g:TG)(e:TS):TS:=λD σ H=>c σ H λJ f=>∃W:Nat->Nat->St->Hp->Prop,(∃m,W 0 m σ f)/\∀i m σ H,W i m σ H->(J.stop i H/\D.nx σ H)\/(J.go i H/\∃N:St->Hp->Prop,(∀σ' H',N σ' H'->∃b,b<m/\W (i+1) b σ' H')/\∀x H',J.Mm i H x H'->g x σ H' λa j=>e {D with nx:=N,ct:=N,bk:=D.nx} a j)
noncomputable def uh(a:List Addr)(h:Heap):List (Addr×Obj):=a.filterMap λb=>(h.get? b).map λo=>(b,o)
theorem jF{a:List Addr}{b:Addr}{o:Obj}(c:b∈a)(e:h.get? b=some o):(b,o)∈uh a h:=List.mem_filterMap.mpr ⟨b,c,by rw[e];rfl⟩
theorem Fe{a:List Addr}{p:Addr×Obj}(c:p∈uh a h):p.1∈a/\h.get? p.1=some p.2:=by obtain⟨b,f,e⟩:=List.mem_filterMap.mp c;cases q:h.get? b with|none=>rw[q]at e;cases e|some o=>rw[q]at e;have g:(b,o)=p:=Option.some.inj e;subst g;exact⟨f,q⟩
theorem Inv.pinned{σ:St}{a:List Addr}(I:Inv X pins σ H s)(g:∀b∈a,qw X pins H b)(ho:∀b∈a,∃o,s.heap.get? b=some o/\∀v,o.data≠.cell v):Inv X (pins++uh a s.heap) σ H s:=I.DK λp j=>(mem_append.mp j).elim (λz=>I.pin p (mem_append_right _ z)) λz=>by obtain⟨c,e⟩:=Fe z;obtain⟨f0,f1,f2,_⟩:=g p.1 c;obtain⟨o,f,d⟩:=ho p.1 c;rw[e]at f;cases f;exact⟨e,f0,f1,f2,d⟩
theorem Inv.oJ{a:List (Addr×Obj)}{σ:St}(I:Inv X (pins++a) σ H s):Inv X pins σ H s:=I.DK λp b=>I.pin p (mem_append_right _ (mem_append_left _ b))
theorem JQ{iter:Expr}{body:List Stmt}{U:TI}{g:TG}{Y:TS}(t:PassesOwn (model X.prog X.w) X.A X.env X.xe)(hc:X.calm=true)(hi:PI X tg iter U)(hg:PG X tg g)(c:o8 X body Y)(hs:∀x,foldedSetIterable iter X.env x=pure x:=by intro _;rfl):PS X (.For tg iter body [] pos) (adm U g Y):=by
 intro pins s σ H D I h;refine wpAny_For (bU (hi pins s σ H _ I h) λv s1 h1=>bU h1 λac s2 h2=>?_) hs;obtain⟨it,y,Z,J,H2,e,I2,T,L,f2,W,⟨m0,w0⟩,z⟩:=h2;subst e--what stays true of the iterator's objects through the loop
 have j:∀{H':Hp},(∀b∈y,H' b=none)->∀b∈y,qw X pins H' b:=λhn b c=>⟨hn b c,(f2 b c).2⟩;refine codeAny_forLoop_any (λn s'=>∃i σ' H',Inv X pins σ' H' s'/\Z i s'.heap/\(∀b∈y,H' b=none)/\W i n σ' H') ?_ m0 ⟨0,σ,H2,I2,L,λb c=>(f2 b c).1,w0⟩;rintro n s3⟨i,k,G,I3,B,C,w3⟩;rcases z i n k G w3 with⟨stop,qn⟩|⟨go,N,hN,step⟩;.refine wpAny_passesOwn t (bU (T.done X rfl rfl rfl hc i pins s3 k G X.xe I3 (j C) B stop) λr s4⟨hr,I4⟩=>?_);subst hr;exact wpAny_execs_nil ⟨k,G,I4,qn⟩
 . refine wpAny_passesOwn t (bU (T.item X rfl rfl rfl hc i pins s3 k G X.xe I3 (j C) B go) λr s4⟨u,hr,h4⟩=>?_);subst hr;refine wpAny_passesOwn t (bU h4 λ_ s5⟨x,H5,I5,r5,y5,st5,fr5⟩=>?_);have O:=I5.pinned (j fr5) (T.obj _ _ st5);refine wpAny_passesOwn t (bU (hg _ s5 k H5 x u _ O r5 (step x H5 y5)) λ_ s6⟨Q,H6,I6,q6⟩=>?_);refine wpAny_passesOwn t (bU (c _ s6 Q H6 _ I6 q6) λf s7 q=>?_);have again:∀{a:St}{l:Hp},Inv X (pins++uh y s5.heap) a l s7->N a l->∃m,m<n/\∃i σ' H',Inv X pins σ' H' s7/\Z i s7.heap/\(∀b∈y,H' b=none)/\W i m σ' H':=λ{a l}p E=>by obtain⟨m',hm,w7⟩:=hN a l E;refine⟨m',hm,i+1,a,l,p.oJ,T.keep _ _ _ st5 λb c o e=>(p.pin (b,o) (mem_append_right _ (mem_append_right _ (jF c e)))).1,λb c=>?_,w7⟩;obtain⟨o,e,d⟩:=T.obj _ _ st5 b c;exact(p.pin (b,o) (mem_append_right _ (mem_append_right _ (jF c e)))).2.1
   cases f with|next=>obtain⟨a,l,p,E⟩:=q;exact again p E|cont=>obtain⟨a,l,p,E⟩:=q;exact again p E|brk=>obtain⟨a,l,p,q⟩:=q;exact⟨a,l,p.oJ,q⟩|ret v=>obtain⟨x7,a,l,p,r7,q⟩:=q;exact⟨x7,a,l,p.oJ,r7,q⟩
end
noncomputable abbrev R2:=V->V->Hp->VK->Prop
noncomputable def gq(X:Cx)(f:Value->Value->Sem Value)(r:R2):Prop:=∀(pins:List (Addr × Obj))(s:Shared)(σ:St)(H:Hp)(x y:V)(v u:Value)(Q:VK),Inv X pins σ H s->RelV x v->RelV y u->r x y H Q->wpAny (model X.prog X.w) X.A (f v u) (EP X pins σ Q) X.xe s
noncomputable def UnR(X:Cx)(f:Value->Sem Value)(r:V->Hp->VK->Prop):Prop:=∀(pins:List (Addr × Obj))(s:Shared)(σ:St)(H:Hp)(x:V)(v:Value)(Q:VK),Inv X pins σ H s->RelV x v->r x H Q->wpAny (model X.prog X.w) X.A (f v) (EP X pins σ Q) X.xe s
noncomputable def du(X:Cx)(f:Value)(r:List V->Hp->VK->Prop):Prop:=∀(pins:List (Addr × Obj))(s:Shared)(σ:St)(H:Hp)(xs:List V)(us:List Value)(Q:VK),Inv X pins σ H s->Vals xs us->r xs H Q->wpAny (model X.prog X.w) X.A (call f us) (EP X pins σ Q) X.xe s
noncomputable def Vw(r:R2)(a b:TE):TE:=λσ H Q=>a σ H λx c=>b σ c λy e=>r x y e Q
noncomputable def tUn(r:V->Hp->VK->Prop)(a:TE):TE:=λσ H Q=>a σ H λx b=>r x b Q
noncomputable def rI(C:Int->Int->Prop)(g:Int->Int->V):R2:=λx y H Q=>∃i j,x=.int i/\y=.int j/\C i j/\Q (g i j) H
noncomputable def Mj(g:Int->Int->V):R2:=λx y H Q=>∃i j,x=.int i/\y=.int j/\Q (g i j) H
noncomputable def rU(g:Int->V):V->Hp->VK->Prop:=λx H Q=>∃i,x=.int i/\Q (g i) H
section
variable{X:Cx}{a b c:Expr}{ta tb tc:TE}{pos:Pos}
theorem Tg(l:PE X a ta)(m:PE X b tb){σ:St}{R:V->V->Hp->Prop}(I:Inv X pins σ H s)(h:ta σ H λx k=>tb σ k λy e=>R x y e){Q:Value->Shared->Prop}{f:Value->Value->Sem Value}(n:∀v u s2 x y e,Inv X pins σ e s2->RelV x v->RelV y u->R x y e->wpAny (model X.prog X.w) X.A (f v u) Q X.xe s2):wpAny (model X.prog X.w) X.A (eval a X.env) (λv g=>wpAny (model X.prog X.w) X.A (eval b X.env) (λu j=>wpAny (model X.prog X.w) X.A (f v u) Q X.xe j) X.xe g) X.xe s:=by refine bU (l pins s σ H _ I h) λv s1⟨x,k,I1,r1,q1⟩=>?_;refine bU (m pins s1 σ k _ I1 q1) λu s2⟨y,e,I2,r2,q2⟩=>?_;exact n v u s2 x y e I2 r1 r2 q2
theorem aax{op:Operator}{r:R2}(ho:gq X (binaryOp op) r)(e:PE X a ta)(f:PE X b tb):PE X (.BinOp a op b pos) (Vw r ta tb):=by intro pins s σ H Q I h;exact wpAny_BinOp (Tg e f I h λv u s2 x y g j k l q=>ho pins s2 σ g x y v u Q j k l q)
theorem aaD{op:UnaryOp}{r:V->Hp->VK->Prop}(ho:UnR X (unaryOp op) r)(e:PE X a ta):PE X (.UnaryOp op a pos) (tUn r ta):=by intro pins s σ H Q I h;exact UnaryOp_ (bU (e pins s σ H _ I h) λv s1⟨x,H1,I1,r1,q1⟩=>ho pins s1 σ H1 x v Q I1 r1 q1)
theorem opI{f:Value->Value->Sem Value}{C:Int->Int->Prop}{g:Int->Int->Int}(rule:∀(i j:Int)(t u:Tok)(s:Shared)(Q:Value->Shared->Prop)(E:Value->Shared->Prop),C i j->Q (.int (g i j) s.toks) {s with toks:=s.toks+1}->wpAny (model X.prog X.w) X.A (f (.int i t) (.int j u)) Q E s):gq X f (rI C λi j=>.int (g i j)):=by intro pins s σ H x y v u Q I e k h;obtain⟨i,j,rfl,rfl,hc,q⟩:=h;obtain⟨t,rfl⟩:=e;obtain⟨t',rfl⟩:=k;exact rule i j t t' s _ _ hc ⟨.int (g i j),H,I.tok _,⟨_,rfl⟩,q⟩
theorem aao{f:Value->Value->Sem Value}{g:Int->Int->Int}(rule:∀(i j:Int)(t u:Tok)(s:Shared)(Q:Value->Shared->Prop)(E:Value->Shared->Prop),Q (.int (g i j) s.toks) {s with toks:=s.toks+1}->wpAny (model X.prog X.w) X.A (f (.int i t) (.int j u)) Q E s):gq X f (Mj λi j=>.int (g i j)):=by intro pins s σ H x y v u Q I e k h;obtain⟨i,j,rfl,rfl,q⟩:=h;obtain⟨t,rfl⟩:=e;obtain⟨t',rfl⟩:=k;exact rule i j t t' s _ _ ⟨.int (g i j),H,I.tok _,⟨_,rfl⟩,q⟩
theorem Nt{f:Value->Value->Sem Value}{g:Int->Int->Bool}(rule:∀(i j:Int)(t u:Tok)(s:Shared)(Q:Value->Shared->Prop)(E:Value->Shared->Prop),Q (.bool (g i j)) s->wpAny (model X.prog X.w) X.A (f (.int i t) (.int j u)) Q E s):gq X f (Mj λi j=>.bl (g i j)):=by intro pins s σ H x y v u Q I e k h;obtain⟨i,j,rfl,rfl,q⟩:=h;obtain⟨t,rfl⟩:=e;obtain⟨t',rfl⟩:=k;exact rule i j t t' s _ _ ⟨.bl (g i j),H,I,rfl,q⟩
noncomputable def aet(i j:Int):Prop:=0<=j/\j<=1000000/\i.natAbs<2^64
noncomputable def Vm(i j:Int):Prop:=(-(2^64)<i/\i<2^64)\/(-(2^64)<j/\j<2^64)
theorem Vm.ok{i j:Int}(h:Vm i j):IntMulOk i j:=by
 rcases h with⟨h1,e⟩|⟨h1,e⟩;.exact .of_left (intBits_le_64 h1 e)
 .exact .of_right (intBits_le_64 h1 e)
theorem Wj:gq X (binaryOp .Add) (Mj λi j=>.int (i+j)):=aao λ_ _ _ _ _ _ _ q=>add_int q
theorem Uz:gq X (binaryOp .Sub) (Mj λi j=>.int (i-j)):=aao λ_ _ _ _ _ _ _ q=>sub_int q
theorem Up:gq X (binaryOp .Mult) (rI Vm λi j=>.int (i*j)):=opI λ_ _ _ _ _ _ _ hc q=>mul_int q hc.ok
theorem T8:gq X (binaryOp .Mod) (rI (λ_ j=>0<j) λi j=>.int (i%j)):=opI λi j _ _ _ _ _ hc q=>by have h1:(0:Int)<j:=hc;exact mod_int' (by omega) (by rw[Int.fmod_eq_emod_of_nonneg i (by omega)];exact q)
theorem S8:gq X (binaryOp .Pow) (rI aet λi j=>.int (i^j.toNat)):=opI λ_ _ _ _ _ _ _ hc q=>pow_int_small hc.1 hc.2.1 hc.2.2 q
theorem unI{f:Value->Sem Value}{g:Int->Int}(rule:∀(i:Int)(t:Tok)(s:Shared)(Q:Value->Shared->Prop)(E:Value->Shared->Prop),Q (.int (g i) s.toks) {s with toks:=s.toks+1}->wpAny (model X.prog X.w) X.A (f (.int i t)) Q E s):UnR X f (rU λi=>.int (g i)):=by intro pins s σ H x v Q I e h;obtain⟨i,rfl,q⟩:=h;obtain⟨t,rfl⟩:=e;exact rule i t s _ _ ⟨.int (g i),H,I.tok _,⟨_,rfl⟩,q⟩
theorem Sd:UnR X (unaryOp .USub) (rU λi=>.int (-i)):=unI λ_ _ _ _ _ q=>neg_int q
end
section
variable{X:Cx}{a b c:Expr}{ta tb tc:TE}{pos:Pos}
theorem U8{σ:St}{Q:VK}{k f:Bool}(I:Inv X pins σ H s)(q:Q (.bl k) H)(e:k=f):EP X pins σ Q (.bool f) s:=by subst e;exact⟨.bl k,H,I,rfl,q⟩
theorem Y0:gq X (compareOp .Lt) (Mj λi j=>.bl (decide (i<j))):=Nt λ_ _ _ _ _ _ _ q=>lt_int q
theorem Z3:gq X (compareOp .LtE) (Mj λi j=>.bl (decide (i<=j))):=Nt λ_ _ _ _ _ _ _ q=>le_int q
theorem aaQ:gq X (compareOp .Gt) (Mj λi j=>.bl (decide (j<i))):=Nt λ_ _ _ _ _ _ _ q=>gt_int q
theorem YF:gq X (compareOp .GtE) (Mj λi j=>.bl (decide (j<=i))):=Nt λ_ _ _ _ _ _ _ q=>ge_int q
theorem Qg:gq X (compareOp .IsNot) (λx y H Q=>y=.non/\Q (.bl (!decide (x=.non))) H):=by intro pins s σ H x y v u Q I e f h;obtain⟨rfl,q⟩:=h;cases f;refine isnot_none_gen (U8 I q ?_);cases x<;>first|(cases e;rfl)|(obtain⟨t,rfl⟩:=e;rfl)
theorem adR{op:CmpOp}{es:List Expr}{k:Nat}{p:Pos}(e:(op==CmpOp.In)=false)(f:(op==CmpOp.NotIn)=false):behindInMarks op (.Set es k p)=false:=by show(k==0&&(op==CmpOp.In||op==CmpOp.NotIn)&&_)=false;rw[e,f];cases(k==0)<;>rfl
theorem bO(b:Expr)(h:op≠.In:=by decide)(e:op≠.NotIn:=by decide):behindInMarks op b=false:=by
 have f:(op==CmpOp.In)=false:=by cases op<;>first|rfl|exact absurd rfl h
 have g:(op==CmpOp.NotIn)=false:=by cases op<;>first|rfl|exact absurd rfl e
 cases b<;>first|rfl|exact adR f g
theorem Mv{r:R2}(ho:gq X (compareOp op) r)(e:PE X a ta)(f:PE X b tb)(g:behindInMarks op b=false):PE X (.Compare a [op] [b] pos) (Vw r ta tb):=by intro pins s σ H Q I h;exact wpAny_Compare1 (Tg e f I h λv u s2 x y j k l m q=>ho pins s2 σ j x y v u Q k l m q) g
noncomputable def QM(t:TE):TT:=λσ H Q=>t σ H λx H'=>∃k,x=.bl k/\Q k H'
theorem Ck{r:R2}(ho:gq X (compareOp op) r)(f:PE X a ta)(g:PE X b tb)(j:behindInMarks op b=false):PT X (.Compare a [op] [b] pos) (QM (Vw r ta tb)):=by intro pins s σ H Q I h;refine wpAny_isTrue_Compare1 (bU (f pins s σ H _ I h) λv s1⟨x,H1,I1,r1,q1⟩=>bU (g pins s1 σ H1 _ I1 q1) λu s2⟨y,H2,I2,r2,q2⟩=>bU (ho pins s2 σ H2 x y v u _ I2 r1 r2 q2) λc s3⟨z,H3,I3,r3,k,e,q3⟩=>?_) j;subst e;cases r3;exact wpAny_truthy_bool ⟨H3,I3,q3⟩
noncomputable def zO(r f:R2)(ta tb tc:TE):TE:=λσ H Q=>ta σ H λx g=>tb σ g λy j=>r x y j λz e=>∃k,z=.bl k/\(if k=true then tc σ e λl m=>f y l m Q else Q (.bl false) e)
theorem Ks{f:CmpOp}{r j:R2}(ho:gq X (compareOp op) r)(g:gq X (compareOp f) j)(l:PE X a ta)(m:PE X b tb)(hc:PE X c tc)(n:lastMarks [op,f] [b,c]=false:=by with_unfolding_all rfl):PE X (.Compare a [op,f] [b,c] pos) (zO r j ta tb tc):=by intro pins s σ H Q I h;refine Compare_chain (bU (l pins s σ H _ I h) λv s1⟨x,H1,I1,r1,q1⟩=>chain_link (bU (m pins s1 σ H1 _ I1 q1) λu s2⟨y,H2,I2,r2,q2⟩=>bU (ho pins s2 σ H2 x y v u _ I2 r1 r2 q2) λd s3⟨z,H3,I3,r3,k,e,q3⟩=>?_)) n;subst e;cases r3;refine wpAny_truthy_bool ?_;cases k with|false=>exact ite_ff ⟨.bl false,H3,I3,rfl,q3⟩|true=>exact ite_tt (chain_last (bU (hc pins s3 σ H3 _ I3 q3) λo s4⟨p,H4,I4,r4,q4⟩=>g pins s4 σ H4 y p u o Q I4 r2 r4 q4))
theorem Jc{f:CmpOp}{r j:R2}(ho:gq X (compareOp op) r)(g:gq X (compareOp f) j)(l:PE X a ta)(m:PE X b tb)(hc:PE X c tc)(n:lastMarks [op,f] [b,c]=false:=by with_unfolding_all rfl):PT X (.Compare a [op,f] [b,c] pos) (QM (zO r j ta tb tc)):=by intro pins s σ H Q I h;refine isTrue_chain (bU (l pins s σ H _ I h) λv s1⟨x,H1,I1,r1,q1⟩=>test_link (bU (m pins s1 σ H1 _ I1 q1) λu s2⟨y,H2,I2,r2,q2⟩=>bU (ho pins s2 σ H2 x y v u _ I2 r1 r2 q2) λd s3⟨z,H3,I3,r3,k,e,q3⟩=>?_)) n;subst e;cases r3;refine wpAny_truthy_bool ?_;cases k with|false=>obtain⟨B,o,p⟩:=q3;cases o;exact ite_ff ⟨H3,I3,p⟩|true=>refine ite_tt (test_last (bU (hc pins s3 σ H3 _ I3 q3) λq s4⟨t,H4,I4,r4,q4⟩=>bU (g pins s4 σ H4 y t u q _ I4 r2 r4 q4) λd' s5⟨C,H5,I5,r5,k2,e2,q5⟩=>?_));subst e2;cases r5;exact wpAny_truthy_bool ⟨H5,I5,q5⟩
theorem tW:(sizeLine:Nat)<2^63:=by rw[sizeLine_eq];decide
theorem zP:gq X (binaryOp .Add) (λx y H Q=>∃i j,x=.str i/\y=.str j/\i.length+j.length<=sizeLine/\Q (.str (i++j)) H):=by intro pins s σ H x y v u Q I e f h;obtain⟨i,j,rfl,rfl,hz,q⟩:=h;obtain⟨t,rfl⟩:=e;obtain⟨t',rfl⟩:=f;exact add_str (λt' g=>⟨.str (i++j),H,I.tok _,⟨_,rfl⟩,q⟩) hz
theorem vals1{x:V}(r:Vals [x] us):∃u,us=[u]/\RelV x u:=by cases r with|cons r1 e=>cases e;exact⟨_,rfl,r1⟩
theorem vals2{x y:V}(r:Vals [x,y] us):∃u e,us=[u,e]/\RelV x u/\RelV y e:=by cases r with|cons r1 f=>cases f with|cons g j=>cases j;exact⟨_,_,rfl,r1,g⟩
theorem JR:du X (.builtin "abs") (λxs H Q=>∃i,xs=[.int i]/\Q (.int (if i<0 then-i else i)) H):=by intro pins s σ H xs us Q I r h;obtain⟨i,rfl,q⟩:=h;obtain⟨u,rfl,t,rfl⟩:=vals1 r;exact call_abs_int λu e=>⟨.int (if i<0 then-i else i),H,I.tok _,⟨_,rfl⟩,q⟩
theorem EY(hc:X.calm=true):du X (.builtin "max") (λxs H Q=>∃i j,xs=[.int i,.int j]/\Q (.int (if j>i then j else i)) H):=by
 intro pins s σ H xs us Q I r h;obtain⟨i,j,rfl,q⟩:=h;obtain⟨u,f,rfl,⟨t,rfl⟩,⟨t',rfl⟩⟩:=vals2 r;refine max_two_ints (I.ok.hd hc) λh' g k=>⟨_,H,I.kept k,?_,q⟩;by_cases e:j>i;.rw[if_pos e,if_pos e];exact⟨_,rfl⟩
 .rw[if_neg e,if_neg e];exact⟨_,rfl⟩
theorem Gs(hc:X.calm=true):du X (.builtin "min") (λxs H Q=>∃i j,xs=[.int i,.int j]/\Q (.int (if j<i then j else i)) H):=by
 intro pins s σ H xs us Q I r h;obtain⟨i,j,rfl,q⟩:=h;obtain⟨u,f,rfl,⟨t,rfl⟩,⟨t',rfl⟩⟩:=vals2 r;refine min_two_ints (I.ok.hd hc) λh' g k=>⟨_,H,I.kept k,?_,q⟩;by_cases e:j<i;.rw[if_pos e,if_pos e];exact⟨_,rfl⟩
 .rw[if_neg e,if_neg e];exact⟨_,rfl⟩
end
theorem qC.some_of{v:V}{o:Option Value}(r:qC (some v) o):∃u,o=some u/\RelV v u:=by cases o with|none=>exact(show False from r).elim|some u=>exact⟨u,rfl,r⟩
structure gM(k:Nat)(A:Around):Prop where
 hd:A.handled=none
 dp:A.depth+3*k+5<recursionLimit
 un:A.units+16*k+200<cLine
theorem gM.deeper{k:Nat}{A:Around}(r:gM (k+1) A)(env:Env):gM k (A.deeper env):=⟨r.hd,by have:=r.dp;show A.depth+1+3*k+5<_;omega,by have:=r.un;show A.units+3+16*k+200<_;omega⟩
theorem gM.depth{k:Nat}{A:Around}(r:gM k A):A.depth<recursionLimit:=by have:=r.dp;omega
noncomputable def aeV:TA:=λ_ H Q=>Q [] H
noncomputable def YM(a:TE)(b:TA):TA:=λσ H Q=>a σ H λx c=>b σ c λxs e=>Q (x::xs) e
section
variable{X:Cx}{e:Expr}{es:List Expr}{te:TE}{t:TA}{pos:Pos}
theorem cZ:PA X [] aeV:=λ_ _ _ _ H Q I h=>Calls.spliced_nil ⟨[],H,I,.nil,h⟩
theorem bz(a:PE X e te)(hr:PA X es t)(hs:starEach (e::es) X.env=(false,eval e X.env)::starEach es X.env:=by rfl):PA X (e::es) (YM te t):=by intro pos pins s σ H Q I h;rw[hs];show wpAny _ _ (spliced ((false,eval e X.env)::backTo pos (starEach es X.env))) _ _ s;refine Calls.spliced_cons (bU (a pins s σ H _ I h) λu s1⟨x,H1,I1,r1,q1⟩=>?_);exact bU (hr pos pins s1 σ H1 _ I1 q1) λus s2⟨xs,H2,I2,r2,q2⟩=>⟨x::xs,H2,I2,.cons r1 r2,q2⟩
noncomputable def adE(t:TA):TE:=λσ H Q=>t σ H λxs a=>xs.length<=sizeLine/\∀p,a p=none->Q (.ref p) (upd a p (.tup xs))
noncomputable def afu(t:TA):TE:=λσ H Q=>t σ H λxs a=>xs.length<=sizeLine/\∀p,a p=none->Q (.ref p) (upd a p (.lst xs))
theorem zU{x1}(h:PA X es t):PE X (.Tuple es x1 pos) (adE t):=by intro pins s σ H Q I a;refine wpAny_Tuple_spliced (bU (h pos pins s σ H _ I a) λus s1⟨xs,H1,I1,r,z,q⟩=>⟨by rw[<-r.length];exact z,?_⟩);have c:H1 s1.heap.objs.size=none:=I1.hok.fresh (eG);refine⟨.ref s1.heap.objs.size,upd H1 s1.heap.objs.size (.tup xs),I1.laid (t':=s1.toks) (λb u e=>gY e) (eG) ?_,rfl,q _ c⟩;exact⟨z,us,r,⟨_,get?_push_size _ rfl,rfl,_,rfl⟩⟩
theorem Wn(h:PA X es t):PE X (.List es pos) (afu t):=by intro pins s σ H Q I a;refine wpAny_List_spliced (bU (h pos pins s σ H _ I a) λus s1⟨xs,H1,I1,r,z,q⟩=>⟨by rw[<-r.length];exact z,?_⟩);have c:H1 s1.heap.objs.size=none:=I1.hok.fresh (eG);refine⟨.ref s1.heap.objs.size,upd H1 s1.heap.objs.size (.lst xs),I1.laid (t':=s1.toks) (λb u e=>gY e) (eG) ?_,rfl,q _ c⟩;exact⟨z,us,0,r,get?_push_size _ rfl⟩
end
noncomputable abbrev Sp:=List V->Hp->VK->XK->Prop
noncomputable abbrev GZ:=List Env->Hp->Shared->XK->Value->Shared->Prop
structure Nb(P:Program)(w:World)(K:PySem.W.Frag)(mg:Str->Option Value)(base:Heap)(A:Around)(outer:List Env)(s:Shared)(H:Hp):Prop where
 frames:A.frames=some outer
 mod:Mod K mg base
 bs:∀b o,base.get? b=some o->s.heap.get? b=some o/\H b=none
 G3:base.objs.size<=s.heap.objs.size
 mW:s.heap.FunFrames base outer
 Ml:∀b∈frs outer,H b=none
 hok:jT P w H s.heap
 bare:AllBare s.gens
noncomputable def CE(outer:List Env)(P:Program)(w:World)(H:Hp)(s:Shared)(Q:VK)(u:Value)(a:Shared):Prop:=∃v H',a.os=s.os/\AllBare a.gens/\Un (frs outer) [] H H' s.heap a.heap/\jT P w H' a.heap/\RelV v u/\Q v H'
noncomputable def CR(CX:GZ)(outer:List Env)(P:Program)(w:World)(H:Hp)(s:Shared)(Q:VK)(E:XK)(r:Result)(a:Shared):Prop:=match r with|.ok (.ret u)=>CE outer P w H s Q u a|.ok _=>False|.error e=>CX outer H s E e a
structure iT(P:Program)(w:World)(K:PySem.W.Frag)(mg:Str->Option Value)(base:Heap)(CX:GZ)(k:Nat)(f:Addr)(fd:FuncData)(ps:List Str)(sp:Sp):Prop where
 len:∀vs H Q E,sp vs H Q E->vs.length=ps.length
 run:∀(A:Around)(outer:List Env)(s:Shared)(H:Hp)(args:Args)(us:List Value)(vs:List V)(Q:VK)(E:XK),gM k A->Nb P w K mg base A outer s H->BindsTo s fd args (ps.zip us)->Vals vs us->sp vs H Q E->codeAny (model P w) A (.call (.ref f) args) (CR CX outer P w H s Q E) s
section
variable{X:Cx}{pins:List (Addr×Obj)}{σ:St}{H:Hp}{s s':Shared}
theorem Inv.env0(I:Inv X pins σ H s):Nb X.prog X.w X.K X.mg X.base X.A X.stack s H:=⟨I.ok.frames,I.ok.mod,I.bs,le_trans I.ok.G3 I.sz,I.stack,I.qQ,I.hok,I.bare⟩
theorem Inv.after{Q:VK}{u:Value}(I:Inv X pins σ H s)(h:CE X.stack X.prog X.w H s Q u s'):EP X pins σ Q u s':=by obtain⟨v,H',os,bare,un,hok,r,q⟩:=h;obtain⟨c,g,d,t,a⟩:=s';obtain rfl:a=s.os:=os;exact⟨v,H',I.call (h':=c) (g':=g) (d':=d) (t':=t) (ch:=[]) un hok bare (λb z=>absurd z (by simp)),r,q⟩
end
noncomputable def aad(sp:Sp)(a:List V)(E:XK)(t:TA):TE:=λσ H Q=>t σ H λvs b=>sp (vs++a) b Q E
noncomputable def Binds(K:PySem.W.Frag)(fd:FuncData)(ps:List Str)(a:List Value):Prop:=∀(s:Shared)(us:List Value),K.In s.heap->(us++a).length=ps.length->BindsTo s fd ⟨us,[]⟩ (ps.zip (us++a))
theorem Binds.all{fd:FuncData}{ps:List Str}(h:∀us:List Value,us.length=ps.length->bindArgs fd ⟨us,[]⟩=pure (ps.zip us)):Binds K fd ps []:=λs us _ a=>by rw[append_nil]at a ⊢;exact .of_eq (h us a)
noncomputable def Passes(CX:GZ)(X:Cx)(E:XK):Prop:=∀(pins:List (Addr×Obj))(σ:St)(H:Hp)(s:Shared)(e:Value)(a:Shared),Inv X pins σ H s->CX X.stack H s E e a->X.xe e a
section
variable{X:Cx}{CX:GZ}{k:Nat}{f C:Addr}{fd:FuncData}{ps:List Str}{sp:Sp}{RN:List V}{ds:List Value}{E:XK}{x m:Str}{p pos apos:Pos}{e o:Expr}{es:List Expr}{ta:TE}{t:TA}
theorem Vp{σ:St}{Q:VK}{vs:List V}(F:iT X.prog X.w X.K X.mg X.base CX k f fd ps sp)(hr:gM k X.A)(c:Binds X.K fd ps ds)(hd:Vals RN ds)(g:Passes CX X E)(I:Inv X pins σ H s)(r:Vals vs us)(h:sp (vs++RN) H Q E):wpAny (model X.prog X.w) X.A (call (.ref f) us) (EP X pins σ Q) X.xe s:=by
 have b:Vals (vs++RN) (us++ds):=r.append hd;have j:(us++ds).length=ps.length:=by rw[<-b.length];exact F.len _ _ _ _ h
 refine wpAny_call (codeAny_mono (F.run X.A X.stack s H ⟨us,[]⟩ (us++ds) (vs++RN) Q E hr I.env0 (c s us I.Mh j) b h) λr l a=>?_);cases r with|error e=>exact g pins σ H s e l I a|ok fl=>cases fl with|ret u=>exact I.after a|next=>exact False.elim a|brk=>exact False.elim a|cont=>exact False.elim a
theorem qR(F:iT X.prog X.w X.K X.mg X.base CX k f fd ps sp)(hr:gM k X.A)(b:Gl X x)(c:X.mg x=some (.ref f))(g:keepIn X.K (.ref f)=true)(j:Binds X.K fd ps ds)(hd:Vals RN ds)(l:Passes CX X E)(n:PA X (e::es) t)(a:(x==("__debug__":Str))=false:=by decide)(he:starEach (e::es) X.env=(false,eval e X.env)::starEach es X.env:=by rfl)(hpl:(backTo pos (starEach es X.env)).any (·.1)=false:=by rfl):PE X (.Call (.Name x p) (e::es) [] pos) (aad sp RN E t):=by intro pins s σ H Q I h;refine wpAny_Call_Name_kw (rC I b c ?_ a);refine PySem.W.callWith_K (h₀:=X.base) I.ok.mod.qX g (bU (n pos pins s σ H _ I h) λus s1⟨vs,H1,I1,r,q⟩=>⟨I1.Mh,?_⟩) he hpl;exact Vp F hr j hd l I1 r q
end
structure aM(N P:List Str)(sc:Scope):Prop where
 kind:sc.kind=.function:=by rfl
 co:sc.isCoroutine=false:=by rfl
 gen:sc.isGenerator=false:=by rfl
 nd:N.Nodup:=by decide+kernel
 pre:N.take P.length=P:=by rfl
 par:∀x∈P,sc.names.lookup x=some .local\/sc.names.lookup x=some .cell:=by decide+kernel
 Wv:∀y∈sc.names,y.2≠.free:=by decide+kernel
theorem vM{kindOf:Str->Option NameKind}{x:Str}:∀{binds:List (Str×Value)}{m:Str->Option Value},(∀v,(x,v)∉binds)->bindL kindOf binds m x=m x
 |[],_,_=>rfl|(n,v)::r,m,h=>by
   unfold bindL;rw[vM λw a=>h w (mem_cons_of_mem _ a)];split
   . have:x≠n:=by rintro rfl;exact h v mem_cons_self
     simp[this]
   .rfl
theorem vI{kindOf:Str->Option NameKind}{x:Str}:∀{binds:List (Str×Value)}{m:Str->Option Value},(∀v,(x,v)∉binds)->bindC kindOf binds m x=m x
 |[],_,_=>rfl|(n,v)::r,m,h=>by
   unfold bindC;rw[vI λw a=>h w (mem_cons_of_mem _ a)];split;.rfl
   . have:x≠n:=by rintro rfl;exact h v mem_cons_self
     simp[this]
theorem u0{kindOf:Str->Option NameKind}{x:Str}{v:Value}:∀{P:List Str}{vs:List Value}{i:Nat}{m:Str->Option Value},P.Nodup->P[i]?=some x->vs[i]?=some v->kindOf x=some .local->bindL kindOf (P.zip vs) m x=some v|[],_,_,_,_,h,_,_=>by simp at h|_::_,[],_,_,_,_,h,_=>by simp at h|p::P,w::vs,0,m,nd,h1,a,b=>by simp at h1 a;subst h1;subst a;show bindL kindOf ((p,w)::P.zip vs) m p=_;unfold bindL;rw[vM λv c=>(nodup_cons.mp nd).1 (of_mem_zip c).1,if_pos b];simp|p::P,w::vs,i+1,m,nd,h1,a,b=>by show bindL kindOf ((p,w)::P.zip vs) m x=_;unfold bindL;exact u0 (i:=i) (nodup_cons.mp nd).2 (by simpa using h1) (by simpa using a) b
theorem vK{kindOf:Str->Option NameKind}{x:Str}{v:Value}:∀{P:List Str}{vs:List Value}{i:Nat}{m:Str->Option Value},P.Nodup->P[i]?=some x->vs[i]?=some v->kindOf x≠some .local->bindC kindOf (P.zip vs) m x=some v|[],_,_,_,_,h,_,_=>by simp at h|_::_,[],_,_,_,_,h,_=>by simp at h|p::P,w::vs,0,m,nd,h1,a,b=>by simp at h1 a;subst h1;subst a;show bindC kindOf ((p,w)::P.zip vs) m p=_;unfold bindC;rw[vI λv c=>(nodup_cons.mp nd).1 (of_mem_zip c).1,if_neg b];simp|p::P,w::vs,i+1,m,nd,h1,a,b=>by show bindC kindOf ((p,w)::P.zip vs) m x=_;unfold bindC;exact vK (i:=i) (nodup_cons.mp nd).2 (by simpa using h1) (by simpa using a) b
noncomputable def start(N:List Str)(vs:List V):St:=vs.map some++replicate (N.length-vs.length) none
noncomputable def m9(CX:GZ)(P:Program)(w:World)(K:PySem.W.Frag)(mg:Str->Option Value)(base:Heap)(N:List Str)(qual:Str)(scope:Scope)(f:Addr)(b:Value)(A:Around)(outer:List Env)(s:Shared)(H:Hp)(E:XK):Cx where prog:=P;w:=w;K:=K;mg:=mg;base:=base;A:=A.deeper (envOfC qual scope s.heap.objs.size f b);N:=N;s₀:=s;H₀:=H;env:=envOfC qual scope s.heap.objs.size f b;outer:=outer;stack:=envOfC qual scope s.heap.objs.size f b::outer;ex:=[];calm:=true;fn:=λ_=>true;pn:=[];xe:=λe c=>wpAny (model P w) (A.deeper (envOfC qual scope s.heap.objs.size f b)) (leaving (envOfC qual scope s.heap.objs.size f b) e) (λ_ a=>CX outer H s E e a) (λg a=>CX outer H s E g a) c
theorem xT{a:Scope}{n:Nat}{x:Str}(h:a.names.lookup x=some .cell):∃c,(cellsFrom n a.names []).lookup x=some c:=by have q:=PySem.W.cellsFrom_some a.names n [] (.inl h);exact Option.isSome_iff_exists.mp q
theorem FT{CX:GZ}{P:Program}{mg:Str->Option Value}{base:Heap}{N ps:List Str}{qual:Str}{scope:Scope}{f:Addr}{t:Value}{outer:List Env}{s1:Shared}{E:XK}{vs:List V}(S:aM N ps scope)(hd:A.handled=none)(j:Nb P w K mg base A outer s H)(J:vs.length=ps.length)(r:Vals vs us)(x:InCallC s s.heap.objs.size (bindL (envOfC qual scope s.heap.objs.size f t).kindOf (ps.zip us) λ_=>none) (cellsFrom (s.heap.objs.size+1) scope.names []) (bindC (envOfC qual scope s.heap.objs.size f t).kindOf (ps.zip us) λ_=>none) s1):Inv (m9 CX P w K mg base N qual scope f t A outer s H E) [] (start N vs) H s1:=by
 have hpl:ps.length<=N.length:=by have:=congrArg List.length S.pre;rw[length_take]at this;omega
 obtain⟨h1,L,rfl,B⟩:=x.done;have l:∀b:Addr,b∉(m9 CX P w K mg base N qual scope f t A outer s H E).ex:=λb z=>absurd (show b∈([]:List Addr)from z) (by simp);refine⟨⟨j.mod,S.kind,rfl,rfl,eG,λy z c h1 g=>?_,λy hy=>?_,λy c _ h=>?_,λ_=>hd,Around.frames_deeper j.frames,.inr ⟨rfl,rfl⟩,λb z=>absurd z (l b),j.bs,j.G3,λb _ _=>l b,λb z=>absurd z (l b),j.mW,j.Ml⟩,rfl,j.bare,Un.kept B,⟨_,x.toInCall.ns,λi y v h1 g O=>?_⟩,λy c h=>⟨_,x.cell y c h⟩,j.hok.fresh (eG),λy c h=>?_,λp m=>absurd (show p∈([]:List (Addr×Obj))from m) (by simp),j.hok.kept B,?_⟩;.exact name_of_addr x.apart (PySem.mem_of_lookup h1) (PySem.mem_of_lookup g)
 . have hy:scope.names.lookup y=some .cell\/scope.names.lookup y=some .free:=hy;rcases hy with hy|hy;.exact xT hy
   .exact absurd rfl (S.Wv _ (PySem.mem_of_lookup hy))
 .exact le_of_lt (x.above y c (PySem.mem_of_lookup h))
 . have hi:i<vs.length:=by
    unfold start at g;by_cases hi:i<vs.length;.exact hi
    .rw[getElem?_append_right (by simpa using hi)]at g;rw[getElem?_replicate]at g;split at g<;>cases g
   have G:vs[i]?=some v:=by unfold start at g;rw[getElem?_append_left (by simpa using hi),getElem?_map]at g;cases e:vs[i]?with|none=>rw[e]at g;cases g|some a=>rw[e]at g;cases g;rfl
   obtain⟨u,C,I⟩:=r.get G;have m:ps[i]?=some y:=by rw[<-S.pre,List.getElem?_take_of_lt (by omega)];exact h1
   have o:ps.Nodup:=by rw[<-S.pre];exact S.nd.sublist (List.take_sublist _ _)
   refine⟨u,I,?_⟩;rcases S.par y (mem_of_getElem? m)with k|k;.exact .inl ⟨k,u0 o m C k⟩
   .obtain⟨c,e⟩:=xT (n:=s.heap.objs.size+1) k;refine .inr ⟨.inl k,c,e,?_⟩;have q:=x.cell y c e;rw[vK o m C (by show scope.names.lookup y≠_;rw[k];decide)]at q;exact q
 .exact j.hok.fresh (le_of_lt (x.above y c (PySem.mem_of_lookup h)))
 .unfold start;show _=N.length;rw[length_append,length_map,List.length_replicate];omega
theorem QR{CX:GZ}{P:Program}{w:World}{K:PySem.W.Frag}{mg:Str->Option Value}{base:Heap}{k:Nat}{f:Addr}{name qual:Str}{a:Arguments}{body:List Stmt}{scope:Scope}{C kV j G cdv ct oc:Value}{L od:Option Addr}{m:Array (Option Value)}{N ps:List Str}{sp:Sp}(lk:K.lookup f=some ⟨oc,od,.func (PySem.W.fnOf name qual a body scope C kV j G L cdv ct),m⟩)(p:PySem.W.codeIn K cdv qual=true)(S:aM N ps scope)(len:∀vs H Q E,sp vs H Q E->vs.length=ps.length)(c:∀(A:Around)(outer:List Env)(s:Shared)(H:Hp)(vs:List V)(Q:VK)(E:XK),gM k (A.deeper (envOfC qual scope s.heap.objs.size f cdv))->sp vs H Q E->∃t,o8 (m9 CX P w K mg base N qual scope f cdv A outer s H E) body t/\t {nx:=λ_ H'=>Q .non H',rt:=Q} (start N vs) H):iT P w K mg base CX (k+1) f (PySem.W.fnOf name qual a body scope C kV j G L cdv ct) ps sp:=by
 refine⟨len,λA outer s H args us vs Q E hr l U r hsp=>?_⟩;have Y:=len _ _ _ _ hsp;have O:K.In s.heap:=l.mod.qX.keeps λb o e=>(l.bs b o e).1;have lim:s.heap.NoLimit:=l.mod.nolimit.keeps λb o e=>(l.bs b o e).1;have g:∀y∈ps.zip us,scope.names.lookup y.1=some .local\/(scope.names.lookup y.1=some .cell/\((cellsFrom (s.heap.objs.size+1) scope.names []).lookup y.1).isSome=true):=λ⟨n,v⟩Z=>by
  rcases S.par n (of_mem_zip Z).1 with q|q;.exact .inl q
  .exact .inr ⟨q,PySem.W.cellsFrom_some _ _ _ (.inl q)⟩
 refine codeAny_call_function hr.depth (O _ _ lk) rfl S.co S.gen rfl (PySem.W.codeRec_of O p) (U _ _ _ _ ?_);refine wpAny_newFunctionEnv_cells S.kind g λenv he s1 x=>?_;subst he;refine⟨lim.keeps x.toInCall.keep,codeAny_func ?_⟩;obtain⟨t,ht,hq⟩:=c A outer s H vs Q E (hr.deeper _) hsp;have I:Inv (m9 CX P w K mg base N qual scope f cdv A outer s H E) [] (start N vs) H s1:=FT S hr.hd l Y r x;refine wpAny_mono (ht [] s1 (start N vs) H _ I hq) (λfl z hs=>?_) λe z hs=>hs;have fin:∀{σ':St}{H':Hp}{v:V}{u:Value},Inv (m9 CX P w K mg base N qual scope f cdv A outer s H E) [] σ' H' z->RelV v u->Q v H'->CE outer P w H s Q u z:=λ{σ' H' v u}J B q=>⟨v,H',J.os,J.bare,J.base,J.hok,B,q⟩;cases fl with|ret u=>obtain⟨v,σ',H',J,B,q⟩:=hs;exact fin J B q|next=>obtain⟨σ',H',J,q⟩:=hs;exact fin (v:=V.non) (u:=Value.none) J rfl q|brk=>obtain⟨_,_,_,q⟩:=hs;exact False.elim q|cont=>obtain⟨_,_,_,q⟩:=hs;exact False.elim q
section
variable{X:Cx}{x:Str}{p pos:Pos}{e:Expr}{es:List Expr}{t:TA}{id T:String}{r:List V->Hp->VK->Prop}
noncomputable def tCB(r:List V->Hp->VK->Prop)(t:TA):TE:=λσ H Q=>t σ H λvs a=>r vs a Q
theorem cX(hc:du X (.builtin id) r)(b:Gl X x)(c:X.mg x=none)(f:bootBuiltins x=some (.builtin id))(g:PA X (e::es) t)(j:x≠"__name__":=by decide)(a:(x==("__debug__":Str))=false:=by decide)(he:starEach (e::es) X.env=(false,eval e X.env)::starEach es X.env:=by rfl)(hpl:(backTo pos (starEach es X.env)).any (·.1)=false:=by rfl):PE X (.Call (.Name x p) (e::es) [] pos) (tCB r t):=by intro pins s σ H Q I h;refine wpAny_Call_Name_kw (mQ I b c f ?_ j a);exact PyProof.Rows.callWith_builtin1 (bU (g pos pins s σ H _ I h) λus s1⟨vs,H1,I1,r1,q1⟩=>hc pins s1 σ H1 vs us Q I1 r1 q1) he hpl
theorem pg(hc:du X (.type T) r)(b:Gl X x)(c:X.mg x=none)(f:bootBuiltins x=some (.type T))(g:PA X (e::es) t)(j:x≠"__name__":=by decide)(a:(x==("__debug__":Str))=false:=by decide)(he:starEach (e::es) X.env=(false,eval e X.env)::starEach es X.env:=by rfl)(hpl:(backTo pos (starEach es X.env)).any (·.1)=false:=by rfl):PE X (.Call (.Name x p) (e::es) [] pos) (tCB r t):=by intro pins s σ H Q I h;refine wpAny_Call_Name_kw (mQ I b c f ?_ j a);exact PyProof.Rows.callWith_type1 (bU (g pos pins s σ H _ I h) λus s1⟨vs,H1,I1,r1,q1⟩=>hc pins s1 σ H1 vs us Q I1 r1 q1) he hpl
end
end _L
namespace _U
open PySem PyProof.Rows
section
variable{prog:Program}{w:World}{A:Around}{E:Value->Shared->Prop}{s:Shared}
theorem Qo{t b:Addr}{vs ws:List Value}{Q:Value->Shared->Prop}(ht:IsTup s.heap t vs.toArray)(m:IsTup s.heap b ws.toArray)(j:vs≠[])(h1:ws=[]->Q (.ref t) s)(o:ws≠[]->Q (.ref s.heap.objs.size) {s with heap:=s.heap.push {cls:=.type "tuple",data:=.seq (vs++ws).toArray}})(hsz:vs.length+ws.length<=sizeLine):wpAny (model prog w) A (binaryOp .Add (.ref t) (.ref b)) Q E s:=by
 obtain⟨⟨cls,dd,data,sl⟩,ho,hc,n,hd⟩:=id ht;obtain⟨⟨k,c,data2,f⟩,a,g,l,h⟩:=id m;simp only at hc hd g h;subst hc hd g h;have e:vs.toArray++ws.toArray=(vs++ws).toArray:=by simp
 by_cases i:ws=[];.exact concat_meets ⟨_,ho,rfl⟩ ⟨_,a,rfl⟩ noFill_tuple_add seq_tuple_add slot_tuple_add entry_tuple_add (args_tuple_add_2 _ _) (tuple_addW1 t b vs.toArray ws.toArray n l dd c sl f (by simpa using j) (by simp[i])) ⟨ho,a,h1 i⟩
 .refine concat_meets ⟨_,ho,rfl⟩ ⟨_,a,rfl⟩ noFill_tuple_add seq_tuple_add slot_tuple_add entry_tuple_add (args_tuple_add_2 _ _) (tuple_addW2 t b vs.toArray ws.toArray n l dd c sl f (by simpa using j) (by simpa using i) (by rw[size_toArray,size_toArray];exact hsz)) ⟨ho,a,?_⟩;rw[e];exact o i
noncomputable def dH(n d:Nat):Option Int->Nat|none=>d|some v=>if v<0 then(v+(n:Int)).toNat else min v.toNat n
theorem V0(n d:Nat)(hd:d<=n)(o:Option Int):dH n d o<=n:=by cases o with|none=>exact hd|some v=>
   show(if v<0 then(v+(n:Int)).toNat else min v.toNat n)<=n;by_cases a:v<0;.rw[if_pos a];omega
   .rw[if_neg a];exact Nat.min_le_right _ _
theorem DG(v:Int)(n d:Nat):(if v<0 then max (v+(n:Int)) 0 else min v (n:Int))=((dH n d (some v):Nat):Int):=by
 show(if v<0 then max (v+(n:Int)) 0 else min v (n:Int))=(((if v<0 then(v+(n:Int)).toNat else min v.toNat n):Nat):Int);by_cases a:v<0;.simp only[if_pos a];omega
 .simp only[if_neg a];omega
theorem Aa(lo hi:Option Int)(n:Nat):sliceAdjust lo hi 1 (n:Int)=(((dH n 0 lo:Nat):Int),((dH n n hi:Nat):Int)):=by
 have h1:¬((1:Int)<0):=by omega
 unfold sliceAdjust;simp only[h1,if_false];refine Prod.ext ?_ ?_;.cases lo with|none=>rfl|some v=>exact DG v n 0
 .cases hi with|none=>rfl|some v=>exact DG v n n
theorem Be(i j:Nat):slicePlaces (i:Int) (j:Int) 1=j-i:=by
 unfold slicePlaces;have h1:(1:Int)>0:=by omega
 simp only[h1,if_true,Int.ediv_one];split<;>omega
theorem sX{v:Value}{o:Option Int}{Q:Option Int->Shared->Prop}(p:IsPart v o)(h:Q o s):wpAny (model prog w) A (Builtin.Slice.slicePartIndex v) Q E s:=by cases p with|none=>exact slicePart_none h|int i t=>exact slicePart_int h
theorem jq{sl:Addr}{c e:Value}{lo hi:Option Int}{n:Nat}{Q:Int×Int×Nat->Shared->Prop}(hs:s.heap.IsSliceOf sl c e .none)(f:IsPart c lo)(g:IsPart e hi)(h:Q (((dH n 0 lo:Nat):Int),1,dH n n hi-dH n 0 lo) s):wpAny (model prog w) A (sliceApplied (.ref sl) (pure (n:Int))) Q E s:=by obtain⟨os,a,i,b⟩:=id hs;unfold sliceApplied Builtin.Slice.sliceFields;refine wpAny_bind (wpAny_bind (wpAny_field a b (x:=c) rfl (wpAny_bind (wpAny_field a b (x:=e) rfl (wpAny_bind (wpAny_field a b (x:=.none) rfl (wpAny_pure ?_)))))));refine wpAny_bind (slicePart_none ?_);show wpAny _ _ (if((1:Int)==0)=true then _ else _) _ _ s;rw[if_neg (by decide)];refine wpAny_bind (sX f (wpAny_bind (sX g (wpAny_bind (wpAny_pure ?_)))));show wpAny _ _ (match sliceAdjust lo hi 1 (n:Int)with|(lo,hi)=>pure (lo,(1:Int),slicePlaces lo hi 1)) _ _ s;rw[Aa lo hi n];show wpAny _ _ (pure (((dH n 0 lo:Nat):Int),(1:Int),slicePlaces ((dH n 0 lo:Nat):Int) ((dH n n hi:Nat):Int) 1)) _ _ s;rw[Be];exact wpAny_pure h
theorem K7(xs:Array Value)(i k:Nat):((List.range k).filterMap λ(m:Nat)=>xs[((i:Int)+(m:Int)*1).toNat]?).toArray=((xs.toList.drop i).take k).toArray:=by
 have e:(λ(m:Nat)=>xs[((i:Int)+(m:Int)*1).toNat]?)=λm=>xs[i+m]?:=by
  funext m;have:((i:Int)+(m:Int)*1).toNat=i+m:=by omega
  rw[this]
 rw[e];have:=pick_run xs i k;rw[List.filterMap_map]at this;have a:((λx=>xs[x]?)∘ λx=>i+x)=λm=>xs[i+m]?:=rfl;rw[a]at this;rw[this]
theorem oE{t sl:Addr}{items:Array Value}{g i:Value}{lo hi:Option Int}{Q:Value->Shared->Prop}(ht:IsTup s.heap t items)(hs:s.heap.IsSliceOf sl g i .none)(j:IsPart g lo)(k:IsPart i hi)(l:¬(dH items.size 0 lo=0/\dH items.size items.size hi=items.size))(h:Q (.ref s.heap.objs.size) {s with heap:=s.heap.push {cls:=.type "tuple",data:=.seq ((items.toList.drop (dH items.size 0 lo)).take (dH items.size items.size hi-dH items.size 0 lo)).toArray}})(hsz:items.size<=sizeLine):wpAny (model prog w) A (getItem (.ref t) (.ref sl)) Q E s:=by
 have a:sizeOk (.seq ((items.toList.drop (dH items.size 0 lo)).take (dH items.size items.size hi-dH items.size 0 lo)).toArray):=by show((items.toList.drop (dH items.size 0 lo)).take (dH items.size items.size hi-dH items.size 0 lo)).toArray.size<=sizeLine;rw[size_toArray,length_take,List.length_drop,length_toList];omega
 have o:dH items.size items.size hi<=items.size:=V0 _ _ (eG) hi;obtain⟨os,b,c,n⟩:=id hs;have e:s.TypeIs (.ref sl) "slice":=⟨os,b,c⟩;unfold getItem;try with_reducible refine wpAny_holding ?_
 first|refine wpAny_bind (wpAny_pure ?_)|skip
 refine wpAny_bind (wpAny_sequenceKey ht.typeIs (by decide) ?_);refine wpAny_bind (wpAny_callSpecial?_slot (name:=Str.ofString "__getitem__") ht.typeIs PyProof.Rows.slot_tuple_getitem (wpAny_call_entry PyProof.Rows.slot_tuple_getitem ht.typeIs entry_tuple_getitem ?_ (args_tuple_getitem _ _)));show wpAny _ _ (tupleItemsOf (.ref t)>>=_) _ _ s;refine wpAny_bind (tupleItemsOf_ ht ?_);refine wpAny_bind (wpAny_typeOf e ?_);rw[if_pos (by decide)];refine wpAny_bind (jq hs j k ?_);have f:¬((((dH items.size 0 lo:Nat):Int)==0&&(1:Int)==1&&(dH items.size items.size hi-dH items.size 0 lo)==items.size)=true):=by intro q;rw[and_eq_true,and_eq_true]at q;have p:((dH items.size 0 lo:Nat):Int)=0:=eq_of_beq q.1.1;have r:dH items.size items.size hi-dH items.size 0 lo=items.size:=eq_of_beq q.2;exact l ⟨by omega,by omega⟩
 show wpAny _ _ (if(((dH items.size 0 lo:Nat):Int)==0&&(1:Int)==1&&(dH items.size items.size hi-dH items.size 0 lo)==items.size)=true then _ else _) _ _ s;rw[if_neg f,K7];first|exact wpAny_bind (m:=tupleExact _) (wpAny_newObj_type (wpAny_pure ⟨_,rfl,wpAny_pure h⟩) a)|exact wpAny_bind (m:=tupleExact _) (wpAny_newObj_type (wpAny_bind (wpAny_pure (wpAny_pure ⟨_,rfl,wpAny_pure h⟩))) a)|exact wpAny_bind (wpAny_bind (m:=tupleExact _) (wpAny_newObj_type (wpAny_pure (wpAny_pure ⟨_,rfl,wpAny_pure h⟩)) a))|exact wpAny_bind (wpAny_bind (m:=tupleExact _) (wpAny_newObj_type (wpAny_pure ⟨_,rfl,wpAny_pure h⟩) a))
end
end _U
namespace _L
open PySem Spec PyProof.Rows
variable{n:Nat}
noncomputable abbrev TO:=St->Hp->(Option Int->Hp->Prop)->Prop
noncomputable def PO(X:Cx)(e:Option Expr)(t:TO):Prop:=∀(a:List (Addr × Obj))(s:Shared)(σ:St)(H:Hp)(Q:Option Int->Hp->Prop),Inv X a σ H s->t σ H Q->wpAny (model X.prog X.w) X.A (evalPart e X.env) (λu b=>∃o H',Inv X a σ H' b/\IsPart u o/\Q o H') X.xe s
noncomputable def PQ:TO:=λ_ H Q=>Q none H
noncomputable def ZC(t:TE):TO:=λσ H Q=>t σ H λx a=>∃i,x=.int i/\Q (some i) a
section
variable{X:Cx}{e:Expr}{te:TE}{lo hi:Option Expr}{tl th:TO}{pos p2:Pos}
theorem Oh:PO X none PQ:=by intro a s σ H Q I h;rw[evalPart_none];exact wpAny_pure ⟨none,H,I,.none,h⟩
theorem Qj(h:PE X e te):PO X (some e) (ZC te):=by intro a s σ H Q I b;rw[evalPart_some];refine bU (h a s σ H _ I b) λu s1⟨x,H1,I1,r1,q1⟩=>?_;obtain⟨i,rfl,q⟩:=q1;obtain⟨t,rfl⟩:=r1;exact⟨some i,H1,I1,.int i t,q⟩
noncomputable def SlR(X:Cx)(r:V->Option Int->Option Int->Hp->VK->Prop):Prop:=∀(a:List (Addr × Obj))(s:Shared)(σ:St)(H:Hp)(x:V)(v b c:Value)(lo hi:Option Int)(sl:Addr)(Q:VK),Inv X a σ H s->RelV x v->s.heap.IsSliceOf sl b c .none->IsPart b lo->IsPart c hi->r x lo hi H Q->∃T id,typeLookup (.type T) "__getitem__"=pure (some (.builtin id))/\s.TypeIs v T/\wpAny (model X.prog X.w) X.A (getItem v (.ref sl)) (EP X a σ Q) X.xe s
noncomputable def tSl(r:V->Option Int->Option Int->Hp->VK->Prop)(te:TE)(tl th:TO):TE:=λσ H Q=>te σ H λx a=>tl σ a λl b=>th σ b λu c=>r x l u c Q
theorem ye{r:V->Option Int->Option Int->Hp->VK->Prop}(hr:SlR X r)(he:PE X e te)(g:PO X lo tl)(i:PO X hi th):PE X (.Subscript e (.Slice lo hi none p2) pos) (tSl r te tl th):=by intro a s σ H Q I h;refine Subscript_ (bU (he a s σ H _ I h) λv s1⟨x,H1,I1,r1,q1⟩=>?_);refine wpAny_Slice (bU (g a s1 σ H1 _ I1 q1) λc s2⟨l,H2,I2,pl,q2⟩=>bU (i a s2 σ H2 _ I2 q2) λf s3⟨u,H3,I3,pu,q3⟩=>?_);rw[evalPart_none];refine wpAny_pure ?_;have j:Inv X a σ H3 {s3 with heap:=s3.heap.push {cls:=.type "slice",data:=.fields #[c,f,.none]}}:=I3.kept (t':=s3.toks) λb o q=>gY q;obtain⟨T,id,k,ht,m⟩:=hr a {s3 with heap:=s3.heap.push {cls:=.type "slice",data:=.fields #[c,f,.none]}} σ H3 x v c f l u s3.heap.objs.size Q j r1 (Heap.IsSliceOf.new ..) pl pu q3;show wpAny (model X.prog X.w) X.A (subscriptTail e (.Slice lo hi none p2) v (.ref s3.heap.objs.size)) (EP X a σ Q) X.xe {s3 with heap:=s3.heap.push {cls:=.type "slice",data:=.fields #[c,f,.none]}};exact tail_any (ops:=[.ref s3.heap.objs.size,v]) ht k m (by with_unfolding_all rfl)
noncomputable def xZ(xs:List V)(lo hi:Option Int):List V:=(xs.drop (_U.dH xs.length 0 lo)).take (_U.dH xs.length xs.length hi-_U.dH xs.length 0 lo)
theorem qi(xs:List V)(lo hi:Option Int):(xZ xs lo hi).length<=xs.length:=by unfold xZ;rw[length_take,List.length_drop];omega
noncomputable def aei(K:PySem.W.Frag):V->Option Int->Option Int->Hp->VK->Prop:=λx lo hi H Q=>∃a xs,x=.ref a/\jw K H a xs/\¬(_U.dH xs.length 0 lo=0/\_U.dH xs.length xs.length hi=xs.length)/\∀p,H p=none->Q (.ref p) (upd H p (.tup (xZ xs lo hi)))
theorem TF:SlR X (aei X.K):=by
 intro g s σ H x v p t lo hi sl Q I i hs j k h;obtain⟨a,xs,rfl,l,m,q⟩:=h;cases i;obtain⟨f,r,ht,hz⟩:=I.tuple l;have c:f.toArray.size=xs.length:=by rw[size_toArray];exact r.length.symm
 refine⟨"tuple",_,PyProof.Rows.slot_tuple_getitem.lookup,ht.typeIs,?_⟩;refine _U.oE ht hs j k (by rw[c];exact m) ?_ (by rw[c];exact hz);rw[c];refine⟨.ref s.heap.objs.size,_,I.laid (t':=s.toks) (o:=.tup (xZ xs lo hi)) (λb u q=>gY q) (eG) ?_,rfl,q _ (I.hok.fresh (eG))⟩;exact⟨le_trans (qi xs lo hi) hz,_,(r.drop (_U.dH xs.length 0 lo)).take (_U.dH xs.length xs.length hi-_U.dH xs.length 0 lo),IsTup.new _ _⟩
noncomputable def YT(K:PySem.W.Frag):R2:=λx y H Q=>∃a b xs ys,x=.ref a/\y=.ref b/\jw K H a xs/\jw K H b ys/\xs≠[]/\xs.length+ys.length<=sizeLine/\(ys=[]->Q (.ref a) H)/\(ys≠[]->∀p,H p=none->Q (.ref p) (upd H p (.tup (xs++ys))))
theorem Vals.qW{xs:List V}{a:List Value}(r:Vals xs a):a=[]↔xs=[]:=by cases r with|nil=>simp|cons _ _=>simp
theorem Oj:gq X (binaryOp .Add) (YT X.K):=by intro f s σ H x y v u Q I i j h;obtain⟨a,b,xs,ys,rfl,rfl,k,l,m,hz,p,r⟩:=h;cases i;cases j;obtain⟨t,r1,A,_⟩:=I.tuple k;obtain⟨g,c,p2,_⟩:=I.tuple l;refine _U.Qo A p2 (λz=>m (r1.qW.mp z)) (λz=>⟨.ref a,H,I,rfl,p (c.qW.mp z)⟩) (λz=>?_) (by rw[<-r1.length,<-c.length];exact hz);refine⟨.ref s.heap.objs.size,_,I.laid (t':=s.toks) (o:=.tup (xs++ys)) (λb B q=>gY q) (eG) ?_,rfl,r (λw=>z (c.qW.mpr w)) _ (I.hok.fresh (eG))⟩;exact⟨by rw[length_append];exact hz,_,r1.append c,IsTup.new _ _⟩
end
noncomputable def j9(n:Nat)(i:Int):Option Nat:=if 0<=i then(if i<n then some i.toNat else none)else if-(n:Int)<=i then some (i+n).toNat else none
noncomputable def JT{a:Type}(xs:List a)(i:Int):Option a:=(j9 xs.length i).bind λj=>xs[j]?
theorem Cy{i:Int}{j:Nat}(h:j9 n i=some j):seqIndex? i n=some j/\j<n/\-(n:Int)<=i/\i<n:=by
 unfold j9 at h;by_cases h0:0<=i
 . rw[if_pos h0]at h;by_cases h1:i<n;.rw[if_pos h1]at h;have e:i.toNat=j:=Option.some.inj h;exact⟨by rw[seqIndex_of h0 h1,e],by omega,by omega,h1⟩
   .rw[if_neg h1]at h;cases h
 . rw[if_neg h0]at h;by_cases h1:-(n:Int)<=i;.rw[if_pos h1]at h;have e:(i+n).toNat=j:=Option.some.inj h;exact⟨by rw[seqIndex_neg (by omega) h1,e],by omega,h1,by omega⟩
   .rw[if_neg h1]at h;cases h
theorem wC{a:Type}{xs:List a}{i:Int}{v:a}(h:JT xs i=some v):∃j,seqIndex? i xs.length=some j/\xs[j]?=some v/\j<xs.length/\-(xs.length:Int)<=i/\i<xs.length:=by unfold JT at h;cases e:j9 xs.length i with|none=>rw[e]at h;cases h|some j=>rw[e]at h;obtain⟨h1,b,c,f⟩:=Cy e;exact⟨j,h1,h,b,c,f⟩
noncomputable def qP(b:Expr):Prop:=∀o i,subscripted b false o i=operate [o,i] (getItem o i)
noncomputable def IxR(X:Cx)(r:R2):Prop:=∀(b slice:Expr)(a:List (Addr × Obj))(s:Shared)(σ:St)(H:Hp)(x y:V)(v u:Value)(Q:VK),Inv X a σ H s->RelV x v->RelV y u->r x y H Q->subscripted slice false v u=operate [v,u] (getItem v u)->wpAny (model X.prog X.w) X.A (subscriptTail b slice v u) (EP X a σ Q) X.xe s
noncomputable def MtR(X:Cx)(id:String)(r:V->List V->Hp->VK->Prop):Prop:=∀(a:List (Addr × Obj))(s:Shared)(σ:St)(H:Hp)(x:V)(xs:List V)(v:Value)(b:List Value)(Q:VK),Inv X a σ H s->RelV x v->Vals xs b->r x xs H Q->wpAny (model X.prog X.w) X.A (call (.builtin id) (v::b)) (EP X a σ Q) X.xe s
section
variable{X:Cx}{a b:Expr}{ta tb:TE}{pos:Pos}
theorem KN{r:R2}(hr:IxR X r)(e:PE X a ta)(f:PE X b tb)(hs:qP b):PE X (.Subscript a b pos) (Vw r ta tb):=by intro c s σ H Q I h;exact Subscript_ (Tg e f I h λv u s2 x y g i j k q=>hr a b c s2 σ g x y v u Q i j k q (hs _ _))
noncomputable def aah(K:PySem.W.Frag):R2:=λx y H Q=>∃p xs i v,x=.ref p/\y=.int i/\fM K H p xs/\JT xs i=some v/\Q v H
noncomputable def afc(K:PySem.W.Frag):R2:=λx y H Q=>∃p xs i v,x=.ref p/\y=.int i/\jw K H p xs/\JT xs i=some v/\Q v H
theorem Dk:IxR X (aah X.K):=by
 intro e slice c s σ H x y v u Q I m o h hs;obtain⟨p,xs,i,z,rfl,rfl,A,he,q⟩:=h;cases m;obtain⟨t,rfl⟩:=o;obtain⟨f,r,g,hz⟩:=I.list A;obtain⟨j,h1,B,M,C,E⟩:=wC he;obtain⟨w,l,G⟩:=r.get B;have J:=r.length;have N:=tW;have fin:EP X c σ Q w s:=⟨z,H,I,G,q⟩;by_cases h0:0<=i
 . have k:i.toNat=j:=by rw[seqIndex_of h0 E]at h1;exact Option.some.inj h1
   exact item_listR g.isList h0 (by omega) (by rw[k];simpa using l) fin hs
 . have k:(i+(f.toArray.size:Int)).toNat=j:=by rw[seqIndex_neg (by omega) C]at h1;rw[size_toArray,<-J];exact Option.some.inj h1
   exact subscriptTail_builtinR (x:=w) g.isList.typeIs slot_list_getitem.lookup (wpAny_getItem_list_neg (Q:=λr L=>r=w/\EP X c σ Q r L) g.isList (by omega) (by rw[size_toArray]<;>omega) (by omega) (by rw[k];simpa using l) ⟨rfl,fin⟩) hs
theorem VN:IxR X (afc X.K):=by intro e slice c s σ H x y v u Q I g k h hs;obtain⟨p,xs,i,z,rfl,rfl,l,he,q⟩:=h;cases g;obtain⟨t,rfl⟩:=k;obtain⟨m,r,f,hz⟩:=I.tuple l;obtain⟨j,h1,o,G,J,L⟩:=wC he;obtain⟨w,A,B⟩:=r.get o;have C:=r.length;have M:=tW;have fin:EP X c σ Q w s:=⟨z,H,I,B,q⟩;exact subscriptTail_builtinR (x:=w) f.typeIs slot_tuple_getitem.lookup (getItem_tuple (j:=j) (Q:=λr E=>r=w/\EP X c σ Q r E) f (by omega) (by omega) (by rw[size_toArray,<-C];exact h1) (by simpa using A) ⟨rfl,fin⟩) hs
theorem Bc(c:List Value)(n j:Nat)(u:Value):Obj.mapSeq (·.setIfInBounds j u) {cls:=.type "list",data:=.seq c.toArray n}={cls:=.type "list",data:=.seq (c.set j u).toArray n}:=by simp[Obj.mapSeq]
theorem Inv.lst{f:List (Addr×Obj)}{σ:St}{H:Hp}{s:Shared}{p:Addr}{xs:List V}(I:Inv X f σ H s)(h:H p=some (.lst xs)):∃(c:List Value)(n:Nat),Vals xs c/\s.heap.get? p=some {cls:=.type "list",data:=.seq c.toArray n}/\xs.length<=sizeLine:=by obtain⟨z,c,n,r,e⟩:=I.hok p _ h;exact⟨c,n,r,e,z⟩
theorem Inv.V5{c:List (Addr×Obj)}{σ:St}{H:Hp}{s:Shared}{p:Addr}{xs ys:List V}{g its':List Value}{n i:Nat}{f:Obj->Obj}(I:Inv X c σ H s)(h:H p=some (.lst xs))(ho:s.heap.get? p=some {cls:=.type "list",data:=.seq g.toArray n})(j:f {cls:=.type "list",data:=.seq g.toArray n}={cls:=.type "list",data:=.seq its'.toArray i})(r:Vals ys its')(hz:ys.length<=sizeLine)(t:Nat):Inv X c σ (upd H p (.lst ys)) {s with heap:=s.heap.update p f,toks:=t}:=by
 have e:(s.heap.update p f).get? p=some {cls:=.type "list",data:=.seq its'.toArray i}:=by rw[get?_update_self f ho (by rw[j]<;>rfl),j]
 refine I.write (x:=p) (e:=p) (by rw[h];trivial) (.inl rfl) (λb u k q=>(get?_update_other _ _ (Ne.symm k)).trans q) ⟨_,e⟩ ?_;exact⟨hz,its',i,r,e⟩
noncomputable def aaN:V->V->V->Hp->(Hp->Prop)->Prop:=λo i v H Q=>∃p xs k j,o=.ref p/\i=.int k/\H p=some (.lst xs)/\j9 xs.length k=some j/\Q (upd H p (.lst (xs.set j v)))
theorem set_list:Wq X aaN:=by
 intro c s σ H o i v C iv u Q I y z A h;obtain⟨p,xs,k,j,rfl,rfl,l,B,q⟩:=h;cases y;obtain⟨t,rfl⟩:=z;obtain⟨e,n,r,ho,hz⟩:=I.lst l;obtain⟨h1,E,m,w⟩:=Cy B;have f:=r.length;have G:=tW;have x:Inv X c σ (upd H p (.lst (xs.set j v))) {s with heap:=s.heap.update p (Obj.mapSeq (·.setIfInBounds j u))}:=I.V5 l ho (Bc e n j u) (r.set A j) (by rw[List.length_set];exact hz) s.toks;by_cases h0:0<=k
 . have g:k.toNat=j:=by rw[seqIndex_of h0 w]at h1;exact Option.some.inj h1
   exact PySem.W.ki_setAt ho h0 (by omega) (by rw[size_toArray,<-f];exact w) (by rw[g];exact⟨_,x,q⟩)
 . have g:(k+(e.toArray.size:Int)).toNat=j:=by rw[seqIndex_neg (by omega) m]at h1;rw[size_toArray,<-f];exact Option.some.inj h1
   exact PySem.W.ki_setBack ho (by omega) (by rw[size_toArray,<-f];exact m) (by omega) (by rw[g];exact⟨_,x,q⟩)
theorem v8(lo hi:Option Int)(n:Nat):(sliceBounds lo hi none n).1=((_U.dH n 0 lo:Nat):Int)/\(sliceBounds lo hi none n).2.1=((_U.dH n n hi:Nat):Int)/\(sliceBounds lo hi none n).2.2=1:=by
 refine⟨?_,?_,rfl⟩;.cases lo with|none=>simp[sliceBounds,_U.dH]|some i=>
     simp only[sliceBounds,_U.dH,getD_none,show(1:Int)>0 by decide,if_true];by_cases h:i<0;.simp only[h,if_true]<;>omega
     .simp only[h,if_false]<;>omega
 .cases hi with|none=>simp[sliceBounds,_U.dH]|some i=>
     simp only[sliceBounds,_U.dH,getD_none,show(1:Int)>0 by decide,if_true];by_cases h:i<0;.simp only[h,if_true]<;>omega
     .simp only[h,if_false]<;>omega
theorem uJ(c:List Value)(lo hi:Option Int):slicePick c.toArray lo hi none=((c.drop (_U.dH c.length 0 lo)).take (_U.dH c.length c.length hi-_U.dH c.length 0 lo)).toArray:=by obtain⟨h1,e,f⟩:=v8 lo hi c.toArray.size;unfold slicePick;rw[h1,e,f];simp only[sliceRange_one,pick_run,size_toArray]<;>rfl
noncomputable def adh(K:PySem.W.Frag):V->Option Int->Option Int->Hp->VK->Prop:=λx lo hi H Q=>∃a xs,x=.ref a/\fM K H a xs/\∀p,H p=none->Q (.ref p) (upd H p (.lst (xZ xs lo hi)))
theorem Nz:SlR X (adh X.K):=by intro e s σ H x v l m lo hi sl Q I f hs g i h;obtain⟨a,xs,rfl,j,q⟩:=h;cases f;obtain⟨k,r,ht,hz⟩:=I.list j;have c:=r.length;refine⟨"list",_,slot_list_getitem.lookup,ht.isList.typeIs,?_⟩;refine wpAny_getItem_list_slice ht.isList hs g i .none (by simp) ?_ (by rw[size_toArray]<;>omega);rw[uJ,<-c];refine⟨.ref s.heap.objs.size,_,I.laid (t':=s.toks) (o:=.lst (xZ xs lo hi)) (λb p q=>gY q) (eG) ?_,rfl,q _ (I.hok.fresh (eG))⟩;exact⟨le_trans (qi xs lo hi) hz,_,0,(r.drop (_U.dH xs.length 0 lo)).take (_U.dH xs.length xs.length hi-_U.dH xs.length 0 lo),get?_push_size _ rfl⟩
theorem wy:du X (.builtin "len") (λxs H Q=>∃p ys,xs=[.ref p]/\(fM X.K H p ys\/jw X.K H p ys)/\Q (.int ys.length) H):=by
 intro i s σ H xs k Q I r h;obtain⟨p,ys,rfl,hq,q⟩:=h;obtain⟨u,rfl,j⟩:=vals1 r;cases j;have l:=tW;rcases hq with hq|hq;.obtain⟨e,f,g,hz⟩:=I.list hq;have c:=f.length;exact Calls.call_len_list g.isList (by simp only[size_toArray]<;>omega) ⟨.int ys.length,H,I.tok _,⟨s.toks+1,by rw[size_toArray,c]⟩,q⟩
 .obtain⟨e,f,g,hz⟩:=I.tuple hq;have c:=f.length;exact len_tuple g (by simp only[size_toArray]<;>omega) ⟨.int ys.length,H,I.tok _,⟨s.toks+1,by rw[size_toArray,c]⟩,q⟩
theorem xn:du X (.type "list") (λxs H Q=>∃p ys,xs=[.ref p]/\(fM X.K H p ys\/jw X.K H p ys)/\∀l,H l=none->Q (.ref l) (upd H l (.lst ys))):=by
 intro i s σ H xs v Q I r h;obtain⟨p,ys,rfl,hq,q⟩:=h;obtain⟨u,rfl,t⟩:=vals1 r;cases t;have fin:∀(c:List Value),Vals ys c->ys.length<=sizeLine->∀(h':Heap)(f:Nat),(∀b m,s.heap.get? b=some m->h'.get? b=some m)->h'.get? s.heap.objs.size=some {cls:=.type "list",dict:=none,data:=.seq c.toArray f,slots:=#[]}->EP X i σ Q (.ref s.heap.objs.size) {s with heap:=h'}:=λc g hz h' f kp e=>⟨.ref s.heap.objs.size,_,I.laid (t':=s.toks) kp (eG) (show bA X.prog X.w _ h' _ (.lst ys)from⟨hz,c,f,g,e⟩),rfl,q _ (I.hok.fresh (eG))⟩;rcases hq with hq|hq;.obtain⟨c,g,k,hz⟩:=I.list hq;have j:=g.length;obtain⟨o,ho,hc,n,hd⟩:=k.isList;exact call_list_seq p (.inl rfl) ho hc hd (λh' f kp e=>fin c g hz h' f kp e) (by simp only[size_toArray]<;>omega)
 .obtain⟨c,g,k,hz⟩:=I.tuple hq;have j:=g.length;obtain⟨o,ho,hc,n,hd⟩:=k;exact call_list_seq p (.inr rfl) ho hc hd (λh' f kp e=>fin c g hz h' f kp e) (by simp only[size_toArray]<;>omega)
theorem mF:du X (.type "tuple") (λxs H Q=>∃p ys,xs=[.ref p]/\((fM X.K H p ys/\∀l,H l=none->Q (.ref l) (upd H l (.tup ys)))\/(jw X.K H p ys/\Q (.ref p) H))):=by
 intro c s σ H xs x Q I r h;obtain⟨p,ys,rfl,h⟩:=h;obtain⟨u,rfl,t⟩:=vals1 r;cases t;rcases h with⟨g,q⟩|⟨g,q⟩;.obtain⟨f,i,j,hz⟩:=I.list g;have k:=i.length;refine call_tuple_list j.isList (λh' kp=>?_) (by simp only[size_toArray]<;>omega);have m:Inv X c σ H {s with heap:=h'}:=I.kept (t':=s.toks) kp;have v:Inv X c σ (upd H h'.objs.size (.tup ys)) {s with heap:=h'.push {cls:=.type "tuple",data:=.seq f.toArray}}:=m.laid (t':=s.toks) (λb o e=>gY e) (eG) (show bA X.prog X.w _ _ _ (.tup ys)from⟨hz,f,i,IsTup.new _ _⟩);exact⟨.ref h'.objs.size,_,v,rfl,q _ (m.hok.fresh (eG))⟩
 .obtain⟨f,i,j,hz⟩:=I.tuple g;exact call_tuple_same j ⟨.ref p,H,I,rfl,q⟩
noncomputable def tyV(K:PySem.W.Frag)(T:String)(x:V)(H:Hp):Prop:=match x with|.str _=>T="str"|.int _=>T="int"|.ref p=>(T="list"/\∃xs,fM K H p xs)\/(T="tuple"/\∃o,K.lookup p=some o/\o.cls=.type "tuple"/\o.dict=none)\/(T="dict"/\((∃kvs,H p=some (.dK kvs))\/∃kvs,H p=some (.dT kvs)))\/(T="set"/\∃S n,H p=some (.set S n))|_=>False
theorem Ud{g:List (Addr×Obj)}{σ:St}{H:Hp}{s:Shared}{T:String}{x:V}{v:Value}(I:Inv X g σ H s)(r:RelV x v)(ty:tyV X.K T x H):
 s.TypeIs v T/\∀a,v=.ref a->∃j,s.heap.get? a=some j/\j.dict=none:=by cases x with|str z=>obtain⟨t,rfl⟩:=r;cases(show T="str"from ty);exact⟨typeIs_str s z t,λ_ e=>nomatch e⟩|int i=>obtain⟨t,rfl⟩:=r;cases(show T="int"from ty);exact⟨typeIs_int s i t,λ_ e=>nomatch e⟩|ref p=>
   cases r;rcases ty with⟨rfl,xs,l⟩|⟨rfl,o,f,hc,hd⟩|⟨rfl,f⟩|⟨rfl,S,n,f⟩;.obtain⟨m,_,k,_⟩:=I.list l;refine⟨k.isList.typeIs,λa e=>?_⟩;cases e;obtain⟨o,n,e,c,hd,_⟩:=k;exact⟨o,e,hd⟩
   .refine⟨⟨o,I.Mh p o f,hc⟩,λa e=>?_⟩;cases e;exact⟨o,I.Mh _ o f,hd⟩
   . have z:∃o,s.heap.get? p=some o/\o.ExactDict:=by
      rcases f with⟨kvs,f⟩|⟨kvs,f⟩;.obtain⟨_,_,_,_,o,_,_,e,ex,_⟩:=I.hok p _ f;exact⟨o,e,ex⟩
      .obtain⟨_,_,_,_,o,_,_,e,ex,_⟩:=I.hok p _ f;exact⟨o,e,ex⟩
     obtain⟨o,e,ex⟩:=z;refine⟨⟨o,e,ex.1⟩,λa h=>?_⟩;cases h;exact⟨o,e,ex.2.1⟩
   .obtain⟨o,_,_,_,e,ex,_⟩:=I.hok p _ f;refine⟨⟨o,e,ex.1⟩,λa h=>?_⟩;cases h;exact⟨o,e,ex.2.1⟩|_=>exact False.elim ty
noncomputable def tBM(K:PySem.W.Frag)(T:String)(r:V->List V->Hp->VK->Prop)(to:TE)(t:TA):TE:=λσ H Q=>to σ H λx c=>tyV K T x c/\t σ c λxs e=>r x xs e Q
variable{o e:Expr}{es:List Expr}{to:TE}{t:TA}{name:Str}{apos cpos:Pos}{T id:String}{r:V->List V->Hp->VK->Prop}
theorem Kg(m:PlainAttrs T)(slot:Slot T name id)(k:typeOf (.builtin id)=pure (.type "method_descriptor"))(p:MtR X id r)(ho:PE X o to)(q:PA X (e::es) t)(g:attributeBase o name X.env (eval o X.env)=eval o X.env:=by rfl)(j:((backTo cpos (starEach (e::es) X.env)).all (λx=>!x.1)&&(backToKw cpos (keywordEach [] X.env)).all (λx=>x.1.isSome)&&decide ((e::es).length+([]:List Keyword).length+(if([]:List Keyword).isEmpty then 0 else 1)<30))=true:=by rfl)(i:(apos.endLine==cpos.line)=true:=by rfl)(hs:starEach (e::es) X.env=(false,eval e X.env)::starEach es X.env:=by rfl)(f:(backTo cpos (starEach es X.env)).any (·.1)=false:=by rfl):PE X (.Call (.Attribute o name apos) (e::es) [] cpos) (tBM X.K T r to t):=by intro c s σ H Q I h;refine wpAny_Call_method_late g j i rfl (bU (ho c s σ H _ I h) λv s1⟨x,H1,I1,r1,ty,q1⟩=>?_);obtain⟨h1,u⟩:=Ud I1 r1 ty;refine⟨T,id,m,slot,k,h1,u,?_⟩;have l:=q cpos c s1 σ H1 _ I1 q1;rw[hs]at l ⊢;refine Calls.callWith_builtin (by show(false||(backTo cpos (starEach es X.env)).any (·.1))=false;rw[f]<;>rfl) (Calls.evalArgs_plain ?_);exact bU l λw s2⟨vs,H2,I2,r2,q2⟩=>p c s2 σ H2 x vs v w Q I2 r1 r2 q2
end
noncomputable def MtM(X:Cx)(id:String)(r:V->List V->Hp->VK->Prop):Prop:=∀(a:List (Addr × Obj))(s:Shared)(σ:St)(H:Hp)(x:V)(xs:List V)(v:Value)(b:List Value)(Q:VK),Inv X a σ H s->RelV x v->Vals xs b->r x xs H Q->wpAny (model X.prog X.w) X.A (call (.builtin id) (v::b)) (EP X a σ Q) X.xe s
theorem Vals.one:∀{x:V}{a:List Value},Vals [x] a->∃u,a=[u]/\RelV x u|x,a,h=>by cases h with|cons r t=>cases t;exact⟨_,rfl,r⟩
theorem Vals.two:∀{x y:V}{a:List Value},Vals [x,y] a->∃u v,a=[u,v]/\RelV x u/\RelV y v|x,y,a,h=>by cases h with|cons r t=>cases t with|cons q z=>cases z;exact⟨_,_,rfl,r,q⟩
theorem Vals.zero:∀{a:List Value},Vals [] a->a=[]|_,.nil=>rfl
theorem Vals.reverse{xs:List V}{a:List Value}(h:Vals xs a):Vals xs.reverse a.reverse:=by induction h with|nil=>exact .nil|cons r t b=>rw[reverse_cons,reverse_cons];exact Vals.append b (.cons r .nil)
theorem Vals.rep{xs:List V}{a:List Value}(h:Vals xs a):∀k:Nat,Vals (replicate k xs).flatten (replicate k a).flatten|0=>.nil|k+1=>by rw[replicate_succ,replicate_succ,flatten_cons,flatten_cons];exact Vals.append h (Vals.rep h k)
theorem foldl_rep(a:List Value):∀(k:Nat)(b:List Value),foldl (λc f=>c++f) b.toArray (replicate k a.toArray)=(b++(replicate k a).flatten).toArray
 |0,b=>by simp|k+1,b=>by
   have e:b.toArray++a.toArray=(b++a).toArray:=by simp
   have g:(b++a)++(replicate k a).flatten=b++(replicate (k+1) a).flatten:=by rw[replicate_succ,flatten_cons,append_assoc]
   rw[<-g,<-foldl_rep a k (b++a),<-e,replicate_succ,List.foldl_cons]
section
variable{X:Cx}{pins:List (Addr×Obj)}{σ:St}{H:Hp}{s:Shared}{l b:Addr}{xs ys zs:List V}
theorem Inv.Y7{a its':List Value}{f:Array Value->Array Value}{t':Nat}(I:Inv X pins σ H s)(c:H l=some (.lst xs))(e:s.heap.get? l=some {cls:=.type "list",data:=.seq a.toArray n})(g:f a.toArray=its'.toArray)(h:Vals ys its')(hz:ys.length<=sizeLine):Inv X pins σ (upd H l (.lst ys)) {s with heap:=s.heap.update l (Obj.mapSeq f),toks:=t'}:=by have q:=PySem.IsL.update e f;rw[g]at q;refine I.write (x:=l) (e:=l) (by rw[c];exact trivial) (.inl rfl) (λb' u i j=>(get?_update_other s.heap (Obj.mapSeq f) (Ne.symm i)).trans j) ⟨_,q⟩ ?_;exact⟨hz,its',_,h,q⟩
theorem Inv.Ub{a:List Value}{t':Nat}(I:Inv X pins σ H s)(c:Vals ys a)(hz:ys.length<=sizeLine):Inv X pins σ (upd H s.heap.objs.size (.lst ys)) {s with heap:=s.heap.push {cls:=.type "list",data:=.seq a.toArray},toks:=t'}:=I.laid (λ_ _ q=>gY q) (eG) ⟨hz,a,0,c,get?_push_size _ rfl⟩
theorem Inv.fresh(I:Inv X pins σ H s):H s.heap.objs.size=none:=I.hok.fresh (eG)
theorem Inv.R8(I:Inv X pins σ H s)(c:H l=some (.lst xs)):xs.length<=sizeLine/\∃(a:List Value)(n:Nat),Vals xs a/\xs.length=a.length/\s.heap.get? l=some {cls:=.type "list",data:=.seq a.toArray n}:=by obtain⟨z,a,n,r,e⟩:=I.hok l _ c;exact⟨z,a,n,r,r.length,e⟩
theorem yD(h:n<=sizeLine):listTooLong n=false:=by unfold listTooLong;exact decide_eq_false (by omega)
end
section
variable{X:Cx}
noncomputable def NP:V->List V->Hp->VK->Prop:=λx vs H Q=>∃l xs y,x=.ref l/\vs=[y]/\H l=some (.lst xs)/\xs.length<sizeLine/\Q .non (upd H l (.lst (xs++[y])))
theorem pR:MtM X "list.append" NP:=by intro b s σ H x vs v j Q I f g h;obtain⟨l,xs,y,rfl,rfl,c,hz,q⟩:=h;cases f;obtain⟨u,rfl,i⟩:=g.one;obtain⟨z,a,n,r,k,e⟩:=I.R8 c;refine call_meets F.slot_list_append ⟨_,e,rfl⟩ F.entry_list_append (F.args_list_append_2 _ _) (PySem.list_append l a.toArray n u (by rw[size_toArray];omega)) ⟨e,?_⟩;refine⟨.non,_,I.Y7 (its':=a++[u]) c e (by simp) (r.append (.cons i .nil)) ?_,rfl,q⟩;rw[length_append,List.length_singleton];omega
noncomputable def Qp:V->List V->Hp->VK->Prop:=λx vs H Q=>∃l b xs a,x=.ref l/\vs=[.ref b]/\H l=some (.lst xs)/\H b=some (.lst a)/\xs.length+a.length<=sizeLine/\Q .non (upd H l (.lst (xs++a)))
theorem Gb:MtM X "list.extend" Qp:=by
 intro g s σ H x vs v A Q I j k h;obtain⟨l,b,xs,B,rfl,rfl,i,m,hz,q⟩:=h;cases j;obtain⟨u,rfl,o⟩:=k.one;cases o;obtain⟨z,c,n,r,C,e⟩:=I.R8 i;obtain⟨E,a,p,t,w,y⟩:=I.R8 m;have hsz:c.toArray.size+a.toArray.size<=sizeLine:=by rw[size_toArray,size_toArray];omega
 have f:¬(!c.toArray.isEmpty&&listTooLong (c.toArray.size+a.toArray.size))=true:=by rw[yD hsz,Bool.and_false];exact Bool.false_ne_true
 refine call_meets F.slot_list_extend ⟨_,e,rfl⟩ F.entry_list_extend (F.args_list_extend_2 _ _) (AutoSeq1.list_extend_list_list_0 l c.toArray n b a.toArray p f (by rw[size_toArray];omega) (by omega)) ⟨e,y,?_⟩;refine⟨.non,_,I.Y7 (its':=c++a) i e (by simp) (r.append t) ?_,rfl,q⟩;rw[length_append];omega
theorem len_rep{a:Type}(xs:List a)(k:Nat):(replicate k xs).flatten.length=k*xs.length:=by induction k with|zero=>simp|succ k b=>rw[replicate_succ,flatten_cons,length_append,b,Nat.succ_mul,Nat.add_comm]
end
end _L
namespace _A
open PySem W Calls PyProof.Rows
theorem qF{P:Params}{h:Heap}:∀(ns:List Int)(vs:List Value),WellAll P h vs (ns.map WData.int)->IntsAre vs ns:=by intro ns;induction ns with|nil=>intro vs w;rw[map_nil]at w;cases w;exact .nil|cons n ns c=>intro vs w;rw[map_cons]at w;cases w with|cons a b=>cases a;exact .cons _ _ (c _ b)
theorem Et{l:OpenLaw}{n:Nat}(m:l.most=some n){P:Params}{h:Heap}{args:List WData}{b:List Value}(c:l.row.toRowW.claim.pre args=true)(j:WellAll P h b args):∃a vs ns,b=[Value.ref a]/\args=[WData.list (ns.map WData.int)]/\h.get? a=some {cls:=.type "list",data:=.seq vs.toArray}/\IntsAre vs ns/\ns.length<=n:=by
 have k:WShape.hasAll [] args [.list .int]=true:=(pre_splitW c).1;have hc:l.pre.holds [] {args:=args}=true:=(pre_splitW c).2;obtain⟨d,r,rfl,h1,o⟩:=hasAllW_cons k;obtain rfl:=hasAllW_nil o;obtain⟨xs,rfl,p⟩:=hasW_list h1;obtain⟨ns,rfl⟩:=items_int p;have e:ns.length<=n:=by
  unfold OpenLaw.pre at hc;have g:(WTm.not (.lt (.lit (.int (n:Int))) (.len (.arg 0)))).holds [] {args:=[.list (ns.map .int)]}=true:=by have g:=(holds_andW hc).1;rw[m]at g;exact g
  have i:=condW_of g (w_not (w_lt w_lit (w_len_list (w_arg rfl))));rw[length_map]at i;refine Nat.le_of_not_lt λq=>?_;have s:(n:Int)<((ns.length:Nat):Int):=by omega
  first|(rw[decide_eq_true s]at i;exact absurd i (by decide))|(simp at i;omega)
 cases j with|cons t u=>cases u;cases t with|list ho f=>exact⟨_,_,ns,rfl,rfl,ho,qF ns _ f,e⟩
theorem Ez(l:OpenLaw)(args:List WData):l.row.toRowW.claim.post args (.bool true) args=true:=postW_of (r:=l.row.toRowW) (X:=(true==true)) (show WShape.has [] (.bool true) .bool=true by first|rfl|decide|simp[WShape.has,WShape.arms,WShape.armsAll]) (show(WTm.eq .res (.lit (.bool true))).value [] {args:=args,res:=some (.bool true),after:=args}=some (.bool (true==true))from w_eq_bool (w_res rfl) w_lit) rfl
theorem yu{l:OpenLaw}{n:Nat}{q:Program}{c:List Str}{z:(Str->Option Value)->Heap->Prop}{A:World->Heap->Prop}{d:DefRec}(H:l.most=some n)(s:d.params.defaults=[])(call:∀(w:World)(s₀ b:Shared)(mg t:Str->Option Value)(h:Addr)(o:Obj)(u m e:Value)(a:Addr)(vs:List Value)(ns:List Int),Ground q c [] z w s₀ mg t b.heap->A w b.heap->b.heap.get? h=some o->o.data=.func (docDef d.name d.params d.body d.scope u m e)->b.heap.CodeRec m d.name->mg d.name=some (.ref h)->b.heap.get? a=some {cls:=.type "list",data:=.seq vs.toArray}->IntsAre vs ns->ns.length<=n->b.gens=#[]->codeAny (model l.prog w) callerA (.call (.ref h) ⟨[.ref a],[]⟩) (λr p=>r=.ok (.ret (.bool true))/\OldK b.heap p.heap/\p.os=b.os/\AllBare p.gens) b):WalkO q c z A l.row.toRowW d [] (λf vs=>PySem.call f vs):=by intro w s₀ b mg t G Y h o u m e I kV ho hd v B x J args C as i E L y M;obtain rfl:I=.none:=Dflts.none B s;obtain rfl:kV=.none:=Dflts.noKw B;obtain⟨a,vs,ns,rfl,rfl,j,g,k⟩:=Et H i y;refine enter_call (codeAny_mono (call w s₀ b mg t h o u m e a vs ns G Y ho (fd_plain hd) v x j g k J) λr p N=>?_);obtain⟨rfl,O,Q,U⟩:=N;exact⟨.inl ⟨.bool true,.bool true,[],rfl,λ_=>rfl,.bool true,Ez l _,λ_=>⟨List.Pairwise.nil,λ_ W=>(nomatch W)⟩⟩,O,Q,U⟩
end _A
namespace _L
open PySem Spec PyProof.Rows
theorem vJ:∀{vs:List Value}{ns:List Int},IntsAre vs ns->Vals (ns.map V.int) vs|_,_,.nil=>.nil|_,_,.cons n t h=>.cons ⟨t,rfl⟩ (vJ h)
noncomputable def Only(H:Hp):Prop:=∀b,H b=none\/∃o xs,H b=some (.dz o (.lst xs))
theorem Ku{P:Program}{w:World}{K:PySem.W.Frag}{mg G:Str->Option Value}{CX:GZ}{k:Nat}{I a:Addr}{fd:FuncData}{x:Str}{sp:Sp}{c:Shared}{vs:List Value}{ns:List Int}(O:K.In c.heap)(p:c.heap.Ns mainGlobals mg)(f:c.heap.Ns builtinsNs G)(J:∀x:Str,x≠"__name__"->G x=bootBuiltins x)(t:c.heap.NoLimit)(hg:c.gens=#[])(E:c.heap.get? a=some {cls:=.type "list",data:=.seq vs.toArray})(hi:IntsAre vs ns)(Q:ns.length<=sizeLine)(hr:gM k callerA)(F:∀base:Heap,K.In base->base.Ns mainGlobals mg->iT P w K mg base CX k I fd [x] sp)(l:∀(s:Shared)(u:Value),BindsTo s fd ⟨[u],[]⟩ [(x,u)])(hsp:∀H:Hp,Only H->fM K H a (ns.map V.int)->sp [.ref a] H (λv _=>v=.bl true) λ_ _ _=>False)(L:∀H e g,CX [] H c (λ_ _ _=>False) e g->False):codeAny (model P w) callerA (.call (.ref I) ⟨[.ref a],[]⟩) (λr g=>r=.ok (.ret (.bool true))/\OldK c.heap g.heap/\g.os=c.os/\AllBare g.gens) c:=by
 have U:=vJ hi;have y:=hi.length--from an abstract heap in which nothing but the script may be tracked
 have j:∀H:Hp,Only H->fM K H a (ns.map V.int)->jT P w H c.heap->(∀b,H b≠none->b=a)->(H a≠none->K.lookup a=none)->codeAny (model P w) callerA (.call (.ref I) ⟨[.ref a],[]⟩) (λr g=>r=.ok (.ret (.bool true))/\OldK c.heap g.heap/\g.os=c.os/\AllBare g.gens) c:=by
  intro H X hS hok Y hK;have Z:∀{b:Addr}{o:Obj},c.heap.get? b=some o->H b=none->(vY c.heap H).get? b=some o:=λe n=>Hu e n;have M:∀{b:Addr}{o:Obj}{es:Array DictEntry}{ep:Nat},c.heap.get? b=some o->o.data=.dict es ep->H b=none:=λ{b o es ep}e d=>by cases q:H b with|none=>rfl|some u=>have N:b=a:=Y b (by rw[q];simp);subst N;rw[E]at e;cases e;have d':Data.seq vs.toArray _=Data.dict es ep:=d;cases d'
  have i:∀{b:Addr}{m:Str->Option Value},c.heap.Ns b m->(vY c.heap H).Ns b m:=λ{b m}⟨o,es,ep,e,d,r⟩=>⟨o,es,ep,Z e (M e d),d,r⟩;have A:K.In (vY c.heap H):=λb o e=>Z (O b o e) (by cases q:H b with|none=>rfl|some u=>have N:b=a:=Y b (by rw[q];simp);subst N;rw[hK (by rw[q];simp)]at e;cases e);have hM:Mod K mg (vY c.heap H):=⟨A,i p,⟨G,i f,J⟩,let⟨mc,h1,h2⟩:=t;⟨mc,i h1,h2⟩⟩;have e0:Nb P w K mg (vY c.heap H) callerA [] c H:=⟨rfl,hM,λb o e=>M8 e,Nat.le_of_eq (Ff _ _),trivial,λb f=>absurd (show b∈([]:List Addr)from f) (by simp),hok,.of_eq hg⟩;refine codeAny_mono ((F _ A (i p)).run callerA [] c H ⟨[.ref a],[]⟩ [.ref a] [.ref a] _ _ hr e0 (l c (.ref a)) (.cons rfl .nil) (hsp H X hS)) λr g h=>?_;cases r with|error e=>exact(L H e g h).elim|ok fl=>cases fl with|next=>exact False.elim h|brk=>exact False.elim h|cont=>exact False.elim h|ret u=>obtain⟨v,H',os,bare,un,B,r',q⟩:=h;have q':v=.bl true:=q;subst q';obtain rfl:u=Value.bool true:=r';refine⟨rfl,OldK.of_keep λb o e=>?_,os,bare⟩;cases q:H b with|none=>exact un.keep b o e q (by intro z;exact absurd (show b∈([]:List Addr)from z) (by simp)) (by simp)|some u=>
        rcases X b with z|⟨ob,xs,z⟩;.rw[q]at z;cases z
        .have z2:=un.qI b ob _ z;obtain⟨e1,_⟩:=hok b _ z;obtain⟨e2,_⟩:=B b _ z2;rw[e]at e1;cases e1;exact e2
 cases hk:K.lookup a with|some o=>--the script is one of the module's own objects
   have e:=O a o hk;rw[E]at e;cases e;refine j (λ_=>none) (λ_=>.inl rfl) (.inr ⟨_,vs.toArray,_,hk,rfl,rfl,rfl,by rw[size_toArray,y];exact Q,by simpa using U⟩) (λb u z=>by have C:(none:Option HO)=some u:=z;cases C) (λb z=>absurd rfl z) λz=>absurd rfl z|none=>
   refine j (λb=>if b=a then some (.dz {cls:=.type "list",data:=.seq vs.toArray} (.lst (ns.map V.int)))else none) (λb=>?_) (.inl (.inr ⟨{cls:=.type "list",data:=.seq vs.toArray},if_pos rfl⟩)) (λb u z=>?_) (λb z=>?_) λ_=>hk
   . by_cases f:b=a;.exact .inr ⟨_,_,if_pos f⟩
     .exact .inl (if_neg f)
   . by_cases f:b=a;.have C:=(if_pos f).symm.trans z;cases C;subst f;exact⟨E,by rw[length_map];exact Q,vs,_,U,E⟩
     .have C:=(if_neg f).symm.trans z;cases C
   . by_cases f:b=a;.exact f
     .exact absurd (if_neg f) z
theorem N5{l:PySem.W.OpenLaw}{n k:Nat}{q:Program}{i:List Str}{I:(Str->Option Value)->Heap->Prop}{C:World->Heap->Prop}{d:DefRec}{K:Params->PySem.W.Frag}{CX:World->GZ}{sp:World->Sp}{x:Str}(J:l.most=some n)(t:n<=sizeLine)(y:d.params.defaults=[])(hr:gM k callerA)(L:∀(w:World)(h:Heap),C w h->(K w.params).In h)(F:∀(w:World)(mg:Str->Option Value)(r:Addr)(h:Heap),(K w.params).In h->h.Ns mainGlobals mg->mg d.name=some (.ref r)->∃ fd:FuncData,(∀(s:Shared)(u:Value),BindsTo s fd ⟨[u],[]⟩ [(x,u)])/\∀base:Heap,(K w.params).In base->base.Ns mainGlobals mg->iT l.prog w (K w.params) mg base (CX w) k r fd [x] (sp w))(hsp:∀(w:World)(H:Hp)(a:Addr)(ns:List Int),ns.length<=n->Only H->fM (K w.params) H a (ns.map V.int)->sp w [.ref a] H (λv _=>v=.bl true) λ_ _ _=>False)(z:∀(w:World)(H:Hp)(s:Shared)(e:Value)(A:Shared),CX w [] H s (λ_ _ _=>False) e A->False):PySem.W.WalkO q i I C l.row.toRowW d [] (λf vs=>PySem.call f vs):=by refine _A.yu J y λw s₀ m mg mb r o pm cd M a vs ns G Y ho hd N B p j c O=>?_;have E:=L w _ Y;obtain⟨fd,Q,U⟩:=F w mg r _ E G.T.g B;exact Ku E G.T.g G.T.b G.T.builtins G.T.nolimit O p j (le_trans c t) hr U Q (λH X Z=>hsp w H a ns c X Z) λH e A=>z w H m e A
theorem KJ{l:PySem.W.OpenLaw}{n k:Nat}{q:Program}{b:List Str}{p:(Str->Option Value)->Heap->Prop}{m:World->Heap->Prop}{d:DefRec}{K:Params->PySem.W.Frag}{CX:GZ}{sp:PySem.W.Frag->Sp}{x:Str}(r:l.most=some n)(c:n<=sizeLine)(g:d.params.defaults=[])(hr:gM k callerA)(t:∀(w:World)(h:Heap),m w h->(K w.params).In h)(F:∀(w:World)(mg:Str->Option Value)(o:Addr)(h:Heap),(K w.params).In h->h.Ns mainGlobals mg->mg d.name=some (.ref o)->∃ fd:FuncData,(∀(s:Shared)(u:Value),BindsTo s fd ⟨[u],[]⟩ [(x,u)])/\∀base:Heap,(K w.params).In base->base.Ns mainGlobals mg->iT l.prog w (K w.params) mg base CX k o fd [x] (sp (K w.params)))(hsp:∀(K:PySem.W.Frag)(H:Hp)(a:Addr)(ns:List Int),ns.length<=n->Only H->fM K H a (ns.map V.int)->sp K [.ref a] H (λv _=>v=.bl true) λ_ _ _=>False)(i:∀(H:Hp)(s:Shared)(e:Value)(j:Shared),CX [] H s (λ_ _ _=>False) e j->False):PySem.W.WalkO q b p m l.row.toRowW d [] (λf vs=>PySem.call f vs):=N5 (K:=K) (CX:=λ_=>CX) (sp:=λw=>sp (K w.params)) r c g hr t F (λw H a ns h1 y z=>hsp (K w.params) H a ns h1 y z) λ_ H s e j=>i H s e j
end _L
namespace _L
open PySem Spec PyProof.Rows
noncomputable def gK(s:Stmt):Arguments:=match s with|.FunctionDef _ a _ _ _ _ _ _ _ _=>a|_=>{posonlyargs:=[],args:=[],vararg:=none,kwonlyargs:=[],kw_defaults:=[],kwarg:=none,defaults:=[]}
noncomputable def dY(s:Stmt):List Stmt:=match s with|.FunctionDef _ _ b _ _ _ _ _ _ _=>b|_=>[]
noncomputable def aA(s:Stmt):Scope:=match s with|.FunctionDef _ _ _ _ _ _ a _ _ _=>a|_=>{kind:=.function,names:=[],isGenerator:=false,isCoroutine:=false}
noncomputable abbrev Jv:GZ:=λ_ _ _ _ _ _=>False
noncomputable abbrev E0:XK:=λ_ _ _=>False
theorem QG{X:Cx}:Passes Jv X E0:=λ_ _ _ _ _ _ _ h=>h.elim
structure ig(K:PySem.W.Frag)(x qual:Str)(st:Stmt)(f:Addr)(fd:FuncData):Prop where
 ex:∃(oc:Value)(od:Option Addr)(kV doc pm:Value)(an:Option Addr)(cdv ct:Value)(osl:Array (Option Value)),fd=PySem.W.fnOf x qual (gK st) (dY st) (aA st) .none kV doc pm an cdv ct/\K.lookup f=some ⟨oc,od,.func fd,osl⟩/\PySem.W.codeIn K cdv qual=true
 kp:keepIn K (.ref f)=true
section
variable{P:Program}{w:World}{K:PySem.W.Frag}{mg:Str->Option Value}{base:Heap}
theorem ig.ok{x qual:Str}{st:Stmt}{f:Addr}{fd:FuncData}{N ps:List Str}{k:Nat}{sp:Sp}(F:ig K x qual st f fd)(S:aM N ps (aA st))(len:∀vs H Q E,sp vs H Q E->vs.length=ps.length)(a:∀(cdv:Value)(A:Around)(outer:List Env)(s:Shared)(H:Hp)(vs:List V)(Q:VK)(E:XK),gM k (A.deeper (envOfC qual (aA st) s.heap.objs.size f cdv))->sp vs H Q E->∃t,o8 (m9 Jv P w K mg base N qual (aA st) f cdv A outer s H E).nox (dY st) t/\t {nx:=λ_ H'=>Q .non H',rt:=Q} (start N vs) H):iT P w K mg base Jv (k+1) f fd ps sp:=by obtain⟨oc,od,kV,c,g,i,cdv,ct,e,rfl,lk,b⟩:=F.ex;refine QR lk b S len λA outer s H vs Q E hr hsp=>?_;obtain⟨t,h,q⟩:=a cdv A outer s H vs Q E hr hsp;exact⟨t,h.nox,q⟩
theorem ig.binds{x qual:Str}{st:Stmt}{f:Addr}{fd:FuncData}{ps:List Str}(F:ig K x qual st f fd)(h:∀(kV a b:Value)(c:Option Addr)(cdv ct:Value)(e:List Value),e.length=ps.length->bindArgs (PySem.W.fnOf x qual (gK st) (dY st) (aA st) .none kV a b c cdv ct) ⟨e,[]⟩=pure (ps.zip e)):Binds K fd ps []:=by obtain⟨oc,od,kV,a,b,c,cdv,ct,g,rfl,lk,i⟩:=F.ex;exact .all (h kV a b c cdv ct)
theorem Wc{x qual:Str}{st:Stmt}{f:Addr}{oc:Value}{od e:Option Addr}{b:Array (Option Value)}{kV a g cdv ct:Value}(l:K.lookup f=some ⟨oc,od,.func (PySem.W.fnOf x qual (gK st) (dY st) (aA st) .none kV a g e cdv ct),b⟩)(c:PySem.W.codeIn K cdv qual=true)(k:keepIn K (.ref f)=true):ig K x qual st f (PySem.W.fnOf x qual (gK st) (dY st) (aA st) .none kV a g e cdv ct):=⟨⟨oc,od,kV,a,g,e,cdv,ct,b,rfl,l,c⟩,k⟩
end
noncomputable def aJ(H H':Hp):Prop:=∀b o,H b=some o->H' b=some o
theorem aJ.refl(H:Hp):aJ H H:=λ_ _ h=>h
theorem aJ.trans{H e f:Hp}(a:aJ H e)(b:aJ e f):aJ H f:=λc o h=>b c o (a c o h)
theorem aJ.seq{K:PySem.W.Frag}{H H':Hp}{a:Addr}{xs:List V}(e:aJ H H')(h:fM K H a xs):fM K H' a xs:=by
 rcases h with(h|⟨o,h⟩)|h;.exact .inl (.inl (e _ _ h))
 .exact .inl (.inr ⟨o,e _ _ h⟩)
 .exact .inr h
end _L
namespace _H
open PySem
set_option genInjectivity true in inductive Dc where|k(kvs:List (Int×Int))|t(kvs:List (List Int×Int))deriving DecidableEq
set_option genInjectivity true in inductive D where|non|bl(b:Bool)|int(i:Int)|str(s:Str)|tup(ds:List D)|lst(ds:List D)|eN(m:Dc)|dv(ks:List Int)(ds:List D)deriving Inhabited
mutual
noncomputable def mq:D->D->Bool|.non,.non=>true|.bl a,.bl b=>a==b|.bl a,.int i=>(if a then(1:Int)else 0)==i|.int i,.bl a=>i==(if a then(1:Int)else 0)|.int i,.int j=>i==j|.str a,.str b=>a==b|.tup xs,.tup ys=>mz xs ys|.lst xs,.lst ys=>mz xs ys|.eN a,.eN b=>decide (a=b)|.dv a xs,.dv b ys=>decide (a=b)&&mz xs ys|_,_=>false
noncomputable def mz:List D->List D->Bool|[],[]=>true|x::xs,y::ys=>mq x y&&mz xs ys|_,_=>false
end
theorem lu:mz [] []=true:=rfl
theorem iR{x y:D}{xs ys:List D}:mz (x::xs) (y::ys)=(mq x y&&mz xs ys):=rfl
theorem oY{y:D}{ys:List D}:mz [] (y::ys)=false:=rfl
theorem pP{x:D}{xs:List D}:mz (x::xs) []=false:=rfl
theorem pqi{i j}:mq (.int i) (.int j)=(i==j):=(rfl)
theorem pqt{x y}:mq (.tup x) (.tup y)=mz x y:=(rfl)
theorem pql{x y}:mq (.lst x) (.lst y)=mz x y:=(rfl)
noncomputable def jR:Nat->D->Bool|_,.non=>true|_,.bl _=>true|_,.int _=>true|_,.str _=>true|0,.tup _=>false|0,.lst _=>false|_,.eN _=>false|_,.dv _ _=>false|n+1,.tup a=>a.all (jR n)|n+1,.lst a=>a.all (jR n)
theorem bJ{n:Nat}{a:List D}:jR (n+1) (.tup a)=a.all (jR n):=rfl
theorem bD{n:Nat}{a:List D}:jR (n+1) (.lst a)=a.all (jR n):=rfl
theorem bG{n:Nat}{m:Dc}:jR n (.eN m)=false:=by cases n<;>rfl
theorem bH{n:Nat}{k:List Int}{a:List D}:jR n (.dv k a)=false:=by cases n<;>rfl
theorem bI{a:List D}:jR 0 (.tup a)=false:=rfl
theorem bK{a:List D}:jR 0 (.lst a)=false:=rfl
set_option genInjectivity true in inductive Sl where|aQ|val(b:Bool)(d:D)|own(b:Bool)(ds:List D)|lent(ds:List D)|iC(m:Dc)|hold(rows:List (List D))|dC(kvs:List (Int×D))deriving Inhabited
set_option genInjectivity true in inductive R where|val(d:D)|own(ds:List D)deriving Inhabited
noncomputable def R.d:R->D|.val d=>d|.own a=>.lst a
set_option genInjectivity true in inductive Res(α:Type)where|ok(a:α)(ρ:List Sl)|exc(k:Nat)(ρ:List Sl)|stuck deriving Inhabited
noncomputable def Res.bind{b c:Type}(f:b->List Sl->Res c):Res b->Res c|.ok a ρ=>f a ρ|.exc _ _=>.stuck|.stuck=>.stuck
noncomputable def lift{b:Type}(o:Option b)(ρ:List Sl):Res b:=match o with|some a=>.ok a ρ|none=>.stuck
inductive Op where|add|sub|mul|fdiv|mod|pow|shl|shr|band|Gw|din|afI
inductive Cm where|eq|ne|lt|le|gt|ge|isN|Qu|inn|aaY|isT|aaZ|leT
inductive Ty where|int|bool|str|tuple|list|none
inductive Blt where|len|list|tuple|min2|max2|Gx|sum|all|abs|int|keys|Yn|rvT|Ld
inductive P where|var(i:Nat)|con(d:D)|glob(x:Str)(d:D)|bin(o:Op)(a b:P)|neg(a:P)|not(a:P)|and(a b:P)|or(a b:P)|cmp(o:Cm)(a b:P)|chain(o o':Cm)(a b c:P)|RP(c a b:P)|tup(as:List P)|lst(as:List P)|idx(a i:P)|slice(a lo hi:P)|call(f:Nat)(as:List P)|blt(b:Blt)(as:List P)|inst(ts:List Ty)(a:P)|comp(src:P)(n:Nat)(is:List Nat)(one:Bool)(test:Option P)(elt:P)|vO(a b:P)|enm(a:P)|zip(a b:P)|Yo(x:Nat)(k d:P)|vw(x:Nat)|RQ(x:Nat)(k:P)|RT(x:Nat)(k:P)(neg:Bool)|Bp(k e:Int)deriving Inhabited
noncomputable abbrev lim:Nat:=16777216
noncomputable def tO:D->D->Option R|.int i,.int j=>some (.val (.int (i+j)))|.lst xs,.lst ys=>if xs.length+ys.length<=lim then some (.own (xs++ys))else none|.tup xs,.tup ys=>if xs.length+ys.length<=lim then some (.val (.tup (xs++ys)))else none|.str x,.str y=>if x.length+y.length<=lim then some (.val (.str (x++y)))else none|_,_=>none
noncomputable def nG:D->D->Option R|.int i,.int j=>if((-18446744073709551616<i/\i<18446744073709551616)\/(-18446744073709551616<j/\j<18446744073709551616))then some (.val (.int (i*j)))else none|.lst xs,.int k=>if 0<=k/\0<xs.length/\xs.length*k.toNat<=lim then some (.own (replicate k.toNat xs).flatten)else none|.tup xs,.int k=>if 0<=k/\0<xs.length/\xs.length*k.toNat<=lim then some (.val (.tup (replicate k.toNat xs).flatten))else none|_,_=>none
noncomputable def yS:D->D->Option R|.int i,.int j=>some (.val (.int (i-j)))|_,_=>none
noncomputable def tM:D->D->Option R|.int i,.int j=>if 0<j/\j<1606938044258990275541962092341162602522202993782792835301376 then some (.val (.int (i/j)))else none|_,_=>none
noncomputable def yR:D->D->Option R|.int i,.int j=>if 0<j then some (.val (.int (i%j)))else none|_,_=>none
noncomputable def yg:D->D->Option R|.int i,.int j=>if 0<=j/\j<=1000/\i.natAbs<18446744073709551616 then some (.val (.int (i^j.toNat)))else none|_,_=>none
noncomputable def Kr:D->D->Option R|.int i,.int j=>if 0<=j/\j<=1000/\i.natAbs<18446744073709551616 then some (.val (.int (i*2^j.toNat)))else none|_,_=>none
noncomputable def Ik:D->D->Option R|.int i,.int j=>if 0<=j then some (.val (.int (i/2^j.toNat)))else none|_,_=>none
noncomputable def zZ:D->D->Option R|.int i,.int j=>some (.val (.int (Builtin.bitAnd i j)))|_,_=>none
noncomputable def flat:D->Bool|.tup _=>false|.lst _=>false|.eN _=>false|.dv _ _=>false|_=>true
noncomputable def items:D->Option (List D)|.lst a=>some a|.tup a=>some a|_=>none
noncomputable def We:D->Option (List D)|.tup a=>some a|_=>none
noncomputable def zX(x y:D):Option Bool:=if jR 8 x&&jR 8 y then some (mq x y)else none
noncomputable def Jx(x y:D):Option Bool:=if jR 8 x&&jR 8 y then some (!mq x y)else none
noncomputable def Mf(f:Int->Int->Bool):D->D->Option Bool|.int i,.int j=>some (f i j)|_,_=>none
noncomputable def kJ:D->Bool|.non=>true|_=>false
noncomputable def cmN(neg:Bool)(x:D):D->Option Bool|.non=>some (if neg then !kJ x else kJ x)|_=>none
noncomputable def Y4(neg:Bool)(x y:D):Option Bool:=(items y).bind λys=>if(flat x&&ys.all flat)=true then some (if neg then !(ys.any λy=>mq y x)else ys.any λy=>mq y x)else none
noncomputable def cmT(neg:Bool):D->D->Option Bool|.bl b,.bl true=>some (if neg then !b else b)|_,_=>none
noncomputable def bC:List Int->List Int->Bool|[],_::_=>true|i::is,j::js=>decide (i<j)||(decide (i=j)&&bC is js)|_,[]=>false
noncomputable def qt:D->Int|.int i=>i|_=>0
noncomputable def cY:D->List Int|.int i=>[i]|.tup a=>a.map qt|_=>[]
noncomputable def ir:D->Bool|.int _=>true|_=>false
noncomputable def Dc.get:Dc->D->Option (Option Int)|.k kvs,.int i=>some ((kvs.find? λa=>decide (a.1=i)).map (·.2))|_,_=>none
noncomputable def putD{κ:Type}[DecidableEq κ](kvs:List (κ×Int))(k:κ)(v:Int):List (κ×Int):=if(kvs.any λa=>decide (a.1=k))=true then kvs.map (λa=>if a.1=k then(a.1,v)else a)else kvs++[(k,v)]
noncomputable def Dc.put:Dc->D->Int->Option Dc|.k kvs,.int i,v=>if kvs.length<lim then some (.k (putD kvs i v))else none|_,_,_=>none
noncomputable def mX(kvs:List (Int×D))(k:Int):Option D:=(kvs.find? λp=>decide (p.1=k)).map (·.2)
noncomputable def iD(kvs:List (Int×D))(k:Int)(d:D):List (Int×D):=if(kvs.any λp=>decide (p.1=k))=true then kvs.map (λp=>if p.1=k then(p.1,d)else p)else kvs++[(k,d)]
noncomputable def yP(neg:Bool):D->D->Option R|.int k,.dv ks _=>some (.val (.bl (if neg then !ks.contains k else ks.contains k)))|_,_=>none
noncomputable def Cp:D->D->Option R|.eN m,k=>(m.get k).bind λo=>o.map λv=>.val (.int v)|.dv ks a,.int k=>(mX (ks.zip a) k).map .val|_,_=>none
noncomputable def uG:Op->D->D->Option R|.add=>tO|.mul=>nG|.sub=>yS|.fdiv=>tM|.mod=>yR|.pow=>yg|.shl=>Kr|.shr=>Ik|.band=>zZ|.Gw=>Cp|.din=>yP false|.afI=>yP true
noncomputable def ZD:D->D->Option Bool|.int i,.int j=>some (decide (i<j))|.tup xs,.tup ys=>if(xs.all ir&&ys.all ir)=true then some (bC (xs.map qt) (ys.map qt))else none|_,_=>none
noncomputable def adJ:D->D->Option Bool|.int i,.int j=>some (decide (i<=j))|.tup xs,.tup ys=>if(xs.all ir&&ys.all ir)=true then some (!bC (ys.map qt) (xs.map qt))else none|_,_=>none
noncomputable def cm:Cm->D->D->Option Bool|.eq=>zX|.ne=>Jx|.lt=>ZD|.le=>Mf λi j=>decide (i<=j)|.leT=>adJ|.gt=>Mf λi j=>decide (j<i)|.ge=>Mf λi j=>decide (j<=i)|.isN=>cmN false|.Qu=>cmN true|.inn=>Y4 false|.aaY=>Y4 true|.isT=>cmT false|.aaZ=>cmT true
noncomputable def oX(o:Cm)(x y:D):Option R:=(cm o x y).map λk=>.val (.bl k)
noncomputable def j9(n:Nat)(i:Int):Option Nat:=if 0<=i then(if i<n then some i.toNat else none)else if-(n:Int)<=i then some (i+n).toNat else none
noncomputable def at'{a:Type}(xs:List a)(i:Int):Option a:=(j9 xs.length i).bind λj=>xs[j]?
noncomputable def dH(n d:Nat):Option Int->Nat|none=>d|some i=>if 0<=i then min i.toNat n else(i+n).toNat
noncomputable def cut{a:Type}(xs:List a)(lo hi:Option Int):List a:=(xs.drop (dH xs.length 0 lo)).take (dH xs.length xs.length hi-dH xs.length 0 lo)
noncomputable def jc:D->Option Int|.int i=>some i|_=>none
noncomputable def Cj:D->Option Bool|.bl b=>some b|_=>none
noncomputable def dl2(k e:Int)(x y:D):Option R:=(jc x).bind λi=>(jc y).bind λj=>if i=k then none else some (.val (.dv [k,i] [.int e,.int j]))
noncomputable def lixR:D->D->Option R|.lst a,.int i=>(a.mapM jc).bind λns=>if i∈ns/\ns.length<=1000 then some (.val (.int (ns.idxOf i)))else none|_,_=>none
noncomputable def Ey(x y:D):Option R:=(items x).bind λa=>(jc y).bind λi=>(at' a i).map .val
noncomputable def Iv(x:D):Option R:=(jc x).map λi=>.val (.int (-i))
noncomputable def Wo:P->Bool|.con .non=>true|_=>false
noncomputable def part(p:P)(d:D):Option (Option Int):=if Wo p then some none else(jc d).map some
noncomputable def PB:D->Option (Option Int)->Option (Option Int)->Option R|.lst xs,some lo,some hi=>some (.own (cut xs lo hi))|.tup xs,some lo,some hi=>some (.val (.tup (cut xs lo hi)))|_,_,_=>none
noncomputable def cH:Ty->D->Bool|.int,.int _=>true|.int,.bl _=>true|.bool,.bl _=>true|.str,.str _=>true|.tuple,.tup _=>true|.list,.lst _=>true|.none,.non=>true|_,_=>false
noncomputable def yp:D->Bool|.tup (x::xs)=>(x::xs).all ir|_=>false
noncomputable def sortable(ds:List D):Bool:=decide (ds.length<=16777216)&&(ds.all ir||ds.all yp)
noncomputable def RB(c:List D):List D:=c.mergeSort λa b=>!bC (cY b) (cY a)
noncomputable def ordP:D->Bool|.tup [.int _,.tup ws]=>ws.all ir|_=>false
noncomputable def flP:D->D|.tup [.int h,.tup ws]=>.tup (.int h::ws)|d=>d
noncomputable def ufP:D->D|.tup (.int h::ws)=>.tup [.int h,.tup ws]|d=>d
noncomputable def Af:D->Option (List D)|.lst a=>some a|_=>none
noncomputable def rA(p:Int×Int):D:=.tup [.int p.1,.int p.2]
noncomputable def blt:Blt->List D->Option R|.len,[x]=>(items x).map λc=>.val (.int c.length)|.list,[x]=>(items x).map λc=>.own c|.tuple,[x]=>(items x).map λc=>.val (.tup c)|.min2,[.int i,.int j]=>some (.val (.int (if j<i then j else i)))|.max2,[.int i,.int j]=>some (.val (.int (if i<j then j else i)))|.Gx,[x]=>((items x).bind λc=>c.mapM jc).bind λns=>ns.min?.map λi=>.val (.int i)|.sum,[x]=>((items x).bind λc=>c.mapM jc).map λns=>.val (.int ns.sum)|.all,[x]=>((Af x).bind λc=>c.mapM Cj).map λbs=>.val (.bl (bs.all id))|.abs,[.int i]=>some (.val (.int (if i<0 then-i else i)))|.int,[.int i]=>some (.val (.int i))|.int,[.bl b]=>some (.val (.int (if b then 1 else 0)))|.keys,[.eN (.k kvs)]=>some (.val (.tup (kvs.map λp=>.int p.1)))|.keys,[.dv ks _]=>some (.val (.tup (ks.map D.int)))|.Yn,[.dv ks _]=>if ks.length<=16777216 then some (.own (ks.map D.int))else none|.rvT,[.lst c]=>some (.val (.tup c.reverse))|.Ld,[.eN (.k kvs)]=>if kvs.length<=16777216/\kvs.Pairwise (λa b=>a.1<b.1)then some (.own (kvs.map rA))else none|_,_=>none
noncomputable def pk(ρ:List Sl)(i:Nat):Option D:=match ρ[i]?with|some (.val _ d)=>some d|some (.own _ a)=>some (.lst a)|some (.lent a)=>some (.lst a)|_=>none
noncomputable def Ad(ρ:List Sl)(i:Nat):Option (List D):=match pk ρ i with|some (.lst a)=>some a|_=>none
noncomputable abbrev Ev:=List Sl->Res R
noncomputable def isVar:P->Option Nat|.var i=>some i|_=>none
noncomputable def cL(i:Option Nat)(e:Ev)(ρ:List Sl):Res D:=match i with|some i=>lift (pk ρ i) ρ|none=>(e ρ).bind λr ρ=>.ok r.d ρ
noncomputable def jm(i:Option Nat)(e:Ev)(j:Option Nat)(f:Ev)(ρ:List Sl):Res (D×D):=match i with|some i=>(lift (pk ρ i) ρ).bind λ_ ρ=>(cL j f ρ).bind λy ρ=>(lift (pk ρ i) ρ).bind λx ρ=>.ok (x,y) ρ|none=>(cL none e ρ).bind λx ρ=>(cL j f ρ).bind λy ρ=>.ok (x,y) ρ
noncomputable def iB(e:Ev)(ρ:List Sl):Res Bool:=(e ρ).bind λr ρ=>lift (Cj r.d) ρ
set_option genInjectivity true in inductive Arg where|dat(d:D)|tmp(ds:List D)|fY(i:Nat)
noncomputable def vf:R->Arg|.val d=>.dat d|.own a=>.tmp a
noncomputable def bW(ρ:List Sl):List Arg->List Nat->Option (List Sl)|[],_=>some []|.dat d::r,a=>(bW ρ r a).map λs=>.val false d::s|.tmp b::r,a=>(bW ρ r a).map λs=>.own false b::s|.fY i::r,a=>match ρ[i]?with|some (.val _ d)=>(bW ρ r a).map λs=>.val false d::s|some (.own _ b)=>if a.contains i then none else(bW ρ r (i::a)).map λs=>.own true b::s|some (.lent b)=>if a.contains i then none else(bW ρ r (i::a)).map λs=>.lent b::s|_=>none
theorem mR{ρ:List Sl}{u:List Nat}:bW ρ [] u=some []:=rfl
theorem mU{ρ:List Sl}{d:D}{r:List Arg}{u:List Nat}:bW ρ (.dat d::r) u=(bW ρ r u).map λs=>.val false d::s:=rfl
theorem mK{ρ:List Sl}{d:List D}{r:List Arg}{u:List Nat}:bW ρ (.tmp d::r) u=(bW ρ r u).map λs=>.own false d::s:=rfl
theorem jy{ρ:List Sl}{i:Nat}{r:List Arg}{u:List Nat}:bW ρ (.fY i::r) u=match ρ[i]?with|some (.val _ d)=>(bW ρ r u).map λs=>.val false d::s|some (.own _ a)=>if u.contains i then none else(bW ρ r (i::u)).map λs=>.own true a::s|some (.lent a)=>if u.contains i then none else(bW ρ r (i::u)).map λs=>.lent a::s|_=>none:=rfl
noncomputable def aU(i:Nat):List Arg->List Sl->Option Sl|.fY k::as,s::ss=>if k=i then some s else aU i as ss|.dat _::as,_::ss=>aU i as ss|.tmp _::as,_::ss=>aU i as ss|_,_=>none
noncomputable def dm:Sl->Option Sl->Sl|.own b _,some (.own _ a)=>.own b a|.own b _,some (.val _ d)=>.val b d|s,_=>s
noncomputable def fC(as:List Arg)(ss:List Sl):Nat->List Sl->List Sl|_,[]=>[]|i,s::ρ=>dm s (aU i as ss)::fC as ss (i+1) ρ
theorem jE{as:List Arg}{ss:List Sl}{i:Nat}:fC as ss i []=[]:=rfl
theorem gU{as:List Arg}{ss:List Sl}{i:Nat}{s:Sl}{ρ:List Sl}:fC as ss i (s::ρ)=dm s (aU i as ss)::fC as ss (i+1) ρ:=rfl
noncomputable abbrev Call:=Nat->List Sl->Res R
noncomputable def jL(c:Call)(f:Nat)(as:List Arg)(ρ:List Sl):Res R:=match bW ρ as []with|none=>.stuck|some args=>match c f args with|.ok r a=>.ok r (fC as a 0 ρ)|.exc _ _=>.stuck|.stuck=>.stuck
noncomputable def put(ρ:List Sl)(i:Nat)(s:Sl):Option (List Sl):=match ρ[i]?with|some .aQ=>some (ρ.set i s)|some (.val false _)=>some (ρ.set i s)|some (.own false _)=>some (ρ.set i s)|_=>none
noncomputable def putAll(ρ:List Sl):List Nat->List D->Option (List Sl)|[],[]=>some ρ|i::is,d::a=>(put ρ i (.val false d)).bind λρ=>putAll ρ is a|_,_=>none
theorem j6{ρ:List Sl}:putAll ρ [] []=some ρ:=rfl
theorem jz{ρ:List Sl}{i:Nat}{is:List Nat}{d:D}{a:List D}:putAll ρ (i::is) (d::a)=(put ρ i (.val false d)).bind λρ=>putAll ρ is a:=rfl
theorem pI{ρ:List Sl}{i:Nat}{is:List Nat}:putAll ρ (i::is) []=none:=rfl
theorem pD{ρ:List Sl}{d:D}{a:List D}:putAll ρ [] (d::a)=none:=rfl
noncomputable def cI(ρ:List Sl)(is:List Nat)(one:Bool)(d:D):Option (List Sl):=match one,is,d with|true,[i],d=>put ρ i (.val false d)|false,is,.tup a=>putAll ρ is a|_,_,_=>none
noncomputable def srcOf(i:Option Nat)(e:Ev)(ρ:List Sl):Res (List D):=match i with
 |some i=>match ρ[i]?with|some (.val _ d)=>lift (items d) ρ|some (.own _ a)=>.ok a (ρ.set i (.lent a))|some (.lent a)=>.ok a ρ|_=>.stuck
 |none=>(e ρ).bind λr ρ=>lift (items r.d) ρ
noncomputable def bB(a:List Sl)(i:Option Nat)(ρ:List Sl):List Sl:=match i with
 |some i=>match a[i]?with|some (.own b c)=>ρ.set i (.own b c)|_=>ρ
 |none=>ρ
noncomputable def srcY(i:Nat)(f:Ev)(ρ:List Sl):Res (List D×List Sl):=(f ρ).bind λr a=>(lift (items r.d) a).bind λes a=>match a[i]?with|some (.val _ d)=>(lift (items d) a).bind λb a=>.ok ((es.zip b).map λp=>D.tup [p.1,p.2],a) a|some (.own _ b)=>.ok ((es.zip b).map λp=>D.tup [p.1,p.2],a) (a.set i (.lent b))|some (.lent b)=>.ok ((es.zip b).map λp=>D.tup [p.1,p.2],a) a|_=>.stuck
noncomputable def turns(is:List Nat)(one:Bool)(a:List Sl->Res Bool)(e:Ev):List D->List D->List Sl->Res (List D)|[],c,ρ=>.ok c ρ|d::r,c,ρ=>match cI ρ is one d with|none=>.stuck|some ρ=>(a ρ).bind λb ρ=>if b then(e ρ).bind λx ρ=>turns is one a e r (c++[x.d]) ρ else turns is one a e r c ρ
theorem IW{is:List Nat}{o:Bool}{f:List Sl->Res Bool}{e:Ev}{a:List D}{ρ:List Sl}:turns is o f e [] a ρ=.ok a ρ:=rfl
theorem Kq{is:List Nat}{o:Bool}{f:List Sl->Res Bool}{e:Ev}{d:D}{r a:List D}{ρ:List Sl}:turns is o f e (d::r) a ρ=match cI ρ is o d with|none=>.stuck|some ρ=>(f ρ).bind λb ρ=>if b then(e ρ).bind λx ρ=>turns is o f e r (a++[x.d]) ρ else turns is o f e r a ρ:=rfl
mutual
noncomputable def ev(c:Call):P->List Sl->Res R
 |.var i,ρ=>match ρ[i]?with|some (.val _ d)=>.ok (.val d) ρ|some (.own b g)=>.ok (.val (.lst g)) (ρ.set i (.val b (.lst g)))|some (.iC (.k kvs))=>.ok (.val (.eN (.k kvs))) (ρ.set i (.val false (.eN (.k kvs))))|some (.dC kvs)=>.ok (.val (.dv (kvs.map (·.1)) (kvs.map (·.2)))) (ρ.set i (.val false (.dv (kvs.map (·.1)) (kvs.map (·.2)))))|_=>.stuck
 |.con d,ρ=>.ok (.val d) ρ|.glob _ d,ρ=>.ok (.val d) ρ|.bin o a b,ρ=>(jm (isVar a) (ev c a) (isVar b) (ev c b) ρ).bind λq ρ=>lift (uG o q.1 q.2) ρ|.neg a,ρ=>(cL (isVar a) (ev c a) ρ).bind λx ρ=>lift (Iv x) ρ|.not a,ρ=>(iB (ev c a) ρ).bind λb ρ=>.ok (.val (.bl (!b))) ρ|.and a b,ρ=>(iB (ev c a) ρ).bind λx ρ=>if x then(iB (ev c b) ρ).bind λy ρ=>.ok (.val (.bl y)) ρ else .ok (.val (.bl false)) ρ|.or a b,ρ=>(iB (ev c a) ρ).bind λx ρ=>if x then .ok (.val (.bl true)) ρ else(iB (ev c b) ρ).bind λy ρ=>.ok (.val (.bl y)) ρ|.cmp o a b,ρ=>(jm (isVar a) (ev c a) (isVar b) (ev c b) ρ).bind λq ρ=>lift (oX o q.1 q.2) ρ|.chain o C a b d,ρ=>(jm (isVar a) (ev c a) (isVar b) (ev c b) ρ).bind λq ρ=>(lift (if flat q.2=true then cm o q.1 q.2 else none) ρ).bind λk ρ=>if k then(cL (isVar d) (ev c d) ρ).bind λz ρ=>lift (oX C q.2 z) ρ else .ok (.val (.bl false)) ρ|.RP t a b,ρ=>(iB (ev c t) ρ).bind λk ρ=>if k then(ev c a ρ).bind λr ρ=>.ok (.val r.d) ρ else(ev c b ρ).bind λr ρ=>.ok (.val r.d) ρ|.tup as,ρ=>(evs c as ρ).bind λg ρ=>.ok (.val (.tup g)) ρ|.lst as,ρ=>(evs c as ρ).bind λg ρ=>.ok (.own g) ρ|.idx a i,ρ=>(jm (isVar a) (ev c a) (isVar i) (ev c i) ρ).bind λq ρ=>lift (Ey q.1 q.2) ρ|.slice a l h,ρ=>match isVar a with|some i=>(lift (pk ρ i) ρ).bind λ_ ρ=>(cL (isVar l) (ev c l) ρ).bind λy ρ=>(cL (isVar h) (ev c h) ρ).bind λz ρ=>(lift (pk ρ i) ρ).bind λx ρ=>lift (PB x (part l y) (part h z)) ρ|none=>(cL none (ev c a) ρ).bind λx ρ=>(cL (isVar l) (ev c l) ρ).bind λy ρ=>(cL (isVar h) (ev c h) ρ).bind λz ρ=>lift (PB x (part l y) (part h z)) ρ
 |.call f as,ρ=>(zE c as ρ).bind λxs ρ=>jL c f xs ρ|.blt b [a],ρ=>(cL (isVar a) (ev c a) ρ).bind λx ρ=>lift (blt b [x]) ρ|.blt b as,ρ=>(evs c as ρ).bind λg ρ=>lift (blt b g) ρ|.inst E a,ρ=>(cL (isVar a) (ev c a) ρ).bind λx ρ=>.ok (.val (.bl (E.any λt=>cH t x))) ρ|.comp src n is one w B,ρ=>(srcOf (isVar src) (ev c src) ρ).bind λg s=>if g.length<=lim then(turns is one (wO c w) (ev c B) g [] (s++replicate n .aQ)).bind λxs u=>.ok (.own xs) (bB ρ (isVar src) (u.take s.length))else .stuck|.vO a b,ρ=>(jm (isVar a) (ev c a) (isVar b) (ev c b) ρ).bind λq ρ=>lift ((jc q.1).bind λi=>(jc q.2).bind λj=>if-1000000<=i/\i<=1000000000/\j<=1000000000/\-1000000000<=j then some (.val (.lst ((List.range (j-i).toNat).map λ(k:Nat)=>D.int (i+(k:Int)))))else none) ρ|.enm a,ρ=>(ev c a ρ).bind λr ρ=>lift ((items r.d).map λg=>.val (.lst (g.mapIdx λi d=>D.tup [.int (i:Int),d]))) ρ|.zip a b,ρ=>(ev c a ρ).bind λx ρ=>(ev c b ρ).bind λy ρ=>lift ((items x.d).bind λg=>(items y.d).map λes=>.val (.lst ((g.zip es).map λp=>D.tup [p.1,p.2]))) ρ|.Yo x k d,ρ=>match ρ[x]?with
   |some (.iC _)=>(cL (isVar k) (ev c k) ρ).bind λA ρ=>(cL (isVar d) (ev c d) ρ).bind λdd ρ=>match ρ[x]?with|some (.iC m)=>lift ((m.get A).bind λo=>(jc dd).map λv=>.val (.int (o.getD v))) ρ|_=>.stuck
   |_=>.stuck
 |.vw x,ρ=>match ρ[x]?with|some (.iC m)=>.ok (.val (.eN m)) (ρ.set x (.val false (.eN m)))|some (.dC kvs)=>.ok (.val (.dv (kvs.map (·.1)) (kvs.map (·.2)))) (ρ.set x (.val false (.dv (kvs.map (·.1)) (kvs.map (·.2)))))|some (.own b g)=>.ok (.val (.lst g)) (ρ.set x (.val b (.lst g)))|some (.val _ d)=>.ok (.val d) ρ|_=>.stuck
 |.RQ x k,ρ=>match ρ[x]?with
   |some (.dC _)=>(cL (isVar k) (ev c k) ρ).bind λA ρ=>match ρ[x]?with|some (.dC kvs)=>lift ((jc A).bind λk=>(mX kvs k).map .val) ρ|_=>.stuck
   |_=>.stuck
 |.RT x k neg,ρ=>(cL (isVar k) (ev c k) ρ).bind λA ρ=>match ρ[x]?with|some (.dC kvs)=>lift ((jc A).map λk=>.val (.bl (if neg then !(kvs.map (·.1)).contains k else(kvs.map (·.1)).contains k))) ρ|_=>.stuck
 |.Bp k e,ρ=>.ok (.val (.dv [k] [.int e])) ρ
noncomputable def evs(c:Call):List P->List Sl->Res (List D)|[],ρ=>.ok [] ρ|a::r,ρ=>(ev c a ρ).bind λx ρ=>(evs c r ρ).bind λxs ρ=>.ok (x.d::xs) ρ
noncomputable def zE(c:Call):List P->List Sl->Res (List Arg)|[],ρ=>.ok [] ρ|a::r,ρ=>match isVar a with|some i=>(lift (pk ρ i) ρ).bind λ_ ρ=>(zE c r ρ).bind λxs ρ=>.ok (.fY i::xs) ρ|none=>(ev c a ρ).bind λx ρ=>(zE c r ρ).bind λxs ρ=>.ok (vf x::xs) ρ
noncomputable def wO(c:Call):Option P->List Sl->Res Bool|none,ρ=>.ok true ρ|some t,ρ=>iB (ev c t) ρ
end
theorem Ja{c:Call}{ρ:List Sl}:evs c [] ρ=.ok [] ρ:=rfl
theorem Kl{c:Call}{a:P}{r:List P}{ρ:List Sl}:evs c (a::r) ρ=(_H.ev c a ρ).bind λx ρ=>(evs c r ρ).bind λxs ρ=>.ok (x.d::xs) ρ:=rfl
theorem Ag{c:Call}{ρ:List Sl}:zE c [] ρ=.ok [] ρ:=rfl
theorem vW{c:Call}{a:P}{r:List P}{ρ:List Sl}:zE c (a::r) ρ=match isVar a with|some i=>(lift (pk ρ i) ρ).bind λ_ ρ=>(zE c r ρ).bind λxs ρ=>.ok (.fY i::xs) ρ|none=>(_H.ev c a ρ).bind λx ρ=>(zE c r ρ).bind λxs ρ=>.ok (vf x::xs) ρ:=rfl
theorem E1{c i ρ}:ev c (.var i) ρ=match ρ[i]?with|some (.val _ d)=>.ok (.val d) ρ|some (.own b a)=>.ok (.val (.lst a)) (ρ.set i (.val b (.lst a)))|some (.iC (.k kvs))=>.ok (.val (.eN (.k kvs))) (ρ.set i (.val false (.eN (.k kvs))))|some (.dC kvs)=>.ok (.val (.dv (kvs.map (·.1)) (kvs.map (·.2)))) (ρ.set i (.val false (.dv (kvs.map (·.1)) (kvs.map (·.2)))))|_=>.stuck:=(rfl)
theorem E2{c d ρ}:ev c (.con d) ρ=.ok (.val d) ρ:=(rfl)
theorem E3{c w1 d ρ}:ev c (.glob w1 d) ρ=.ok (.val d) ρ:=(rfl)
theorem E4{c o a b ρ}:ev c (.bin o a b) ρ=(jm (isVar a) (ev c a) (isVar b) (ev c b) ρ).bind λe ρ=>lift (uG o e.1 e.2) ρ:=(rfl)
theorem E5{c a ρ}:ev c (.neg a) ρ=(cL (isVar a) (ev c a) ρ).bind λx ρ=>lift (Iv x) ρ:=(rfl)
theorem E6{c a ρ}:ev c (.not a) ρ=(iB (ev c a) ρ).bind λb ρ=>.ok (.val (.bl (!b))) ρ:=(rfl)
theorem E7{c a b ρ}:ev c (.and a b) ρ=(iB (ev c a) ρ).bind λx ρ=>if x then(iB (ev c b) ρ).bind λy ρ=>.ok (.val (.bl y)) ρ else .ok (.val (.bl false)) ρ:=(rfl)
theorem E8{c a b ρ}:ev c (.or a b) ρ=(iB (ev c a) ρ).bind λx ρ=>if x then .ok (.val (.bl true)) ρ else(iB (ev c b) ρ).bind λy ρ=>.ok (.val (.bl y)) ρ:=(rfl)
theorem E9{c o a b ρ}:ev c (.cmp o a b) ρ=(jm (isVar a) (ev c a) (isVar b) (ev c b) ρ).bind λe ρ=>lift (oX o e.1 e.2) ρ:=(rfl)
theorem E10{c o o' a b d ρ}:ev c (.chain o o' a b d) ρ=(jm (isVar a) (ev c a) (isVar b) (ev c b) ρ).bind λe ρ=>(lift (if flat e.2=true then cm o e.1 e.2 else none) ρ).bind λk ρ=>if k then(cL (isVar d) (ev c d) ρ).bind λz ρ=>lift (oX o' e.2 z) ρ else .ok (.val (.bl false)) ρ:=(rfl)
theorem E11{c t a b ρ}:ev c (.RP t a b) ρ=(iB (ev c t) ρ).bind λk ρ=>if k then(ev c a ρ).bind λr ρ=>.ok (.val r.d) ρ else(ev c b ρ).bind λr ρ=>.ok (.val r.d) ρ:=(rfl)
theorem E12{c as ρ}:ev c (.tup as) ρ=(evs c as ρ).bind λa ρ=>.ok (.val (.tup a)) ρ:=(rfl)
theorem E13{c as ρ}:ev c (.lst as) ρ=(evs c as ρ).bind λa ρ=>.ok (.own a) ρ:=(rfl)
theorem E14{c a i ρ}:ev c (.idx a i) ρ=(jm (isVar a) (ev c a) (isVar i) (ev c i) ρ).bind λb ρ=>lift (Ey b.1 b.2) ρ:=(rfl)
theorem E15{c a l h ρ}:ev c (.slice a l h) ρ=match isVar a with|some i=>(lift (pk ρ i) ρ).bind λ_ ρ=>(cL (isVar l) (ev c l) ρ).bind λy ρ=>(cL (isVar h) (ev c h) ρ).bind λz ρ=>(lift (pk ρ i) ρ).bind λx ρ=>lift (PB x (part l y) (part h z)) ρ|none=>(cL none (ev c a) ρ).bind λx ρ=>(cL (isVar l) (ev c l) ρ).bind λy ρ=>(cL (isVar h) (ev c h) ρ).bind λz ρ=>lift (PB x (part l y) (part h z)) ρ:=(rfl)
theorem E16{c f as ρ}:ev c (.call f as) ρ=(zE c as ρ).bind λxs ρ=>jL c f xs ρ:=(rfl)
theorem E17{c b a ρ}:ev c (.blt b [a]) ρ=(cL (isVar a) (ev c a) ρ).bind λx ρ=>lift (blt b [x]) ρ:=(rfl)
theorem E18{c b x y r ρ}:ev c (.blt b (x::y::r)) ρ=(evs c (x::y::r) ρ).bind λa ρ=>lift (blt b a) ρ:=(rfl)
theorem Zo{c b ρ}:ev c (.blt b []) ρ=(evs c [] ρ).bind λa ρ=>lift (blt b a) ρ:=(rfl)
theorem E19{c ts a ρ}:ev c (.inst ts a) ρ=(cL (isVar a) (ev c a) ρ).bind λx ρ=>.ok (.val (.bl (ts.any λt=>cH t x))) ρ:=(rfl)
theorem E20{c src n is one test elt ρ}:ev c (.comp src n is one test elt) ρ=(srcOf (isVar src) (ev c src) ρ).bind λe a=>if e.length<=lim then(turns is one (wO c test) (ev c elt) e [] (a++replicate n .aQ)).bind λxs b=>.ok (.own xs) (bB ρ (isVar src) (b.take a.length))else .stuck:=(rfl)
theorem E21{c a b ρ}:ev c (.vO a b) ρ=(jm (isVar a) (ev c a) (isVar b) (ev c b) ρ).bind λe ρ=>lift ((jc e.1).bind λi=>(jc e.2).bind λj=>if-1000000<=i/\i<=1000000000/\j<=1000000000/\-1000000000<=j then some (.val (.lst ((List.range (j-i).toNat).map λ(k:Nat)=>D.int (i+(k:Int)))))else none) ρ:=(rfl)
theorem E22{c a ρ}:ev c (.enm a) ρ=(ev c a ρ).bind λr ρ=>lift ((items r.d).map λb=>.val (.lst (b.mapIdx λi d=>D.tup [.int (i:Int),d]))) ρ:=(rfl)
theorem E23{c a b ρ}:ev c (.zip a b) ρ=(ev c a ρ).bind λx ρ=>(ev c b ρ).bind λy ρ=>lift ((items x.d).bind λe=>(items y.d).map λes=>.val (.lst ((e.zip es).map λp=>D.tup [p.1,p.2]))) ρ:=(rfl)
theorem E24{c x k d ρ}:ev c (.Yo x k d) ρ=match ρ[x]?with
 |some (.iC _)=>(cL (isVar k) (ev c k) ρ).bind λa ρ=>(cL (isVar d) (ev c d) ρ).bind λdd ρ=>match ρ[x]?with|some (.iC m)=>lift ((m.get a).bind λo=>(jc dd).map λv=>.val (.int (o.getD v))) ρ|_=>.stuck
 |_=>.stuck:=(rfl)
theorem E25{c x ρ}:ev c (.vw x) ρ=match ρ[x]?with|some (.iC m)=>.ok (.val (.eN m)) (ρ.set x (.val false (.eN m)))|some (.dC kvs)=>.ok (.val (.dv (kvs.map (·.1)) (kvs.map (·.2)))) (ρ.set x (.val false (.dv (kvs.map (·.1)) (kvs.map (·.2)))))|some (.own b a)=>.ok (.val (.lst a)) (ρ.set x (.val b (.lst a)))|some (.val _ d)=>.ok (.val d) ρ|_=>.stuck:=(rfl)
theorem E26{c x k ρ}:ev c (.RQ x k) ρ=match ρ[x]?with
 |some (.dC _)=>(cL (isVar k) (ev c k) ρ).bind λa ρ=>match ρ[x]?with|some (.dC kvs)=>lift ((jc a).bind λk=>(mX kvs k).map .val) ρ|_=>.stuck
 |_=>.stuck:=(rfl)
theorem E27{c x k neg ρ}:ev c (.RT x k neg) ρ=(cL (isVar k) (ev c k) ρ).bind λa ρ=>match ρ[x]?with|some (.dC kvs)=>lift ((jc a).map λk=>.val (.bl (if neg then !(kvs.map (·.1)).contains k else(kvs.map (·.1)).contains k))) ρ|_=>.stuck:=(rfl)
theorem E28{c k e ρ}:ev c (.Bp k e) ρ=.ok (.val (.dv [k] [.int e])) ρ:=(rfl)
inductive S where|pass|brk|cont|bad|expr(e:P)|asg(i:Nat)(e:P)|par(i j:Nat)(a b:P)|unp(i:List Nat)(e:P)|Lf(x:Nat)(i e:P)|app(x:Nat)(e:P)|ret(e:P)|aa2|ifs(c:P)(a b:List S)|iW(src:P)(i:List Nat)(one:Bool)(body:List S)|whl(c:P)(body:List S)|Lg(x:Nat)(i:P)(sub:Bool)(e:P)|Lh(x:Nat)(e:P)|zq(k:Nat)|Qv(body:List S)(x:Nat)(hs:List (List S))|Li(x:Nat)(t:Bool)|dput(x:Nat)(k e:P)|Lj(x:Nat)(src:P)(k:Nat)(is:List Nat)(one:Bool)(elt:P)|Lk(x:Nat)(i e:P)|Gy(src:P)(is:List Nat)(one:Bool)(body:List S)|dz(x:Nat)|Gz(x:Nat)|iD(x:Nat)(k e:P)|Bq(e:P)deriving Inhabited
inductive Fl where|next|brk|cont|ret(r:R)deriving Inhabited
noncomputable def Ba:R->Sl|.val d=>.val false d|.own a=>.own false a
noncomputable def jB(is:List Nat)(one:Bool)(body:List Sl->Res Fl):List D->List Sl->Res Fl|[],ρ=>.ok .next ρ|d::r,ρ=>match cI ρ is one d with|none=>.stuck|some ρ=>(body ρ).bind λfl ρ=>match fl with|.next=>jB is one body r ρ|.cont=>jB is one body r ρ|.brk=>.ok .next ρ|.ret r=>.ok (.ret r) ρ
theorem Hj{is:List Nat}{o:Bool}{b:List Sl->Res Fl}{ρ:List Sl}:jB is o b [] ρ=.ok .next ρ:=rfl
theorem zV{is:List Nat}{o:Bool}{b:List Sl->Res Fl}{d:D}{r:List D}{ρ:List Sl}:jB is o b (d::r) ρ=match cI ρ is o d with|none=>.stuck|some ρ=>(b ρ).bind λfl ρ=>match fl with|.next=>jB is o b r ρ|.cont=>jB is o b r ρ|.brk=>.ok .next ρ|.ret r=>.ok (.ret r) ρ:=rfl
noncomputable def rR(a:List Sl->Res Bool)(body:List Sl->Res Fl):Nat->List Sl->Res Fl|0,_=>.stuck|n+1,ρ=>(a ρ).bind λb ρ=>if b then(body ρ).bind λfl ρ=>match fl with|.next=>rR a body n ρ|.cont=>rR a body n ρ|.brk=>.ok .next ρ|.ret r=>.ok (.ret r) ρ else .ok .next ρ
theorem VG{f:List Sl->Res Bool}{b:List Sl->Res Fl}{ρ:List Sl}:rR f b 0 ρ=.stuck:=rfl
theorem JZ{f:List Sl->Res Bool}{b:List Sl->Res Fl}{n:Nat}{ρ:List Sl}:rR f b (n+1) ρ=(f ρ).bind λx ρ=>if x then(b ρ).bind λfl ρ=>match fl with|.next=>rR f b n ρ|.cont=>rR f b n ρ|.brk=>.ok .next ρ|.ret r=>.ok (.ret r) ρ else .ok .next ρ:=rfl
noncomputable def gZ(is:List Nat)(one:Bool)(b:Ev):List D->List (List D)->List Sl->Res (List (List D))|[],a,ρ=>.ok a ρ|d::r,a,ρ=>match cI ρ is one d with|none=>.stuck|some ρ=>(b ρ).bind λx ρ=>match x with|.own c=>gZ is one b r (a++[c]) ρ|.val _=>.stuck
theorem Lb{is:List Nat}{o:Bool}{e:Ev}{a:List (List D)}{ρ:List Sl}:gZ is o e [] a ρ=.ok a ρ:=rfl
theorem J1{is:List Nat}{o:Bool}{e:Ev}{d:D}{r:List D}{a:List (List D)}{ρ:List Sl}:gZ is o e (d::r) a ρ=match cI ρ is o d with|none=>.stuck|some ρ=>(e ρ).bind λx ρ=>match x with|.own b=>gZ is o e r (a++[b]) ρ|.val _=>.stuck:=rfl
noncomputable def rowAt(a:List (List D))(k:Int):Option (List D):=(j9 a.length k).bind λr=>a[r]?
noncomputable def lz(a:List (List D))(k:Int)(f:List D->Option (List D)):Option (List (List D)):=(j9 a.length k).bind λr=>(a[r]?).bind λrow=>(f row).map λb=>a.set r b
noncomputable def setAt(l:Int)(d:D)(row:List D):Option (List D):=(j9 row.length l).map λm=>row.set m d
noncomputable def jO(ρ:List Sl)(x:Nat):Option (List (List D)):=match ρ[x]?with|some (.hold a)=>some a|_=>none
noncomputable def wZ(ρ:List Sl)(x:Nat)(k:D):Option (List D):=(jO ρ x).bind λa=>(jc k).bind λk=>rowAt a k
noncomputable def Fb(ρ:List Sl)(x:Nat)(o:Option (List (List D))):Res Fl:=match o with|some a=>.ok .next (ρ.set x (.hold a))|none=>.stuck
noncomputable def rowOne(x r:Nat)(b c e:List Sl->Res D)(ρ:List Sl):Res Fl:=(c ρ).bind λk ρ=>(lift ((jO ρ x).bind λa=>(a[r]?).bind λrow=>(jc k).bind λk=>(at' row k).bind jc) ρ).bind λu ρ=>(e ρ).bind λl ρ=>(lift ((jO ρ x).bind λa=>(a[r]?).bind λrow=>(jc l).bind λl=>(at' row l).bind jc) ρ).bind λv ρ=>(b ρ).bind λj ρ=>Fb ρ x ((jO ρ x).bind λa=>(a[r]?).bind λrow=>(jc j).bind λj=>(setAt j (.int (u+v)) row).map λf=>a.set r f)
noncomputable def Ul(x y:Nat)(a b c:List Sl->Res D):Nat->Nat->List Sl->Res Fl|0,_,ρ=>.ok .next ρ|m+1,r,ρ=>(lift (put ρ y .aQ) ρ).bind λρ _=>(rowOne x r a b c ρ).bind λ_ ρ=>Ul x y a b c m (r+1) ρ
noncomputable def U6(is:List Nat)(one:Bool)(body:List Sl->Res Fl)(b:List Sl->Option (Nat×List Sl)):List D->List Sl->Option (Nat×List Sl)|[],_=>none|d::r,ρ=>match cI ρ is one d with|none=>none|some ρ=>match b ρ with|some x=>some x|none=>match body ρ with|.ok .next a=>U6 is one body b r a|.ok .cont a=>U6 is one body b r a|_=>none
noncomputable def V1(a:List Sl->Res Bool)(body:List Sl->Res Fl)(e:List Sl->Option (Nat×List Sl)):Nat->List Sl->Option (Nat×List Sl)|0,_=>none|n+1,ρ=>match a ρ with
   |.ok true c=>match e c with|some x=>some x|none=>match body c with|.ok .next b=>V1 a body e n b|.ok .cont b=>V1 a body e n b|_=>none
   |_=>none
noncomputable def mL:P->P|.idx a _=>a|.blt .sum [.comp s _ _ _ _ _]=>s|e=>e
noncomputable def Zj:P->P|.call _ (a::_)=>a|e=>e
noncomputable def W3:Sl->Bool|.aQ=>true|.val b _=>!b|.own b _=>!b|.lent _=>false|.iC _=>true|.hold _=>false|.dC _=>true
noncomputable def ji(c:Call)(e:P)(ρ:List Sl):Option (Nat×List Sl):=match mL e with
 |.call f as=>match zE c as ρ with
   |.ok xs b=>match bW b xs []with
     |some args=>match c f args with|.exc k a=>some (k,fC xs a 0 b)|_=>none
     |none=>none
   |_=>none
 |_=>none
mutual
noncomputable def ex(c:Call)(n:Nat):S->List Sl->Res Fl
 |.pass,ρ=>.ok .next ρ|.brk,ρ=>.ok .brk ρ|.cont,ρ=>.ok .cont ρ|.bad,_=>.stuck|.expr e,ρ=>(ev c e ρ).bind λ_ ρ=>.ok .next ρ|.asg i e,ρ=>(ev c e ρ).bind λr ρ=>(lift (put ρ i (Ba r)) ρ).bind λh _=>.ok .next h|.par i j a b,ρ=>(ev c a ρ).bind λx ρ=>(ev c b ρ).bind λy ρ=>(lift ((put ρ i (.val false x.d)).bind λρ=>put ρ j (.val false y.d)) ρ).bind λh _=>.ok .next h|.unp is e,ρ=>(ev c e ρ).bind λr ρ=>match r.d with|.tup g=>(lift (putAll ρ is g) ρ).bind λh _=>.ok .next h|_=>.stuck
 |.Lf x i e,ρ=>(ev c e ρ).bind λr ρ=>(lift (pk ρ x) ρ).bind λ_ ρ=>(cL (isVar i) (ev c i) ρ).bind λk ρ=>match ρ[x]?,k with
   |some (.own b g),.int k=>match j9 g.length k with|some j=>.ok .next (ρ.set x (.own b (g.set j r.d)))|none=>.stuck
   |_,_=>.stuck
 |.app x e,ρ=>(lift (Ad ρ x) ρ).bind λ_ ρ=>(ev c e ρ).bind λr ρ=>match ρ[x]?with|some (.own b g)=>if g.length<lim then .ok .next (ρ.set x (.own b (g++[r.d])))else .stuck|_=>.stuck
 |.ret e,ρ=>match isVar e with
   |some i=>match ρ[i]?with|some (.own false g)=>.ok (.ret (.own g)) (ρ.set i .aQ)|_=>(ev c e ρ).bind λr ρ=>.ok (.ret r) ρ
   |none=>(ev c e ρ).bind λr ρ=>.ok (.ret r) ρ
 |.aa2,ρ=>.ok (.ret (.val .non)) ρ|.ifs t a b,ρ=>(iB (ev c t) ρ).bind λk ρ=>if k then eO c n a ρ else eO c n b ρ|.iW src is one body,ρ=>(srcOf (isVar src) (ev c src) ρ).bind λg f=>(jB is one (eO c n body) g f).bind λfl p=>.ok fl (bB ρ (isVar src) p)|.whl t body,ρ=>rR (iB (ev c t)) (eO c n body) n ρ|.Lg x i sub e,ρ=>(lift (Ad ρ x) ρ).bind λ_ ρ=>(cL (isVar i) (ev c i) ρ).bind λk ρ=>(lift (Ad ρ x) ρ).bind λl ρ=>(lift ((jc k).bind λi=>at' l i) ρ).bind λa ρ=>(cL (isVar e) (ev c e) ρ).bind λb ρ=>match a,b,ρ[x]?,k with
   |.int u,.int v,some (.own z g),.int k=>match j9 g.length k with|some j=>.ok .next (ρ.set x (.own z (g.set j (.int (if sub then u-v else u+v)))))|none=>.stuck
   |_,_,_,_=>.stuck
 |.Lh x e,ρ=>(lift (Ad ρ x) ρ).bind λ_ ρ=>(ev c e ρ).bind λr ρ=>match ρ[x]?,r with|some (.own b g),.own es=>if g.length+es.length<=lim then .ok .next (ρ.set x (.own b (g++es)))else .stuck|_,_=>.stuck
 |.Li x t,ρ=>match ρ[x]?with|some .aQ=>.ok .next (ρ.set x (.iC (if t then .t []else .k [])))|_=>.stuck
 |.dput x k e,ρ=>(ev c e ρ).bind λr ρ=>match ρ[x]?with
   |some (.iC _)=>(cL (isVar k) (ev c k) ρ).bind λs ρ=>match ρ[x]?,r with
     |some (.iC m),.val (.int v)=>match m.put s v with|some A=>.ok .next (ρ.set x (.iC A))|none=>.stuck
     |_,_=>.stuck
   |_=>.stuck
 |.zq _,_=>.stuck|.Qv body x hs,ρ=>match eO c n body ρ with|.ok fl h=>.ok fl h|_=>match jU c n body ρ with
     |some (k,_)=>if ρ.all W3=true then match Ru c n hs k (replicate ρ.length .aQ)with
      |.ok .next q=>match q[x]?with|some .aQ=>.ok .next q|_=>.stuck
      |_=>.stuck else .stuck|none=>.stuck
 |.Lj x src k is one w,ρ=>(srcOf (isVar src) (ev c src) ρ).bind λg f=>if g.length<=lim then(gZ is one (ev c w) g [] (f++replicate k .aQ)).bind λo p=>(lift (put (bB ρ (isVar src) (p.take f.length)) x (.hold o)) ρ).bind λh _=>.ok .next h else .stuck|.Lk x i e,ρ=>(cL (isVar i) (ev c i) ρ).bind λk ρ=>(lift (wZ ρ x k) ρ).bind λ_ ρ=>(ev c e ρ).bind λr ρ=>Fb ρ x ((jO ρ x).bind λo=>(jc k).bind λk=>lz o k λrow=>if row.length<lim then some (row++[r.d])else none)|.Gy src is one body,ρ=>(ev c src ρ).bind λr f=>(lift (items r.d) f).bind λg f=>jB is one (eO c n body) g f|.dz x,ρ=>match ρ[x]?with|some (.hold o)=>.ok .next (ρ.set x (.val false (.lst (o.map D.lst))))|_=>.stuck
 |.Gz x,ρ=>match ρ[x]?with|some .aQ=>.ok .next (ρ.set x (.dC []))|some (.dC _)=>.ok .next (ρ.set x (.dC []))|some (.val false _)=>.ok .next (ρ.set x (.dC []))|_=>.stuck
 |.iD x k e,ρ=>(ev c e ρ).bind λr ρ=>match ρ[x]?with
   |some (.dC _)=>(cL (isVar k) (ev c k) ρ).bind λs ρ=>match ρ[x]?,s with|some (.dC kvs),.int k=>if kvs.length<lim then .ok .next (ρ.set x (.dC (iD kvs k r.d)))else .stuck|_,_=>.stuck
   |_=>.stuck
 |.Bq e,ρ=>(ev c e ρ).bind λr ρ=>.ok (.ret r) ρ
noncomputable def Ru(c:Call)(n:Nat):List (List S)->Nat->List Sl->Res Fl|[],_,_=>.stuck|a::_,0,ρ=>eO c n a ρ|_::r,k+1,ρ=>Ru c n r k ρ
noncomputable def eO(c:Call)(n:Nat):List S->List Sl->Res Fl|[],ρ=>.ok .next ρ|s::r,ρ=>(ex c n s ρ).bind λfl ρ=>match fl with|.next=>eO c n r ρ|fl=>.ok fl ρ
noncomputable def zy(c:Call)(n:Nat):S->List Sl->Option (Nat×List Sl)
 |.zq k,ρ=>some (k,ρ)|.ifs t a b,ρ=>match iB (ev c t) ρ with|.ok x f=>if x then jU c n a f else jU c n b f|_=>none
 |.iW src is one body,ρ=>match ji c src ρ with|some x=>some x|none=>match srcOf (isVar src) (ev c src) ρ with|.ok g f=>(U6 is one (eO c n body) (jU c n body) g f).map λx=>(x.1,bB ρ (isVar src) x.2)|_=>none
 |.ret e,ρ=>ji c e ρ|.Bq e,ρ=>ji c (Zj e) ρ|.asg _ e,ρ=>ji c e ρ|.expr e,ρ=>ji c e ρ|.whl t body,ρ=>V1 (iB (ev c t)) (eO c n body) (jU c n body) n ρ|_,_=>none
noncomputable def jU(c:Call)(n:Nat):List S->List Sl->Option (Nat×List Sl)|[],_=>none|s::r,ρ=>match zy c n s ρ with|some x=>some x|none=>match ex c n s ρ with|.ok .next a=>jU c n r a|_=>none
end
theorem X1{c n ρ}:ex c n (.pass) ρ=.ok .next ρ:=(rfl)
theorem X2{c n ρ}:ex c n (.brk) ρ=.ok .brk ρ:=(rfl)
theorem X3{c n ρ}:ex c n (.cont) ρ=.ok .cont ρ:=(rfl)
theorem X4{c n ρ}:ex c n (.bad) ρ=.stuck:=(rfl)
theorem X5{c n e ρ}:ex c n (.expr e) ρ=(ev c e ρ).bind λ_ ρ=>.ok .next ρ:=(rfl)
theorem X6{c n i e ρ}:ex c n (.asg i e) ρ=(ev c e ρ).bind λr ρ=>(lift (put ρ i (Ba r)) ρ).bind λa _=>.ok .next a:=(rfl)
theorem X7{c n i j a b ρ}:ex c n (.par i j a b) ρ=(ev c a ρ).bind λx ρ=>(ev c b ρ).bind λy ρ=>(lift ((put ρ i (.val false x.d)).bind λρ=>put ρ j (.val false y.d)) ρ).bind λe _=>.ok .next e:=(rfl)
theorem X8{c n is e ρ}:ex c n (.unp is e) ρ=(ev c e ρ).bind λr ρ=>match r.d with|.tup b=>(lift (putAll ρ is b) ρ).bind λa _=>.ok .next a|_=>.stuck:=(rfl)
theorem X9{c n x i e ρ}:ex c n (.Lf x i e) ρ=(ev c e ρ).bind λr ρ=>(lift (pk ρ x) ρ).bind λ_ ρ=>(cL (isVar i) (ev c i) ρ).bind λk ρ=>match ρ[x]?,k with
 |some (.own b a),.int k=>match j9 a.length k with|some j=>.ok .next (ρ.set x (.own b (a.set j r.d)))|none=>.stuck
 |_,_=>.stuck:=(rfl)
theorem X10{c n x e ρ}:ex c n (.app x e) ρ=(lift (Ad ρ x) ρ).bind λ_ ρ=>(ev c e ρ).bind λr ρ=>match ρ[x]?with|some (.own b a)=>if a.length<lim then .ok .next (ρ.set x (.own b (a++[r.d])))else .stuck|_=>.stuck:=(rfl)
theorem X11{c n e ρ}:ex c n (.ret e) ρ=match isVar e with
 |some i=>match ρ[i]?with|some (.own false a)=>.ok (.ret (.own a)) (ρ.set i .aQ)|_=>(ev c e ρ).bind λr ρ=>.ok (.ret r) ρ
 |none=>(ev c e ρ).bind λr ρ=>.ok (.ret r) ρ:=(rfl)
theorem X12{c n ρ}:ex c n (.aa2) ρ=.ok (.ret (.val .non)) ρ:=(rfl)
theorem X13{c n t a b ρ}:ex c n (.ifs t a b) ρ=(iB (ev c t) ρ).bind λk ρ=>if k then eO c n a ρ else eO c n b ρ:=(rfl)
theorem X14{c n src is one body ρ}:ex c n (.iW src is one body) ρ=(srcOf (isVar src) (ev c src) ρ).bind λe a=>(jB is one (eO c n body) e a).bind λfl b=>.ok fl (bB ρ (isVar src) b):=(rfl)
theorem X15{c n t body ρ}:ex c n (.whl t body) ρ=rR (iB (ev c t)) (eO c n body) n ρ:=(rfl)
theorem X16{c n x i sub e ρ}:ex c n (.Lg x i sub e) ρ=(lift (Ad ρ x) ρ).bind λ_ ρ=>(cL (isVar i) (ev c i) ρ).bind λk ρ=>(lift (Ad ρ x) ρ).bind λl ρ=>(lift ((jc k).bind λi=>at' l i) ρ).bind λa ρ=>(cL (isVar e) (ev c e) ρ).bind λb ρ=>match a,b,ρ[x]?,k with
 |.int u,.int v,some (.own g f),.int k=>match j9 f.length k with|some j=>.ok .next (ρ.set x (.own g (f.set j (.int (if sub then u-v else u+v)))))|none=>.stuck
 |_,_,_,_=>.stuck:=(rfl)
theorem X17{c n x e ρ}:ex c n (.Lh x e) ρ=(lift (Ad ρ x) ρ).bind λ_ ρ=>(ev c e ρ).bind λr ρ=>match ρ[x]?,r with|some (.own b a),.own es=>if a.length+es.length<=lim then .ok .next (ρ.set x (.own b (a++es)))else .stuck|_,_=>.stuck:=(rfl)
theorem X18{c n x t ρ}:ex c n (.Li x t) ρ=match ρ[x]?with|some .aQ=>.ok .next (ρ.set x (.iC (if t then .t []else .k [])))|_=>.stuck:=(rfl)
theorem X19{c n x k e ρ}:ex c n (.dput x k e) ρ=(ev c e ρ).bind λr ρ=>match ρ[x]?with
 |some (.iC _)=>(cL (isVar k) (ev c k) ρ).bind λa ρ=>match ρ[x]?,r with
   |some (.iC m),.val (.int v)=>match m.put a v with|some b=>.ok .next (ρ.set x (.iC b))|none=>.stuck
   |_,_=>.stuck
 |_=>.stuck:=(rfl)
theorem X20{c n w1 ρ}:ex c n (.zq w1) ρ=.stuck:=(rfl)
theorem X21{c n body x hs ρ}:ex c n (.Qv body x hs) ρ=match eO c n body ρ with|.ok fl b=>.ok fl b|_=>match jU c n body ρ with
   |some (k,_)=>if ρ.all W3=true then match Ru c n hs k (replicate ρ.length .aQ)with
    |.ok .next a=>match a[x]?with|some .aQ=>.ok .next a|_=>.stuck
    |_=>.stuck else .stuck|none=>.stuck:=(rfl)
theorem X22{c n x src k is one elt ρ}:ex c n (.Lj x src k is one elt) ρ=(srcOf (isVar src) (ev c src) ρ).bind λg a=>if g.length<=lim then(gZ is one (ev c elt) g [] (a++replicate k .aQ)).bind λe b=>(lift (put (bB ρ (isVar src) (b.take a.length)) x (.hold e)) ρ).bind λf _=>.ok .next f else .stuck:=(rfl)
theorem X23{c n x i e ρ}:ex c n (.Lk x i e) ρ=(cL (isVar i) (ev c i) ρ).bind λk ρ=>(lift (wZ ρ x k) ρ).bind λ_ ρ=>(ev c e ρ).bind λr ρ=>Fb ρ x ((jO ρ x).bind λa=>(jc k).bind λk=>lz a k λrow=>if row.length<lim then some (row++[r.d])else none):=(rfl)
theorem X24{c n src is one body ρ}:ex c n (.Gy src is one body) ρ=(ev c src ρ).bind λr a=>(lift (items r.d) a).bind λb a=>jB is one (eO c n body) b a:=(rfl)
theorem X25{c n x ρ}:ex c n (.dz x) ρ=match ρ[x]?with|some (.hold a)=>.ok .next (ρ.set x (.val false (.lst (a.map D.lst))))|_=>.stuck:=(rfl)
theorem X26{c n x ρ}:ex c n (.Gz x) ρ=match ρ[x]?with|some .aQ=>.ok .next (ρ.set x (.dC []))|some (.dC _)=>.ok .next (ρ.set x (.dC []))|some (.val false _)=>.ok .next (ρ.set x (.dC []))|_=>.stuck:=(rfl)
theorem X27{c n x k e ρ}:ex c n (.iD x k e) ρ=(ev c e ρ).bind λr ρ=>match ρ[x]?with
 |some (.dC _)=>(cL (isVar k) (ev c k) ρ).bind λa ρ=>match ρ[x]?,a with|some (.dC kvs),.int k=>if kvs.length<lim then .ok .next (ρ.set x (.dC (iD kvs k r.d)))else .stuck|_,_=>.stuck
 |_=>.stuck:=(rfl)
theorem X28{c n e ρ}:ex c n (.Bq e) ρ=(ev c e ρ).bind λr ρ=>.ok (.ret r) ρ:=(rfl)
structure Fd where
 np:Nat
 nn:Nat
 body:List S deriving Inhabited
noncomputable abbrev Tab:=Nat->Option Fd
noncomputable def enter(c:Call)(n:Nat)(d:Fd)(args:List Sl):Res R:=if args.length=d.np/\d.np<=d.nn then match eO c n d.body (args++replicate (d.nn-d.np) .aQ)with|.ok .next ρ=>.ok (.val .non) (ρ.take d.np)|.ok (.ret r) ρ=>.ok r (ρ.take d.np)|_=>match jU c n d.body (args++replicate (d.nn-d.np) .aQ)with|some (k,ρ)=>.exc k (ρ.take d.np)|none=>.stuck else .stuck
noncomputable def run(Γ:Tab)(w:Nat):Nat->Call|0,_,_=>.stuck|n+1,f,args=>match Γ f with|some d=>enter (run Γ w n) w d args|none=>.stuck
end _H
section
namespace _H
open PySem _L
variable{ρ:List Sl}{σ:St}{v:V}
noncomputable def Dc.ho:Dc->HO|.k kvs=>.dK (kvs.map λp=>(Sum.inl p.1,V.int p.2))|.t kvs=>.dT (kvs.map λp=>(p.1.map Sum.inl,V.int p.2))
noncomputable def BX(ks:List Int)(vs:List V):HO:=.dK ((ks.zip vs).map λp=>(Sum.inl p.1,p.2))
section
variable(K:PySem.W.Frag)
mutual
noncomputable def Rep(F:Hp):V->D->Prop|v,.non=>v=.non|v,.bl b=>v=.bl b|v,.int i=>v=.int i|v,.str x=>v=.str x|v,.tup c=>∃a xs,v=.ref a/\jw K F a xs/\aH F xs c|v,.lst c=>∃a xs,v=.ref a/\fM K F a xs/\aH F xs c|v,.eN m=>∃a o,v=.ref a/\F a=some (.dz o m.ho)|v,.dv ks c=>∃a o vs,v=.ref a/\F a=some (.dz o (BX ks vs))/\aH F vs c/\ks.length=c.length
noncomputable def aH(F:Hp):List V->List D->Prop|vs,[]=>vs=[]|vs,d::a=>∃v r,vs=v::r/\Rep F v d/\aH F r a
end
end
section
variable{K:PySem.W.Frag}{F F' H H':Hp}
theorem aJ.iG{a:Addr}{xs:List V}(e:aJ H H')(h:jw K H a xs):jw K H' a xs:=by
 rcases h with(h|⟨o,h⟩)|h;.exact .inl (.inl (e _ _ h))
 .exact .inl (.inr ⟨o,e _ _ h⟩)
 .exact .inr h
mutual
theorem Rep.mono(e:aJ F F'):∀{d:D}{v:V},Rep K F v d->Rep K F' v d|.non,_,h=>by rw[Rep]at h ⊢;exact h|.bl _,_,h=>by rw[Rep]at h ⊢;exact h|.int _,_,h=>by rw[Rep]at h ⊢;exact h|.str _,_,h=>by rw[Rep]at h ⊢;exact h|.tup b,_,h=>by rw[Rep]at h ⊢;obtain⟨a,xs,rfl,hs,r⟩:=h;exact⟨a,xs,rfl,aJ.iG e hs,aH.mono e r⟩|.lst b,_,h=>by rw[Rep]at h ⊢;obtain⟨a,xs,rfl,hs,r⟩:=h;exact⟨a,xs,rfl,e.seq hs,aH.mono e r⟩|.eN m,_,h=>by rw[Rep]at h ⊢;obtain⟨a,o,rfl,hs⟩:=h;exact⟨a,o,rfl,e _ _ hs⟩|.dv ks b,_,h=>by rw[Rep]at h ⊢;obtain⟨a,o,vs,rfl,hs,r,c⟩:=h;exact⟨a,o,vs,rfl,e _ _ hs,aH.mono e r,c⟩theorem aH.mono(e:aJ F F'):∀{a:List D}{vs:List V},aH K F vs a->aH K F' vs a|[],_,h=>by rw[aH]at h ⊢;exact h|d::a,_,h=>by rw[aH]at h ⊢;obtain⟨v,r,rfl,h1,b⟩:=h;exact⟨v,r,rfl,Rep.mono e h1,aH.mono e b⟩end
theorem aH.nil:aH K F [] []:=by rw[aH]
theorem aH.cons{v:V}{d:D}{vs:List V}{a:List D}(h:Rep K F v d)(t:aH K F vs a):aH K F (v::vs) (d::a):=by rw[aH];exact⟨v,vs,rfl,h,t⟩
theorem aH.cW{vs:List V}{d:D}{a:List D}(h:aH K F vs (d::a)):∃v r,vs=v::r/\Rep K F v d/\aH K F r a:=by rw[aH]at h;exact h
theorem aH.gW{vs:List V}(h:aH K F vs []):vs=[]:=by rw[aH]at h;exact h
theorem aH.length:∀{a:List D}{vs:List V},aH K F vs a->vs.length=a.length|[],_,h=>by rw[h.gW];rfl|d::a,_,h=>by obtain⟨v,r,rfl,_,t⟩:=h.cW;simp[aH.length t]
theorem aH.get:∀{a:List D}{vs:List V}{i:Nat}{d:D},aH K F vs a->a[i]?=some d->∃v,vs[i]?=some v/\Rep K F v d|[],_,_,_,h,e=>by simp at e|d::a,_,0,_,h,e=>by obtain⟨v,r,rfl,h1,t⟩:=h.cW;simp at e;subst e;exact⟨v,rfl,h1⟩|d::a,_,i+1,_,h,e=>by obtain⟨v,r,rfl,_,t⟩:=h.cW;simp at e;obtain⟨w,b,c⟩:=t.get e;exact⟨w,by simpa using b,c⟩
theorem aH.append:∀{a es:List D}{vs b:List V},aH K F vs a->aH K F b es->aH K F (vs++b) (a++es)|[],_,_,_,h,h'=>by rw[h.gW];exact h'|d::a,_,_,_,h,h'=>by obtain⟨v,r,rfl,h1,t⟩:=h.cW;exact .cons h1 (t.append h')
theorem aH.set{v:V}{d:D}(hr:Rep K F v d):∀{a:List D}{vs:List V}(i:Nat),aH K F vs a->aH K F (vs.set i v) (a.set i d)|[],_,_,h=>by rw[h.gW];exact .nil|_::_,_,0,h=>by obtain⟨w,r,rfl,h1,t⟩:=h.cW;exact .cons hr t|_::_,_,i+1,h=>by obtain⟨w,r,rfl,h1,t⟩:=h.cW;exact .cons h1 (aH.set hr i t)
theorem aH.take:∀{a:List D}{vs:List V}(n:Nat),aH K F vs a->aH K F (vs.take n) (a.take n)|[],_,n,h=>by rw[h.gW];simpa using aH.nil|_::_,_,0,h=>.nil|_::_,_,n+1,h=>by obtain⟨w,r,rfl,h1,t⟩:=h.cW;exact .cons h1 (t.take n)
theorem aH.drop:∀{a:List D}{vs:List V}(n:Nat),aH K F vs a->aH K F (vs.drop n) (a.drop n)|[],_,n,h=>by rw[h.gW];simpa using aH.nil|_::_,_,0,h=>h|_::_,_,n+1,h=>by obtain⟨w,r,rfl,h1,t⟩:=h.cW;exact t.drop n
theorem aH.rep{a:List D}{vs:List V}(h:aH K F vs a):∀n,aH K F (replicate n vs).flatten (replicate n a).flatten|0=>by simpa using aH.nil|n+1=>by simpa[replicate_succ]using h.append (aH.rep h n)
inductive Oc where|l(ds:List D)|d(m:Dc)|v(kvs:List (Int×D))
noncomputable def lst?:Sl->Option Oc|.own _ a=>some (.l a)|.lent a=>some (.l a)|.iC m=>some (.d m)|.dC kvs=>some (.v kvs)|_=>none
noncomputable def mG(K:PySem.W.Frag)(F:Hp)(o:HO):Oc->Prop|.l a=>∃xs,o=.lst xs/\aH K F xs a|.d m=>o=m.ho|.v kvs=>∃vs,o=BX (kvs.map (·.1)) vs/\aH K F vs (kvs.map (·.2))
theorem mG.mono{o:HO}{x:Oc}(e:aJ F F')(h:mG K F o x):mG K F' o x:=by cases x with|l b=>obtain⟨xs,a,h⟩:=h;exact⟨xs,a,h.mono e⟩|d m=>exact h|v kvs=>obtain⟨xs,a,h⟩:=h;exact⟨xs,a,h.mono e⟩
noncomputable def aV(ρ:List Sl)(σ:St)(i:Nat)(a:Addr):Prop:=(∃s b,ρ[i]?=some s/\lst? s=some b)/\σ[i]?=some (some (V.ref a))
noncomputable def Own(ρ:List Sl)(σ:St)(a:Addr):Prop:=∃i,aV ρ σ i a
structure GS(K:PySem.W.Frag)(F:Hp)(ρ:List Sl)(σ:St)(H:Hp):Prop where
 sub:aJ F H
 len:ρ.length=σ.length
 val:∀(i:Nat)(b:Bool)(d:D),ρ[i]?=some (Sl.val b d)->∃v:V,σ[i]?=some (some v)/\Rep K F v d
 own:∀(i:Nat)(s:Sl)(ds:Oc),ρ[i]?=some s->lst? s=some ds->∃(a:Addr)(xs:HO),σ[i]?=some (some (V.ref a))/\H a=some xs/\F a=none/\mG K F xs ds
 dis:∀(i j:Nat)(a:Addr),aV ρ σ i a->aV ρ σ j a->i=j
theorem GS.uw(g:GS K F ρ σ H)(i:Nat)(s:Sl)(b:List D)(e:ρ[i]?=some s)(c:lst? s=some (.l b)):∃(a:Addr)(xs:List V),σ[i]?=some (some (V.ref a))/\H a=some (.lst xs)/\F a=none/\aH K F xs b:=by obtain⟨a,o,h1,f,h,xs,rfl,j⟩:=g.own i s (.l b) e c;exact⟨a,xs,h1,f,h,j⟩
noncomputable def uF:Sl->Bool|.val b _=>b|.own b _=>b|.lent _=>true|.aQ=>false|.iC _=>false|.dC _=>false|.hold _=>true
noncomputable def oM:Sl->Sl->Prop|.val true d,s=>s=.val true d|.own true _,s=>(∃a,s=.own true a)\/∃d,s=.val true d|.lent a,s=>s=.lent a|.hold a,s=>s=.hold a|_,_=>True
theorem oM.refl(s:Sl):oM s s:=by unfold oM;split<;>first|rfl|exact .inl ⟨_,rfl⟩|trivial
theorem oM.uF{s a:Sl}(h:oM s a)(l:uF s=true):_H.uF a=true:=by cases s with
 |aQ=>cases l|iC _=>cases l|dC _=>cases l|val b d=>cases b with|true=>cases h;rfl|false=>cases l
 |own b d=>cases b with|true=>rcases h with⟨_,rfl⟩|⟨_,rfl⟩<;>rfl|false=>cases l
 |lent d=>cases h;rfl|hold d=>cases h;rfl
theorem oM.trans{s c a:Sl}(l:_H.uF s=true)(h:oM s c)(h':oM c a):oM s a:=by cases s with
 |aQ=>cases l|iC _=>cases l|dC _=>cases l|val b d=>cases b with|true=>cases h;exact h'|false=>cases l
 |own b d=>cases b with
   | true => rcases h with⟨_,rfl⟩|⟨d,rfl⟩;.exact h'
             .exact .inr ⟨d,h'⟩|false=>cases l
 |lent d=>cases h;exact h'|hold d=>cases h;exact h'
noncomputable def nt:Option HO->Option HO|some (.tup _)=>none|o=>o
theorem lO{o:Option HO}(h:o=none):nt o=none:=by rw[h];rfl
theorem JH{H:Hp}{b:Addr}{xs:List V}(h:H b=some (.lst xs))(z:nt (H b)=none):False:=by rw[h]at z;cases z
theorem Im{o:HO}{x:Oc}(h:mG K F o x)(z:nt (some o)=none):False:=by cases x with|l a=>obtain⟨xs,rfl,_⟩:=h;cases z|d m=>cases m<;>(cases(show o=_ from h);cases z)|v kvs=>obtain⟨xs,rfl,_⟩:=h;cases z
structure aC(K:PySem.W.Frag)(F:Hp)(ρ:List Sl)(σ:St)(H:Hp)(F':Hp)(ρ':List Sl)(σ':St)(H':Hp):Prop where
 gs:GS K F' ρ' σ' H'
 cF:aJ F F'
 xK:∀b,F b=none->F' b≠none->Own ρ σ b\/nt (H b)=none
 keep:∀b o,H b=some o->¬ Own ρ σ b->H' b=some o
 xM:∀b,Own ρ' σ' b->Own ρ σ b\/H b=none
 len:ρ'.length=ρ.length
 lk:∀(i:Nat)(s:Sl),ρ[i]?=some s->uF s=true->σ'[i]?=σ[i]?/\∃s',ρ'[i]?=some s'/\oM s s'
theorem aC.refl{ρ:List Sl}{σ:St}(g:GS K F ρ σ H):aC K F ρ σ H F ρ σ H:=⟨g,aJ.refl _,λb h h'=>absurd h h',λ_ _ h _=>h,λ_ h=>.inl h,rfl,λi s h _=>⟨rfl,s,h,.refl s⟩⟩
theorem aC.trans{F1 p m r:Hp}{ρ f j:List Sl}{σ g k:St}(a:aC K F ρ σ H F1 f g m)(b:aC K F1 f g m p j k r):aC K F ρ σ H p j k r:=by
 have back:∀c,Own f g c\/m c=none->Own ρ σ c\/H c=none:=λc h=>by
  rcases h with h|h;.exact a.xM c h
  . by_cases ho:Own ρ σ c;.exact .inl ho
    .right;cases e:H c with|none=>rfl|some o=>rw[a.keep c o e ho]at h;cases h
 refine⟨b.gs,a.cF.trans b.cF,λc h h'=>?_,λc o h n=>?_,λc h=>back c (b.xM c h),b.len.trans a.len,λi s h l=>?_⟩
 . by_cases e:F1 c=none
   . by_cases ho:Own ρ σ c;.exact .inl ho
     . rcases b.xK c e h' with z|z;.exact(back c (.inl z)).imp id lO
       .right;cases q:H c with|none=>rfl|some o=>rw[a.keep c o q ho]at z;exact z
   .exact a.xK c h e
 . refine b.keep c o (a.keep c o h n) λh'=>?_;rcases a.xM c h' with h'|h';.exact n h'
   .rw[h]at h';cases h'
 .obtain⟨t,s1,h1,k1⟩:=a.lk i s h l;obtain⟨u,s2,w,k2⟩:=b.lk i s1 h1 (k1.uF l);exact⟨u.trans t,s2,w,.trans l k1 k2⟩
noncomputable def dI(K:PySem.W.Frag)(F H:Hp)(v:V)(d:D):Prop:=Rep K F v d\/∃a xs b,v=.ref a/\H a=some (.lst xs)/\aH K F xs b/\d=.lst b
noncomputable def cV(K:PySem.W.Frag)(F':Hp)(b:List Sl)(σ':St)(H':Hp)(ρ:List Sl)(σ:St)(H:Hp)(v:V):R->Prop|.val d=>Rep K F' v d|.own c=>∃a xs,v=.ref a/\H' a=some (.lst xs)/\F' a=none/\aH K F' xs c/\¬ Own b σ' a/\(Own ρ σ a\/H a=none)
theorem aJ.cu{F:Hp}{a:Addr}{o:HO}(h:F a=none):aJ F (upd F a o):=λb u e=>by
 have:b≠a:=by rintro rfl;rw[h]at e;cases e
 rw[aB this];exact e
theorem aC.dz{c:List Sl}{σ':St}{r:R}(s:aC K F ρ σ H F' c σ' H')(h:cV K F' c σ' H' ρ σ H v r):∃f,aC K F ρ σ H f c σ' H'/\aJ F' f/\Rep K f v r.d:=by cases r with|val d=>exact⟨F',s,.refl _,h⟩|own q=>
   obtain⟨a,xs,rfl,h1,t,u,w,x⟩:=h;have sm:aJ F' (upd F' a (.lst xs)):=aJ.cu t;refine⟨upd F' a (.lst xs),⟨⟨λb o e=>?_,s.gs.len,λi b d e=>?_,λi sl j e m=>?_,s.gs.dis⟩,s.cF.trans sm,λb n p=>?_,s.keep,s.xM,s.len,s.lk⟩,sm,?_⟩
   . by_cases g:b=a;.subst g;rw[aL]at e;cases e;exact h1
     .rw[aB g]at e;exact s.gs.sub b o e
   .obtain⟨v,k,l⟩:=s.gs.val i b d e;exact⟨v,k,l.mono sm⟩
   . obtain⟨b,ys,k,l,y,z⟩:=s.gs.own i sl j e m;have g:b≠a:=by rintro rfl;exact w ⟨i,⟨sl,j,e,m⟩,k⟩
     exact⟨b,ys,k,l,by rw[aB g];exact y,z.mono sm⟩
   . by_cases g:b=a;.subst g;exact x.imp id lO
     .rw[aB g]at p;exact s.xK b n p
   .show Rep K _ _ (.lst q);rw[Rep];exact⟨a,xs,rfl,fM.of aL,u.mono sm⟩
theorem dI.mono{v:V}(e:aJ F F')(k:∀a xs,v=.ref a->H a=some (.lst xs)->H' a=some (.lst xs)){d:D}(h:dI K F H v d):dI K F' H' v d:=by
 rcases h with h|⟨a,xs,b,h1,c,f,g⟩;.exact .inl (h.mono e)
 .exact .inr ⟨a,xs,b,h1,k a xs h1 c,f.mono e,g⟩
theorem GS.pk{ρ:List Sl}{σ:St}{i:Nat}{d:D}(g:GS K F ρ σ H)(e:_H.pk ρ i=some d):∃v:V,σ[i]?=some (some v)/\dI K F H v d:=by
 unfold _H.pk at e;split at e;.rename_i b d' h;cases e;obtain⟨v,h1,c⟩:=g.val i b d h;exact⟨v,h1,.inl c⟩
 .rename_i b f h;cases e;obtain⟨a,xs,h1,c,k,j⟩:=g.uw i _ f h rfl;exact⟨.ref a,h1,.inr ⟨a,xs,f,rfl,c,j,rfl⟩⟩
 .rename_i f h;cases e;obtain⟨a,xs,h1,c,k,j⟩:=g.uw i _ f h rfl;exact⟨.ref a,h1,.inr ⟨a,xs,f,rfl,c,j,rfl⟩⟩
 .cases e
structure Ext(F H F' H':Hp):Prop where
 hs:aJ H H'
 fs:aJ F F'
 sub:aJ F' H'
 gr:∀b,F b=none->F' b≠none->nt (H b)=none
theorem Ext.refl(h:aJ F H):Ext F H F H:=⟨.refl _,.refl _,h,λ_ a b=>absurd a b⟩
theorem Ext.stp(g:GS K F ρ σ H)(e:Ext F H F' H'):aC K F ρ σ H F' ρ σ H':=by
 refine⟨⟨e.sub,g.len,λi b d h=>?_,λi s j h h'=>?_,g.dis⟩,e.fs,λb n k=>.inr (e.gr b n k),λb o h _=>e.hs b o h,λ_ h=>.inl h,rfl,λi s h _=>⟨rfl,s,h,.refl s⟩⟩;.obtain⟨v,h1,c⟩:=g.val i b d h;exact⟨v,h1,c.mono e.fs⟩
 .obtain⟨a,xs,h1,c,l,f⟩:=g.own i s j h h';refine⟨a,xs,h1,e.hs _ _ c,?_,f.mono e.fs⟩;cases q:F' a with|none=>rfl|some o=>have:=e.gr a l (by rw[q];simp);rw[c]at this;exact(Im f this).elim
noncomputable def cG(K:PySem.W.Frag)(F' H' H:Hp)(v:V):R->Prop|.val d=>Rep K F' v d|.own b=>∃a xs,v=.ref a/\H' a=some (.lst xs)/\F' a=none/\aH K F' xs b/\H a=none
theorem cG.o9{r:R}(g:GS K F ρ σ H)(h:cG K F' H' H v r):cV K F' ρ σ H' ρ σ H v r:=by cases r with|val d=>exact h|own p=>obtain⟨a,xs,rfl,h1,l,m,f⟩:=h;refine⟨a,xs,rfl,h1,l,m,?_,.inr f⟩;rintro⟨i,⟨s,c,e,n⟩,o⟩;obtain⟨b,ys,j,k,_⟩:=g.own i s c e n;rw[o]at j;cases j;rw[f]at k;cases k
theorem cV.later{F1 j k l:Hp}{c f:List Sl}{g i:St}{r:R}(a:aC K F ρ σ H F1 c g j)(h:cV K k f i l c g j v r):cV K k f i l ρ σ H v r:=by cases r with|val d=>exact h|own q=>
   obtain⟨b,xs,rfl,h1,m,n,p,h5⟩:=h;refine⟨b,xs,rfl,h1,m,n,p,?_⟩;rcases h5 with h5|h5;.exact a.xM b h5
   . by_cases ho:Own ρ σ b;.exact .inl ho
     .right;cases e:H b with|none=>rfl|some o=>rw[a.keep b o e ho]at h5;cases h5
end
end _H
end
namespace _H
open PySem _L Spec PyProof.Rows
variable{ρ' ρ ρ₀:List Sl}{es:List Expr}{K:PySem.W.Frag}{F H H₀:Hp}{σ:_L.St}{i n:Nat}{ds:List D}{x:Str}{v:V}{vs:List V}{op:CmpOp}{p':Pos}{as:List Arg}
theorem aj{c e:Type}{x:Res c}{f:c->List Sl->Res e}{b:e}(h:x.bind f=.ok b ρ'):∃a ρ,x=.ok a ρ/\f a ρ=.ok b ρ':=by cases x with|ok a ρ=>exact⟨a,ρ,rfl,h⟩|exc _ _=>cases h|stuck=>cases h
theorem aD{c:Type}{o:Option c}{a:c}(h:lift o ρ=.ok a ρ'):o=some a/\ρ=ρ':=by cases o with|none=>cases h|some b=>cases h;exact⟨rfl,rfl⟩
theorem map_some{c e:Type}{o:Option c}{f:c->e}{b:e}(h:o.map f=some b):∃a,o=some a/\f a=b:=by cases o with|none=>cases h|some a=>cases h;exact⟨a,rfl,rfl⟩
theorem cU{c e:Type}{o:Option c}{f:c->Option e}{b:e}(h:o.bind f=some b):∃a,o=some a/\f a=some b:=by cases o with|none=>cases h|some a=>exact⟨a,rfl,h⟩
theorem bN{e:Type}{c:Prop}[Decidable c]{a b:e}(h:(if c then some a else none)=some b):c/\a=b:=by
 split at h;.rename_i hc;cases h;exact⟨hc,rfl⟩
 .cases h
section
variable{X:Cx}{c:Call}{e a b:Expr}{p pa pb:P}{pos:Pos}
theorem cP{t t':TE}(h:PE X e t)(i:∀σ H Q,t' σ H Q->t σ H Q):PE X e t':=λf s σ H Q I q=>h f s σ H Q I (i σ H Q q)
theorem uR{t t':TT}(h:PT X e t)(i:∀σ H Q,t' σ H Q->t σ H Q):PT X e t':=λf s σ H Q I q=>h f s σ H Q I (i σ H Q q)
theorem RD{t t':TT}(h:PW X e t)(i:∀σ H Q,t' σ H Q->t σ H Q):PW X e t':=λwh f s σ H Q I q=>h wh f s σ H Q I (i σ H Q q)
theorem nM{t t':TA}(h:PA X es t)(i:∀σ H Q,t' σ H Q->t σ H Q):PA X es t':=λpos f s σ H Q I q=>h pos f s σ H Q I (i σ H Q q)
inductive zf(K:PySem.W.Frag)(f:Ev)(σ:_L.St)(H:Hp)(Q:VK):Prop where|mk(F:Hp)(ρ:List Sl)(r:R)(ρ':List Sl)(g:GS K F ρ σ H)(e:f ρ=.ok r ρ')(k:∀v F' H',aC K F ρ σ H F' ρ' σ H'->cV K F' ρ' σ H' ρ σ H v r->Q v H')
inductive Hf(K:PySem.W.Frag)(f:List Sl->Res Bool)(σ:_L.St)(H:Hp)(Q:Bool->Hp->Prop):Prop where|mk(F:Hp)(ρ:List Sl)(b:Bool)(ρ':List Sl)(g:GS K F ρ σ H)(e:f ρ=.ok b ρ')(k:∀F' H',aC K F ρ σ H F' ρ' σ H'->Q b H')
inductive adx(K:PySem.W.Frag)(f:List Sl->Res (List D))(σ:_L.St)(H:Hp)(Q:List V->Hp->Prop):Prop where|mk(F:Hp)(ρ:List Sl)(ds:List D)(ρ':List Sl)(g:GS K F ρ σ H)(e:f ρ=.ok ds ρ')(k:∀vs F' H',aC K F ρ σ H F' ρ' σ H'->aH K F' vs ds->Q vs H')
structure SX(X:Cx)(c:Call)(e:Expr)(p:P):Prop where ev:PE X e (zf X.K (_H.ev c p))var:∀i,isVar p=some i->PE X e (Vs i)
noncomputable def SA(X:Cx)(c:Call)(es:List Expr)(ps:List P):Prop:=PA X es (adx X.K (evs c ps))/\ps.length=es.length
theorem SX.cL(h:SX X c e p):∃t,PE X e t/\∀{σ:_L.St}{H F:Hp}{ρ ρ':List Sl}{d:D}{Q:VK},GS X.K F ρ σ H->cL (isVar p) (_H.ev c p) ρ=.ok d ρ'->(∀v F' H',aC X.K F ρ σ H F' ρ' σ H'->dI X.K F' H' v d->Q v H')->t σ H Q:=by cases hv:isVar p with|none=>refine⟨_,h.ev,λ{σ H F ρ ρ' d Q}g e k=>?_⟩;obtain⟨r,m,f,j⟩:=aj e;cases j;refine⟨F,ρ,r,_,g,f,λv F' H' s o=>?_⟩;obtain⟨l,q,_,u⟩:=s.dz o;exact k v l H' q (.inl u)|some i=>refine⟨_,h.var i hv,λ{σ H F ρ ρ' d Q}g e k=>?_⟩;obtain⟨f,j⟩:=aD e;subst j;obtain⟨v,h1,w⟩:=g.pk f;exact⟨v,h1,k v F H (.refl g) w⟩
theorem SX.jm(G:SX X c a pa)(L:SX X c b pb):∃I h,PE X a I/\PE X b h/\∀{σ:_L.St}{H F:Hp}{ρ ρ':List Sl}{j:D×D}{R:V->V->Hp->Prop},GS X.K F ρ σ H->jm (isVar pa) (_H.ev c pa) (isVar pb) (_H.ev c pb) ρ=.ok j ρ'->(∀v u F' H',aC X.K F ρ σ H F' ρ' σ H'->dI X.K F' H' v j.1->dI X.K F' H' u j.2->R v u H')->I σ H λx t=>h σ t λy w=>R x y w:=by obtain⟨h,l,m⟩:=L.cL;cases hv:isVar pa with|none=>refine⟨_,h,G.ev,l,λ{σ H F ρ ρ' j R}g e k=>?_⟩;obtain⟨x,z,o,e⟩:=aj e;obtain⟨y,A,f,e⟩:=aj e;cases e;obtain⟨r,J,o,B⟩:=aj o;cases B;refine⟨F,ρ,r,_,g,o,λv F' H' s M=>?_⟩;obtain⟨F1,s1,_,N⟩:=s.dz M;refine m s1.gs f λu O w s2 C=>?_;exact k v u O w (s1.trans s2) (.inl (N.mono s2.cF)) C|some i=>refine⟨_,h,G.var i hv,l,λ{σ H F ρ ρ' j R}g e k=>?_⟩;obtain⟨x0,Q,B,e⟩:=aj e;obtain⟨E,U⟩:=aD B;subst U;obtain⟨y,z,o,e⟩:=aj e;obtain⟨x,A,f,e⟩:=aj e;cases e;have W:=aD f;clear f;obtain⟨f,Y⟩:=W;subst Y;obtain⟨v,h1,_⟩:=g.pk E;refine⟨v,h1,m g o λu F1 t s1 C=>?_⟩;obtain⟨v',q,Z⟩:=s1.gs.pk f;rw[h1]at q;cases q;exact k v u F1 t s1 Z C
inductive rD(K:PySem.W.Frag)(f:D->D->Option R)(x y:V)(H:Hp)(Q:VK):Prop where|mk(F:Hp)(d e:D)(r:R)(sm:aJ F H)(px:dI K F H x d)(py:dI K F H y e)(he:f d e=some r)(k:∀v F' H',Ext F H F' H'->cG K F' H' H v r->Q v H')
inductive rD1(K:PySem.W.Frag)(f:D->Option R)(x:V)(H:Hp)(Q:VK):Prop where|mk(F:Hp)(d:D)(r:R)(sm:aJ F H)(px:dI K F H x d)(he:f d=some r)(k:∀v F' H',Ext F H F' H'->cG K F' H' H v r->Q v H')
theorem wX{E:Expr}{f:D->D->Option R}{q:P}(t:∀{m o},PE X a m->PE X b o->PE X E (Vw (rD X.K f) m o))(y:SX X c a pa)(z:SX X c b pb)(A:∀ρ,_H.ev c q ρ=(_H.jm (isVar pa) (_H.ev c pa) (isVar pb) (_H.ev c pb) ρ).bind λj ρ=>lift (f j.1 j.2) ρ)(B:isVar q=none):SX X c E q:=by obtain⟨m,o,h1,C,G⟩:=y.jm z;refine⟨cP (t h1 C) ?_,λi h=>by rw[B]at h;cases h⟩;rintro σ H Q⟨F,ρ,r,ρ',g,e,k⟩;rw[A]at e;obtain⟨j,I,J,l⟩:=aj e;have L:=aD l;clear l;obtain⟨l,M⟩:=L;subst M;refine G g J λv u F' H' s N O=>⟨F',j.1,j.2,r,s.gs.sub,N,O,l,λw U W x Y=>?_⟩;exact k w U W (s.trans (x.stp s.gs)) (.later s (Y.o9 s.gs))
theorem S9{E:Expr}{f:D->Option R}{q:P}(m:∀{l},PE X a l->PE X E (tUn (rD1 X.K f) l))(o:SX X c a pa)(t:∀ρ,_H.ev c q ρ=(_H.cL (isVar pa) (_H.ev c pa) ρ).bind λx ρ=>lift (f x) ρ)(u:isVar q=none):SX X c E q:=by obtain⟨l,h1,y⟩:=o.cL;refine⟨cP (m h1) ?_,λi h=>by rw[u]at h;cases h⟩;rintro σ H Q⟨F,ρ,r,ρ',g,e,k⟩;rw[t]at e;obtain⟨x,z,A,j⟩:=aj e;have B:=aD j;clear j;obtain⟨j,C⟩:=B;subst C;refine y g A λv F' H' s G=>⟨F',x,r,s.gs.sub,G,j,λw I J x L=>?_⟩;exact k w I J (s.trans (x.stp s.gs)) (.later s (L.o9 s.gs))
theorem GS.freeze{b:Bool}(g:GS K F ρ σ H)(e:ρ[i]?=some (.own b ds)):∃v F',σ[i]?=some (some v)/\aC K F ρ σ H F' (ρ.set i (.val b (.lst ds))) σ H/\Rep K F' v (.lst ds):=by
 obtain⟨a,xs,h1,B,C,E⟩:=g.uw i _ ds e rfl;have hi:i<ρ.length:=(eV e).1;have sm:aJ F (upd F a (.lst xs)):=aJ.cu C;have z:Rep K (upd F a (.lst xs)) (.ref a) (.lst ds):=by rw[Rep];exact⟨a,xs,rfl,fM.of aL,E.mono sm⟩
 have G:Own ρ σ a:=⟨i,⟨_,_,e,rfl⟩,h1⟩;have r:∀j x,aV (ρ.set i (.val b (.lst ds))) σ j x->aV ρ σ j x/\j≠i:=λj x⟨⟨s,h,m,u⟩,y⟩=>by
  by_cases f:j=i;.subst f;rw[getElem?_set_self hi]at m;cases m;cases u
  .rw[fL f]at m;exact⟨⟨⟨s,h,m,u⟩,y⟩,f⟩
 refine⟨.ref a,upd F a (.lst xs),h1,⟨⟨λx o q=>?_,by simpa using g.len,λj b' d q=>?_,λj s h q w=>?_,λj k x q w=>g.dis j k x (r j x q).1 (r k x w).1⟩,sm,λx n A=>?_,λ_ _ q _=>q,λx⟨j,q⟩=>.inl ⟨j,(r j x q).1⟩,by simp,λj s q l=>⟨rfl,?_⟩⟩,z⟩
 . by_cases t:x=a;.subst t;rw[aL]at q;cases q;exact B
   .rw[aB t]at q;exact g.sub x o q
 . by_cases f:j=i;.subst f;rw[getElem?_set_self hi]at q;cases q;exact⟨_,h1,z⟩
   .rw[fL f]at q;obtain⟨v,m,u⟩:=g.val j b' d q;exact⟨v,m,u.mono sm⟩
 . by_cases f:j=i;.subst f;rw[getElem?_set_self hi]at q;cases q;cases w
   . rw[fL f]at q;obtain⟨x,ys,m,u,y,I⟩:=g.own j s h q w;have t:x≠a:=by rintro rfl;exact f (g.dis j i x ⟨⟨s,h,q,w⟩,m⟩ ⟨⟨_,_,e,rfl⟩,h1⟩)
     exact⟨x,ys,m,u,by rw[aB t];exact y,I.mono sm⟩
 . by_cases t:x=a;.subst t;exact .inl G
   .rw[aB t]at A;exact absurd n A
 . by_cases f:j=i;.subst f;rw[e]at q;cases q;refine⟨_,getElem?_set_self hi,?_⟩;cases b with|true=>exact .inr ⟨_,rfl⟩|false=>cases l
   .exact⟨s,by rw[fL f];exact q,.refl s⟩
theorem GS.Du{m:Dc}(g:GS K F ρ σ H)(e:ρ[i]?=some (.iC m)):∃a,σ[i]?=some (some (.ref a))/\H a=some m.ho/\∀u,aC K F ρ σ H (upd F a (.dz u m.ho)) (ρ.set i (.val false (.eN m))) σ (upd H a (.dz u m.ho))/\Rep K (upd F a (.dz u m.ho)) (.ref a) (.eN m):=by
 obtain⟨a,G,h1,I,J,L⟩:=g.own i _ _ e rfl;cases(show G=m.ho from L);have hi:i<ρ.length:=(eV e).1;refine⟨a,h1,I,λu=>?_⟩;have sm:aJ F (upd F a (.dz u m.ho)):=aJ.cu J;have B:Rep K (upd F a (.dz u m.ho)) (.ref a) (.eN m):=by rw[Rep];exact⟨a,u,rfl,aL⟩
 have C:Own ρ σ a:=⟨i,⟨_,_,e,rfl⟩,h1⟩;have w:∀j x,aV (ρ.set i (.val false (.eN m))) σ j x->aV ρ σ j x/\j≠i:=λj x⟨⟨s,r,t,y⟩,A⟩=>by
  by_cases f:j=i;.subst f;rw[getElem?_set_self hi]at t;cases t;cases y
  .rw[fL f]at t;exact⟨⟨⟨s,r,t,y⟩,A⟩,f⟩
 refine⟨⟨⟨λx o q=>?_,by simpa using g.len,λj b' d q=>?_,λj s r q z=>?_,λj k x q z=>g.dis j k x (w j x q).1 (w k x z).1⟩,sm,λx n E=>?_,λx o q n=>?_,λx⟨j,q⟩=>.inl ⟨j,(w j x q).1⟩,by simp,λj s q l=>⟨rfl,?_⟩⟩,B⟩
 . by_cases h:x=a;.subst h;rw[aL]at q ⊢;exact q
   .rw[aB h]at q ⊢;exact g.sub x o q
 . by_cases f:j=i;.subst f;rw[getElem?_set_self hi]at q;cases q;exact⟨_,h1,B⟩
   .rw[fL f]at q;obtain⟨v,t,y⟩:=g.val j b' d q;exact⟨v,t,y.mono sm⟩
 . by_cases f:j=i;.subst f;rw[getElem?_set_self hi]at q;cases q;cases z
   . rw[fL f]at q;obtain⟨x,ys,t,y,A,M⟩:=g.own j s r q z;have h:x≠a:=by rintro rfl;exact f (g.dis j i x ⟨⟨s,r,q,z⟩,t⟩ ⟨⟨_,_,e,rfl⟩,h1⟩)
     exact⟨x,ys,t,by rw[aB h];exact y,by rw[aB h];exact A,M.mono sm⟩
 . by_cases h:x=a;.subst h;exact .inl C
   .rw[aB h]at E;exact absurd n E
 . have h:x≠a:=by rintro rfl;exact n C
   rw[aB h];exact q
 . by_cases f:j=i;.subst f;rw[e]at q;cases q;cases l
   .exact⟨s,by rw[fL f];exact q,.refl s⟩
theorem GS.Di{kvs:List (Int×D)}(g:GS K F ρ σ H)(e:ρ[i]?=some (.dC kvs)):∃a vs,σ[i]?=some (some (.ref a))/\H a=some (BX (kvs.map (·.1)) vs)/\∀t,aC K F ρ σ H (upd F a (.dz t (BX (kvs.map (·.1)) vs))) (ρ.set i (.val false (.dv (kvs.map (·.1)) (kvs.map (·.2))))) σ (upd H a (.dz t (BX (kvs.map (·.1)) vs)))/\Rep K (upd F a (.dz t (BX (kvs.map (·.1)) vs))) (.ref a) (.dv (kvs.map (·.1)) (kvs.map (·.2))):=by
 obtain⟨a,M,h1,E,G,I⟩:=g.own i _ _ e rfl;obtain⟨vs,rfl,J⟩:=I;have hi:i<ρ.length:=(eV e).1;refine⟨a,vs,h1,E,λt=>?_⟩;have sm:aJ F (upd F a (.dz t (BX (kvs.map (·.1)) vs))):=aJ.cu G;have A:Rep K (upd F a (.dz t (BX (kvs.map (·.1)) vs))) (.ref a) (.dv (kvs.map (·.1)) (kvs.map (·.2))):=by rw[Rep];exact⟨a,t,vs,rfl,aL,J.mono sm,by simp⟩
 have B:Own ρ σ a:=⟨i,⟨_,_,e,rfl⟩,h1⟩;have u:∀j x,aV (ρ.set i (.val false (.dv (kvs.map (·.1)) (kvs.map (·.2))))) σ j x->aV ρ σ j x/\j≠i:=λj x⟨⟨s,m,r,w⟩,z⟩=>by
  by_cases f:j=i;.subst f;rw[getElem?_set_self hi]at r;cases r;cases w
  .rw[fL f]at r;exact⟨⟨⟨s,m,r,w⟩,z⟩,f⟩
 refine⟨⟨⟨λx o q=>?_,by simpa using g.len,λj b' d q=>?_,λj s m q y=>?_,λj k x q y=>g.dis j k x (u j x q).1 (u k x y).1⟩,sm,λx n C=>?_,λx o q n=>?_,λx⟨j,q⟩=>.inl ⟨j,(u j x q).1⟩,by simp,λj s q l=>⟨rfl,?_⟩⟩,A⟩
 . by_cases h:x=a;.subst h;rw[aL]at q ⊢;exact q
   .rw[aB h]at q ⊢;exact g.sub x o q
 . by_cases f:j=i;.subst f;rw[getElem?_set_self hi]at q;cases q;exact⟨_,h1,A⟩
   .rw[fL f]at q;obtain⟨v,r,w⟩:=g.val j b' d q;exact⟨v,r,w.mono sm⟩
 . by_cases f:j=i;.subst f;rw[getElem?_set_self hi]at q;cases q;cases y
   . rw[fL f]at q;obtain⟨x,ys,r,w,z,L⟩:=g.own j s m q y;have h:x≠a:=by rintro rfl;exact f (g.dis j i x ⟨⟨s,m,q,y⟩,r⟩ ⟨⟨_,_,e,rfl⟩,h1⟩)
     exact⟨x,ys,r,by rw[aB h];exact w,by rw[aB h];exact z,L.mono sm⟩
 . by_cases h:x=a;.subst h;exact .inl B
   .rw[aB h]at C;exact absurd n C
 . have h:x≠a:=by rintro rfl;exact n B
   rw[aB h];exact q
 . by_cases f:j=i;.subst f;rw[e]at q;cases q;cases l
   .exact⟨s,by rw[fL f];exact q,.refl s⟩
theorem Inv.Jt{X:Cx}{f:List (Addr×Obj)}{s:Shared}{a:Addr}{kvs:List (Key×V)}(I:_L.Inv X f σ H s)(h:H a=some (.dK kvs)):∃o,_L.Inv X f σ (upd H a (.dz o (.dK kvs))) s:=by obtain⟨hz,g,vs,r,dd⟩:=(show bA X.prog X.w H s.heap a (.dK kvs)from I.hok a _ h);obtain⟨o,ho,_⟩:=dd.typeIs;exact⟨o,I.write (h':=s.heap) (t':=s.toks) (by rw[h];exact trivial) (.inl rfl) (λb u _ e=>e) ⟨o,ho⟩ ⟨ho,hz,g,vs,r,dd⟩⟩
theorem Sw(y:X.N[i]?=some x)(z:vC X.env.scope x)(hd:(x==("__debug__":Str))=false:=by decide)(t:(x==("__classdict__":Str))=false:=by decide):SX X c (.Name x pos) (.var i):=by
 have h:=dO (X:=X) (pos:=pos) y z hd t;refine⟨?_,λj A=>by cases A;exact h⟩;rintro f s σ H Q I⟨F,ρ,r,ρ',g,e,k⟩;rw[_H.E1]at e;split at e;.rename_i b d q;cases e;obtain⟨v,h1,l⟩:=g.val i b d q;exact h f s σ H Q I ⟨v,h1,k v F H (.refl g) l⟩
 .rename_i b ds q;cases e;obtain⟨v,F',h1,l,m⟩:=g.freeze q;exact h f s σ H Q I ⟨v,h1,k v F' H l m⟩
 .rename_i kvs q;cases e;obtain⟨a,h1,l,m⟩:=g.Du q;refine bU (h f s σ H (λv H'=>v=.ref a/\H'=H) I ⟨.ref a,h1,rfl,rfl⟩) λu s1⟨v,H1,I1,r1,e1,e2⟩=>?_;subst e1 e2;obtain⟨o,w⟩:=Inv.Jt I1 l;exact⟨.ref a,_,w,r1,k _ _ _ (m o).1 (m o).2⟩
 .rename_i kvs q;cases e;obtain⟨a,vs,h1,l,m⟩:=g.Di q;refine bU (h f s σ H (λv H'=>v=.ref a/\H'=H) I ⟨.ref a,h1,rfl,rfl⟩) λu s1⟨v,H1,I1,r1,e1,e2⟩=>?_;subst e1 e2;obtain⟨o,w⟩:=Inv.Jt I1 l;exact⟨.ref a,_,w,r1,k _ _ _ (m o).1 (m o).2⟩
 .cases e
theorem zJ{d:D}(h:PE X e (tC v))(hr:∀F,Rep X.K F v d):SX X c e (.con d):=⟨cP h λσ H Q⟨F,ρ,r,ρ',g,e,k⟩=>by rw[_H.E2]at e;cases e;exact k v F H (.refl g) (hr F),λi h=>by cases h⟩
theorem aa{i j}:SX X c (.Constant (.int i) j pos) (.con (.int i)):=zJ wN λF=>by rw[Rep]
theorem qg{i j}:SX X c (.Constant (.bool i) j pos) (.con (.bl i)):=zJ YW λF=>by rw[Rep]
theorem HR{j}:SX X c (.Constant .none j pos) (.con .non):=zJ TY λF=>by rw[Rep]
theorem kj{i:Int}{t:Tok}(f:Gl X x)(j:X.mg x=some (.int i t))(hd:(x==("__debug__":Str))=false:=by decide):SX X c (.Name x pos) (.glob x (.int i)):=⟨cP (gH (v:=.int i) f j ⟨t,rfl⟩ hd) λσ H Q⟨F,ρ,r,ρ',g,e,k⟩=>by rw[_H.E3]at e;cases e;exact k (.int i) F H (.refl g) (show Rep X.K F (.int i) (.int i)by rw[Rep]),λi h=>by cases h⟩
theorem dI.int{K:PySem.W.Frag}{F H:Hp}{v:V}{i:Int}(h:dI K F H v (.int i)):v=.int i:=by
 rcases h with h|⟨_,_,_,_,_,_,h⟩;.rw[Rep]at h;exact h
 .cases h
theorem dI.bl{K:PySem.W.Frag}{F H:Hp}{v:V}{i:Bool}(h:dI K F H v (.bl i)):v=.bl i:=by
 rcases h with h|⟨_,_,_,_,_,_,h⟩;.rw[Rep]at h;exact h
 .cases h
theorem dI.str{K:PySem.W.Frag}{F H:Hp}{v:V}{i:Str}(h:dI K F H v (.str i)):v=.str i:=by
 rcases h with h|⟨_,_,_,_,_,_,h⟩;.rw[Rep]at h;exact h
 .cases h
theorem dI.non{K:PySem.W.Frag}{F H:Hp}{v:V}(h:dI K F H v .non):v=.non:=by
 rcases h with h|⟨_,_,_,_,_,_,h⟩;.rw[Rep]at h;exact h
 .cases h
theorem dI.tup{K:PySem.W.Frag}{F H:Hp}{v:V}{ds:List D}(s:aJ F H)(h:dI K F H v (.tup ds)):∃a xs,v=.ref a/\jw K H a xs/\aH K F xs ds/\Rep K F v (.tup ds):=by
 rcases h with h|⟨_,_,_,_,_,_,h⟩;.have h':=h;rw[Rep]at h;obtain⟨a,xs,rfl,h1,f⟩:=h;exact⟨a,xs,rfl,aJ.iG s h1,f,h'⟩
 .cases h
theorem dI.lst{K:PySem.W.Frag}{F H:Hp}{v:V}{ds:List D}(s:aJ F H)(h:dI K F H v (.lst ds)):∃a xs,v=.ref a/\fM K H a xs/\aH K F xs ds:=by
 rcases h with h|⟨a,xs,es,h1,f,g,h⟩;.rw[Rep]at h;obtain⟨a,xs,rfl,h1,f⟩:=h;exact⟨a,xs,rfl,s.seq h1,f⟩
 .cases h;exact⟨a,xs,h1,fM.of f,g⟩
theorem dI.eN{m:Dc}(s:aJ F H)(h:dI K F H v (.eN m)):∃a o,v=.ref a/\H a=some (.dz o m.ho):=by
 rcases h with h|⟨_,_,_,_,_,_,h⟩;.rw[Rep]at h;obtain⟨a,o,rfl,h⟩:=h;exact⟨a,o,rfl,s _ _ h⟩
 .cases h
theorem HQ{X:Cx}{f:List (Addr×Obj)}{s:Shared}{a:Addr}{g:Obj}{m:Dc}(I:_L.Inv X f σ H s)(h:H a=some (.dz g m.ho)):∃o,s.heap.get? a=some o/\o.cls=.type "dict":=by have z:=(show bA X.prog X.w H s.heap a (.dz g m.ho)from I.hok a _ h).2;cases m with|k kvs=>obtain⟨_,_,vs,_,d2⟩:=(show bA X.prog X.w H s.heap a (.dK _)from z);exact d2.typeIs|t kvs=>obtain⟨_,_,xs,_,o,es,ep,h1,j,_⟩:=(show bA X.prog X.w H s.heap a (.dT _)from z);exact⟨o,h1,j.1⟩
theorem dI.dv{ks:List Int}(s:aJ F H)(h:dI K F H v (.dv ks ds)):∃a o vs,v=.ref a/\H a=some (.dz o (BX ks vs))/\aH K F vs ds/\ks.length=ds.length:=by
 rcases h with h|⟨_,_,_,_,_,_,h⟩;.rw[Rep]at h;obtain⟨a,o,vs,rfl,h,h1,f⟩:=h;exact⟨a,o,vs,rfl,s _ _ h,h1,f⟩
 .cases h
theorem KQ{X:Cx}{f:List (Addr×Obj)}{s:Shared}{a:Addr}{g:Obj}{ks:List Int}(I:_L.Inv X f σ H s)(h:H a=some (.dz g (BX ks vs))):∃o,s.heap.get? a=some o/\o.cls=.type "dict":=by have z:=(show bA X.prog X.w H s.heap a (.dz g (BX ks vs))from I.hok a _ h).2;obtain⟨_,_,vs,_,d2⟩:=(show bA X.prog X.w H s.heap a (.dK _)from z);exact d2.typeIs
theorem dI.items{d:D}(s:aJ F H)(h:dI K F H v d)(e:items d=some ds):∃a xs,v=.ref a/\(fM K H a xs\/jw K H a xs)/\aH K F xs ds:=by cases d with|tup es=>cases e;obtain⟨a,xs,h1,f,g,_⟩:=h.tup s;exact⟨a,xs,h1,.inr f,g⟩|lst es=>cases e;obtain⟨a,xs,h1,f,g⟩:=h.lst s;exact⟨a,xs,h1,.inl f,g⟩|_=>cases e
theorem cG.dB{Q:VK}{d:D}(s:aJ F H)(r:Rep K F v d)(k:∀v F' H',Ext F H F' H'->cG K F' H' H v (.val d)->Q v H'):Q v H:=k v F H (.refl s) r
theorem bY(i:Int):Rep K F (.int i) (.int i):=by rw[Rep]
theorem fO(i:Bool):Rep K F (.bl i) (.bl i):=by rw[Rep]
theorem Uc(i:Str):Rep K F (.str i) (.str i):=by rw[Rep]
theorem Vh:Rep K F .non .non:=by rw[Rep]
theorem zN{Q:VK}{xs:List V}{p:Addr}(s:aJ F H)(r:aH K F xs ds)(f:H p=none)(k:∀v F' H',Ext F H F' H'->cG K F' H' H v (.own ds)->Q v H'):Q (.ref p) (upd H p (.lst xs)):=by
 have g:F p=none:=by cases q:F p with|none=>rfl|some o=>rw[s p o q]at f;cases f
 exact k _ F _ ⟨aJ.cu f,.refl _,s.trans (aJ.cu f),λ_ a b=>absurd a b⟩ ⟨p,xs,rfl,aL,g,r,f⟩
theorem zL{Q:VK}{xs:List V}{p:Addr}(s:aJ F H)(r:aH K F xs ds)(g:H p=none)(k:∀v F' H',Ext F H F' H'->cG K F' H' H v (.val (.tup ds))->Q v H'):Q (.ref p) (upd H p (.tup xs)):=by
 have j:F p=none:=by cases q:F p with|none=>rfl|some o=>rw[s p o q]at g;cases g
 have sm:aJ F (upd F p (.tup xs)):=aJ.cu j;refine k _ (upd F p (.tup xs)) _ ⟨aJ.cu g,sm,λb o e=>?_,λb n h=>?_⟩ ?_
 . by_cases f:b=p;.subst f;rw[aL]at e ⊢;exact e
   .rw[aB f]at e ⊢;exact s b o e
 . by_cases f:b=p;.subst f;exact lO g
   .rw[aB f]at h;exact absurd n h
 .show Rep K _ _ (.tup ds);rw[Rep];exact⟨p,xs,rfl,jw.of aL,r.mono sm⟩
end
theorem uI(k:Int)(t:Tok)(l:Addr)(a:Array Value)(n:Nat)(dd:Option Addr)(sl:Array (Option Value)):Meets (Builtin.«int.__rmul__» ⟨[.int k t,.ref l],[]⟩) (λ_ R s=>s.heap.get? l=some ⟨.type "list",dd,.seq a n,sl⟩/\R (.ok (.ret Value.notImplemented)) s):=.of_wp λprog w A R s h=>by obtain⟨b,g,d,c,os⟩:=s;obtain⟨e,h⟩:=h;wp_walk;exact⟨_,rfl,h⟩
theorem Ex(l:Addr)(a:Array Value)(n:Nat)(dd:Option Addr)(sl:Array (Option Value))(k:Int)(t:Tok)(h0:¬(!Builtin.List.listFitsIndex k)=true)(h1:¬a.size*k.toNat>(2^63-1)/8)(b:¬listTooLong (a.size*k.toNat)=true):Meets (Builtin.«list.__mul__» ⟨[.ref l,.int k t],[]⟩) (λ_ R s=>s.heap.get? l=some ⟨.type "list",dd,.seq a n,sl⟩/\R (.ok (.ret (Value.ref s.heap.objs.size))) {s with heap:=s.heap.push {cls:=.type "list",data:=.seq (foldl (·++·) #[] (replicate (if a.isEmpty=true then 0 else k.toNat) a))}}):=.of_wp λprog w A R s h=>by obtain⟨e,g,d,f,os⟩:=s;obtain⟨c,h⟩:=h;have hz:=AutoListH.joined_fits b;wp_walk using wpAny_loadPart' c;refine wpAny_ite_false (decide_eq_false (Nat.not_lt.mpr hz)) ?_;wp_walk;exact⟨_,rfl,h⟩
section
variable{X:Cx}{c:Call}{e a b d:Expr}{p pa pb pd:P}{pos:Pos}
theorem Mw:gq X (binaryOp .Add) (λx y H Q=>∃l b xs o,x=.ref l/\y=.ref b/\fM X.K H l xs/\fM X.K H b o/\xs.length+o.length<=sizeLine/\∀p,H p=none->Q (.ref p) (upd H p (.lst (xs++o)))):=by
 intro A s σ H x y v u Q I E G h;obtain⟨l,b,xs,o,rfl,rfl,J,L,hz,q⟩:=h;cases E;cases G;obtain⟨g,r,M,_⟩:=I.list J;obtain⟨f,B,t,_⟩:=I.list L;obtain⟨⟨cls,dd,data,sl⟩,ho,hc,n,hd⟩:=id M.isList;obtain⟨⟨C,w,data2,z⟩,j,k,N,m⟩:=id t.isList;simp only at hc hd k m;subst hc hd k m;have e:g.toArray++f.toArray=(g++f).toArray:=by simp
 refine concat_meets ⟨_,ho,rfl⟩ ⟨_,j,rfl⟩ noFill_list_add seq_list_add PySem.F.slot_list_add PySem.F.entry_list_add (PySem.F.args_list_add_2 _ _) (list_addW l b g.toArray f.toArray n N dd w sl z (by simp only[size_toArray];rw[<-r.length,<-B.length];exact hz)) ⟨ho,j,?_⟩;rw[e];exact⟨.ref _,_,I.Ub (t':=s.toks) (r.append B) (by rw[length_append];exact hz),rfl,q _ I.fresh⟩
theorem La:gq X (binaryOp .Add) (λx y H Q=>∃a b ys,x=.ref a/\y=.ref b/\jw X.K H a []/\jw X.K H b ys/\Q (.ref b) H):=by intro r s σ H x y v u Q I w z h;obtain⟨a,b,ys,rfl,rfl,A,B,q⟩:=h;cases w;cases z;obtain⟨l,r1,C,_⟩:=I.tuple A;obtain⟨f,L,E,_⟩:=I.tuple B;obtain⟨⟨cls,dd,data,sl⟩,ho,hc,n,hd⟩:=id C;obtain⟨⟨t,m,data2,o⟩,g,j,G,k⟩:=id E;simp only at hc hd j k;subst hc hd j k;have J:l=[]:=r1.qW.mpr rfl;subst J;exact concat_meets ⟨_,ho,rfl⟩ ⟨_,g,rfl⟩ noFill_tuple_add seq_tuple_add slot_tuple_add entry_tuple_add (args_tuple_add_2 _ _) (tuple_addW0 a b _ f.toArray n G dd m sl o (by simp)) ⟨ho,g,⟨.ref b,H,I,rfl,q⟩⟩
theorem aF:gq X (binaryOp .Add) (rD X.K (uG .add)):=by
 rintro f s σ H x y v u Q I g h⟨F,d,e,r,sm,o,q,he,k⟩;replace he:tO d e=some r:=he;unfold tO at he;split at he;.cases he;rw[o.int]at g;rw[q.int]at h;exact Wj f s σ H _ _ v u Q I g h ⟨_,_,rfl,rfl,cG.dB sm (bY _) k⟩
 .rename_i xs ys;obtain⟨m,he⟩:=bN he;subst he;obtain⟨a,vs,rfl,t,j⟩:=o.lst sm;obtain⟨b,w,rfl,z,l⟩:=q.lst sm;exact Mw f s σ H _ _ v u Q I g h ⟨a,b,vs,w,rfl,rfl,t,z,by rw[j.length,l.length];exact m,λp A=>zN sm (j.append l) A k⟩
 . rename_i xs ys;obtain⟨m,he⟩:=bN he;subst he;obtain⟨a,vs,rfl,t,j,C⟩:=o.tup sm;obtain⟨b,w,rfl,z,l,E⟩:=q.tup sm;by_cases h0:vs=[]
   . subst h0;have B:xs=[]:=by have:=j.length;exact List.eq_nil_of_length_eq_zero this.symm
     subst B;exact La f s σ H _ _ v u Q I g h ⟨a,b,w,rfl,rfl,t,z,cG.dB sm E k⟩
   . refine Oj f s σ H _ _ v u Q I g h ⟨a,b,vs,w,rfl,rfl,t,z,h0,by rw[j.length,l.length];exact m,λe=>?_,λ_ p A=>zL sm (j.append l) A k⟩;subst e;have B:ys=[]:=by have:=l.length;exact List.eq_nil_of_length_eq_zero this.symm
     subst B;rw[append_nil]at k;exact cG.dB sm C k
 .rename_i G J;obtain⟨m,he⟩:=bN he;subst he;rw[o.str]at g;rw[q.str]at h;exact zP f s σ H _ _ v u Q I g h ⟨_,_,rfl,rfl,m,cG.dB sm (Uc _) k⟩
 .cases he
theorem bj:gq X (binaryOp .Sub) (rD X.K (uG .sub)):=by
 rintro f s σ H x y v u Q I g h⟨F,d,e,r,sm,j,l,he,k⟩;replace he:yS d e=some r:=he;unfold yS at he;split at he;.cases he;rw[j.int]at g;rw[l.int]at h;exact Uz f s σ H _ _ v u Q I g h ⟨_,_,rfl,rfl,cG.dB sm (bY _) k⟩
 .cases he
theorem NQ:gq X (binaryOp .Mult) (λx y H Q=>∃l k xs,x=.ref l/\y=.int k/\fM X.K H l xs/\-(2^63)<=k/\k<2^63/\xs.length*k.toNat<=sizeLine/\∀p,H p=none->Q (.ref p) (upd H p (.lst (replicate k.toNat xs).flatten))):=by
 intro w s σ H x y v u Q I z A h;obtain⟨l,k,xs,rfl,rfl,B,h1,C,hz,q⟩:=h;cases z;obtain⟨t,rfl⟩:=A;obtain⟨f,r,E,_⟩:=I.list B;obtain⟨⟨cls,dd,data,sl⟩,ho,hc,n,hd⟩:=id E.isList;simp only at hc hd;subst hc hd;have g:f.toArray.size*k.toNat<=sizeLine:=by rw[size_toArray,<-r.length];exact hz
 have o:¬ f.toArray.size*k.toNat>(2^63-1)/8:=by
  have:(sizeLine:Nat)<=(2^63-1)/8:=by decide
  omega
 have j:foldl (·++·) #[] (replicate (if f.toArray.isEmpty=true then 0 else k.toNat) f.toArray)=(replicate k.toNat f).flatten.toArray:=by
  have f0:∀m:Nat,foldl (·++·) #[] (replicate m f.toArray)=(replicate m f).flatten.toArray:=λm=>by have:=foldl_rep f m [];rw[nil_append]at this;exact this
  rw[f0];cases f with|nil=>simp|cons a J=>rw[if_neg (by simp)]
 refine wpAny_binaryOp_repeat_ref (T:="list") (U:="int") (by decide) ⟨_,ho,rfl⟩ (λG=>typeIs_int G k t) noFill_list_mul F.fills_int_mul F.slot_int_rmul repeat_list F.slot_int_index.lookup ?_;refine call_meets F.slot_int_rmul (typeIs_int s k t) F.entry_int_rmul (F.args_int_rmul_2 _ _) (uI k t l f.toArray n dd sl) ⟨ho,rfl,⟨_,ho,rfl⟩,?_⟩;refine call_meets F.slot_list_mul ⟨_,ho,rfl⟩ F.entry_list_mul (F.args_list_mul_2 _ _) (Ex l f.toArray n dd sl k t (by rw[fitsIndex_both h1 C];exact Bool.false_ne_true) o (by rw[yD g];exact Bool.false_ne_true)) ⟨ho,?_⟩;rw[j];exact⟨.ref _,_,I.Ub (t':=s.toks) (r.rep k.toNat) (by rw[len_rep,Nat.mul_comm];exact hz),rfl,q _ I.fresh⟩
theorem pC:fillsNumberSlot (.type "tuple") "mul"=pure false:=PySem.fillsNumberSlot_seq (id:="tuple.__mul__") (r:=some (.builtin "tuple.__rmul__")) slot_tuple_mul.lookup (by decide+kernel) PySem.F.slot_tuple_rmul.lookup (by decide+kernel)
theorem wM:seqRepeat? (.type "tuple")=pure (some (.builtin "tuple.__mul__")):=by unfold seqRepeat?;rw[PySem.seqSlot_of (T:="tuple") (name:="__mul__") (id:="tuple.__mul__") slot_tuple_mul.lookup (by decide+kernel),PySem.seqSlot_of (T:="tuple") (name:="__rmul__") (id:="tuple.__rmul__") PySem.F.slot_tuple_rmul.lookup (by decide+kernel)];rfl
theorem tL(k:Int)(t:Tok)(l:Addr)(f:Array Value)(n:Nat)(dd:Option Addr)(sl:Array (Option Value)):Meets (Builtin.«int.__rmul__» ⟨[.int k t,.ref l],[]⟩) (λ_ R s=>s.heap.get? l=some ⟨.type "tuple",dd,.seq f n,sl⟩/\R (.ok (.ret Value.notImplemented)) s):=.of_wp λprog w A R s h=>by obtain⟨j,g,d,m,os⟩:=s;obtain⟨o,h⟩:=h;wp_walk;exact⟨_,rfl,h⟩
theorem Am(l:Addr)(f:Array Value)(n:Nat)(dd:Option Addr)(sl:Array (Option Value))(k:Int)(t:Tok)(h0:0<=k)(h1:k<2^63)(hz:f.size*k.toNat<=sizeLine)(r:0<f.size):Meets (Builtin.«tuple.__mul__» ⟨[.ref l,.int k t],[]⟩) (λ_ R s=>s.heap.get? l=some ⟨.type "tuple",dd,.seq f n,sl⟩/\(k=1->R (.ok (.ret (Value.ref l))) s)/\(k≠1->R (.ok (.ret (Value.ref s.heap.objs.size))) {s with heap:=s.heap.push {cls:=.type "tuple",data:=.seq (foldl (·++·) #[] (replicate k.toNat f))}})):=.of_wp λprog w A R s h=>by
  obtain⟨u,g,d,G,os⟩:=s;obtain⟨o,y,z⟩:=h;have j:f.isEmpty=false:=by cases e:f.isEmpty with|false=>rfl|true=>rw[Array.isEmpty_iff_size_eq_zero]at e;omega
  show wpAny _ _ (asIndex (.int k t)>>=_) _ _ _;wp_walk using wpAny_loadPart' o;have B:IsTup u l f:=⟨_,o,rfl,n,rfl⟩;rw[if_neg (by simp;omega)];refine wpAny_bind (PyProof.Rows.tupleItemsOf_ B ?_);try dsimp only
  by_cases m:k=1;.rw[if_pos (by simp[m])];wp_walk using wpAny_loadPart' o;exact⟨_,rfl,y m⟩
  . have q:=z m;rw[if_neg (by simp[j,m])];by_cases C:k=0;.subst C;rw[if_pos (by simp)];unfold tupleExact;refine wpAny_bind (wpAny_newObj_type ?_);exact wpAny_pure ⟨_,rfl,q⟩
    . have I:(f.size:Int)*k<=sizeLine:=by
       have:((f.size*k.toNat:Nat):Int)<=(sizeLine:Nat):=by exact_mod_cast hz
       rw[Int.natCast_mul,show((k.toNat:Nat):Int)=k by omega]at this;exact this
      have E:(sizeLine:Int)<=(2^63-1)/8:=by decide
      rw[if_neg (by simp[j];omega),if_neg (by omega),if_neg (by simp[Builtin.Tuple.tupleTooMany];omega)];unfold tupleExact;refine wpAny_bind (wpAny_newObj_type ?_ ?_);.exact wpAny_pure ⟨_,rfl,q⟩
      .have:=foldl_rep f.toList k.toNat [];rw[nil_append,show f.toList.toArray=f by simp]at this;show(foldl (·++·) #[] (replicate k.toNat f)).size<=sizeLine;rw[show(#[]:Array Value)=([]:List Value).toArray from rfl,this,size_toArray,len_rep,length_toList,Nat.mul_comm];exact hz
theorem Qn:gq X (binaryOp .Mult) (λx y H Q=>∃l k xs,x=.ref l/\y=.int k/\jw X.K H l xs/\0<xs.length/\0<=k/\k<2^63/\xs.length*k.toNat<=sizeLine/\(k=1->Q (.ref l) H)/\(k≠1->∀p,H p=none->Q (.ref p) (upd H p (.tup (replicate k.toNat xs).flatten)))):=by
 intro w s σ H x y v u Q I z A h;obtain⟨l,k,xs,rfl,rfl,B,m,h1,C,hz,E,G⟩:=h;cases z;obtain⟨t,rfl⟩:=A;obtain⟨f,r,J,_⟩:=I.tuple B;obtain⟨⟨cls,dd,data,sl⟩,ho,hc,n,hd⟩:=id J;simp only at hc hd;subst hc hd;have g:f.toArray.size*k.toNat<=sizeLine:=by rw[size_toArray,<-r.length];exact hz
 have j:foldl (·++·) #[] (replicate k.toNat f.toArray)=(replicate k.toNat f).flatten.toArray:=by have:=foldl_rep f k.toNat [];rw[nil_append]at this;exact this
 refine wpAny_binaryOp_repeat_ref (T:="tuple") (U:="int") (by decide) ⟨_,ho,rfl⟩ (λL=>typeIs_int L k t) pC F.fills_int_mul F.slot_int_rmul wM F.slot_int_index.lookup ?_;refine call_meets F.slot_int_rmul (typeIs_int s k t) F.entry_int_rmul (F.args_int_rmul_2 _ _) (tL k t l f.toArray n dd sl) ⟨ho,rfl,⟨_,ho,rfl⟩,?_⟩;refine call_meets slot_tuple_mul ⟨_,ho,rfl⟩ PySem.F.entry_tuple_mul (PySem.F.args_tuple_mul_2 _ _) (Am l f.toArray n dd sl k t h1 C g (by rw[size_toArray,<-r.length];exact m)) ⟨ho,λe=>⟨.ref l,H,I,rfl,E e⟩,λe=>?_⟩;rw[j];refine⟨.ref s.heap.objs.size,_,I.laid (t':=s.toks) (o:=.tup (replicate k.toNat xs).flatten) (λb M q=>gY q) (eG) ?_,rfl,G e _ (I.hok.fresh (eG))⟩;exact⟨by rw[len_rep,Nat.mul_comm];exact hz,_,r.rep k.toNat,IsTup.new _ _⟩
theorem dZ:gq X (binaryOp .Mult) (rD X.K (uG .mul)):=by
 rintro f s σ H x y v u Q I l g⟨F,d,e,r,sm,o,q,he,k⟩;replace he:nG d e=some r:=he;unfold nG at he;split at he;.obtain⟨hc,he⟩:=bN he;subst he;rw[o.int]at l;rw[q.int]at g;exact Up f s σ H _ _ v u Q I l g ⟨_,_,rfl,rfl,hc,cG.dB sm (bY _) k⟩
 . rename_i xs i;obtain⟨⟨h1,m,j⟩,he⟩:=bN he;subst he;obtain⟨a,vs,rfl,t,h⟩:=o.lst sm;rw[q.int]at g;have w:i<2^63:=by have z:=Nat.le_mul_of_pos_left i.toNat m;have B:i.toNat<=16777216:=le_trans z j;omega
   exact NQ f s σ H _ _ v u Q I l g ⟨a,i,vs,rfl,rfl,t,by omega,w,by rw[h.length];exact j,λp A=>zN sm (h.rep i.toNat) A k⟩
 . rename_i xs i;obtain⟨⟨h1,m,j⟩,he⟩:=bN he;subst he;obtain⟨a,vs,rfl,t,h,C⟩:=o.tup sm;rw[q.int]at g;have w:i<2^63:=by have z:=Nat.le_mul_of_pos_left i.toNat m;have B:i.toNat<=16777216:=le_trans z j;omega
   refine Qn f s σ H _ _ v u Q I l g ⟨a,i,vs,rfl,rfl,t,by rw[h.length];exact m,h1,w,by rw[h.length];exact j,λe=>?_,λe p A=>zL sm (h.rep i.toNat) A k⟩;subst e;refine cG.dB sm ?_ k;have E:(replicate (1:Int).toNat xs).flatten=xs:=by simp
   rw[E];exact C
 .cases he
theorem yV:gq X (binaryOp .FloorDiv) (rD X.K (uG .fdiv)):=by
 rintro f s σ H x y v u Q I g h⟨F,d,e,r,sm,l,m,he,k⟩;replace he:tM d e=some r:=he;unfold tM at he;split at he
 . rename_i i j;obtain⟨⟨h1,q⟩,he⟩:=bN he;subst he;rw[l.int]at g;rw[m.int]at h;obtain⟨t,rfl⟩:=g;obtain⟨t',rfl⟩:=h;have o:j.natAbs.log2<9000:=by
    have:j.natAbs<2^200:=by
     have:(2:Nat)^200=1606938044258990275541962092341162602522202993782792835301376:=by decide
     omega
    have w:=(Nat.log2_lt (by omega)).mpr this;omega
   exact floordiv_int (by omega) (by rw[Int.fdiv_eq_ediv_of_nonneg i (by omega)];exact⟨.int _,H,I.tok _,⟨_,rfl⟩,cG.dB sm (bY _) k⟩) (.inl (PyProof.noPylong_of_log2 o))
 .cases he
theorem dM:gq X (binaryOp .Mod) (rD X.K (uG .mod)):=by
 rintro f s σ H x y v u Q I g h⟨F,d,e,r,sm,j,l,he,k⟩;replace he:yR d e=some r:=he;unfold yR at he;split at he;.obtain⟨h1,he⟩:=bN he;subst he;rw[j.int]at g;rw[l.int]at h;exact T8 f s σ H _ _ v u Q I g h ⟨_,_,rfl,rfl,h1,cG.dB sm (bY _) k⟩
 .cases he
theorem fX:gq X (binaryOp .Pow) (rD X.K (uG .pow)):=by
 rintro f s σ H x y v u Q I g h⟨F,d,e,r,sm,j,l,he,k⟩;replace he:yg d e=some r:=he;unfold yg at he;split at he;.obtain⟨⟨h1,o,m⟩,he⟩:=bN he;subst he;rw[j.int]at g;rw[l.int]at h;exact S8 f s σ H _ _ v u Q I g h ⟨_,_,rfl,rfl,⟨h1,by omega,m⟩,cG.dB sm (bY _) k⟩
 .cases he
theorem ao{o:Op}{op:Operator}(ho:gq X (binaryOp op) (rD X.K (uG o)))(f:SX X c a pa)(g:SX X c b pb):SX X c (.BinOp a op b pos) (.bin o pa pb):=wX (λh1 h=>aax ho h1 h) f g (λρ=>rfl) rfl
theorem sG(j:SX X c a pa):SX X c (.UnaryOp .USub a pos) (.neg pa):=by refine S9 (f:=Iv) (λh1=>aaD ?_ h1) j (λρ=>rfl) rfl;rintro g s σ H x v Q I h⟨F,d,r,sm,l,he,k⟩;unfold Iv at he;obtain⟨i,m,o⟩:=map_some he;subst o;cases d<;>cases m;rw[l.int]at h;exact Sd g s σ H _ v Q I h ⟨_,rfl,cG.dB sm (bY _) k⟩
theorem CZ{f:Int->Int->Bool}(ho:gq X (compareOp op) (Mj λi j=>.bl (f i j))):gq X (compareOp op) (rD X.K λx y=>(Mf f x y).map λk=>.val (.bl k)):=by
 rintro g s σ H x y v u Q I l m⟨F,d,e,r,sm,o,q,he,k⟩;obtain⟨t,h,w⟩:=map_some (show(Mf f d e).map _=some r from he);subst w;unfold Mf at h;split at h;.cases h;rw[o.int]at l;rw[q.int]at m;exact ho g s σ H _ _ v u Q I l m ⟨_,_,rfl,rfl,cG.dB sm (fO _) k⟩
 .cases h
theorem Bm{f:Int->Int->Bool}(ho:gq X (compareOp op) (Mj λi j=>.bl (f i j))){o:Cm}(hc:cm o=Mf f):gq X (compareOp op) (rD X.K (oX o)):=by
 have e:oX o=λx y=>(Mf f x y).map λk=>.val (.bl k):=by funext x y;unfold oX;rw[hc]
 rw[e];exact CZ ho
theorem Sy:gq X (compareOp .Lt) (rD X.K λx y=>(Mf (λi j=>decide (i<j)) x y).map λk=>.val (.bl k)):=CZ Y0
theorem pQ:gq X (compareOp .LtE) (rD X.K (oX .le)):=Bm Z3 rfl
theorem sV:gq X (compareOp .Gt) (rD X.K (oX .gt)):=Bm aaQ rfl
theorem V2:gq X (compareOp .GtE) (rD X.K (oX .ge)):=Bm YF rfl
theorem Gf{d:D}(h:dI K F H v d):decide (v=.non)=kJ d:=by cases d with
 |non=>rw[h.non];rfl|bl _=>rw[h.bl];rfl|int _=>rw[h.int];rfl|str _=>rw[h.str];rfl|tup _=>
   rcases h with h|⟨a,_,_,rfl,_⟩;.rw[Rep]at h;obtain⟨a,_,rfl,_⟩:=h;rfl
   .rfl|lst _=>
   rcases h with h|⟨a,_,_,rfl,_⟩;.rw[Rep]at h;obtain⟨a,_,rfl,_⟩:=h;rfl
   .rfl|eN _=>
   rcases h with h|⟨a,_,_,rfl,_⟩;.rw[Rep]at h;obtain⟨a,_,rfl,_⟩:=h;rfl
   .rfl|dv _ _=>
   rcases h with h|⟨a,_,_,rfl,_⟩;.rw[Rep]at h;obtain⟨a,_,_,rfl,_⟩:=h;rfl
   .rfl
theorem Nm:gq X (compareOp .IsNot) (rD X.K (oX .Qu)):=by
 rintro f s σ H x y v u Q I h j⟨F,d,e,r,sm,l,m,he,k⟩;obtain⟨t,g,o⟩:=map_some (show(cmN true d e).map _=some r from he);subst o;unfold cmN at g;split at g;.cases g;exact Qg f s σ H x y v u Q I h j ⟨m.non,by rw[Gf l];exact cG.dB sm (fO _) k⟩
 .cases g
theorem wW{o:Cm}(ho:gq X (compareOp op) (rD X.K (oX o)))(f:SX X c a pa)(g:SX X c b pb)(h:behindInMarks op b=false):SX X c (.Compare a [op] [b] pos) (.cmp o pa pb):=wX (λh1 j=>Mv ho h1 j h) f g (λρ=>rfl) rfl
theorem J8{o E:Cm}{l:CmpOp}(ho:gq X (compareOp op) (rD X.K (oX o)))(A:gq X (compareOp l) (rD X.K (oX E)))(G:SX X c a pa)(I:SX X c b pb)(hd:SX X c d pd)(J:lastMarks [op,l] [b,d]=false:=by with_unfolding_all rfl):SX X c (.Compare a [op,l] [b,d] pos) (.chain o E pa pb pd):=by
 obtain⟨ta,tb,h1,L,M⟩:=G.jm I;obtain⟨td,N,O⟩:=hd.cL;refine⟨cP (Ks ho A h1 L N J) ?_,λi h=>by cases h⟩;rintro σ H Q⟨F,ρ,r,ρ',g,e,k⟩;rw[_H.E10]at e;obtain⟨m,U,W,e⟩:=aj e;obtain⟨t,Y,j,e⟩:=aj e;have Z:=aD j;clear j;obtain⟨j,B⟩:=Z;subst B;have f:flat m.2=true/\cm o m.1 m.2=some t:=by
  split at j;.rename_i hf;exact⟨hf,j⟩
  .cases j
 obtain⟨f,j⟩:=f;refine M g W λv u F' H' s pv y=>⟨F',m.1,m.2,.val (.bl t),s.gs.sub,pv,y,by unfold oX;rw[j];rfl,λw C H2 x q=>?_⟩;have s2:=s.trans (x.stp s.gs);have q:Rep X.K C w (.bl t):=q;rw[Rep]at q;subst q;refine⟨t,rfl,?_⟩;cases t with|false=>rw[if_neg Bool.false_ne_true]at e ⊢;cases e;exact k _ C H2 s2 (show Rep X.K C _ _ from fO _)|true=>
   rw[if_pos rfl]at e ⊢;obtain⟨z,ac,B,e⟩:=aj e;obtain⟨e4,e5⟩:=aD e;subst e5;refine O s2.gs B λw F3 H3 s3 pw=>⟨F3,m.2,z,r,s3.gs.sub,?_,pw,e4,λw' F4 H4 x4 q=>?_⟩
   . have x1:=x.fs;have x2:=s3.cF;rcases y with y|⟨_,_,_,_,_,_,h⟩;.exact .inl ((y.mono x1).mono x2)
     .rw[h]at f;cases f
   .have s4:=s2.trans s3;exact k w' F4 H4 (s4.trans (x4.stp s4.gs)) (.later s4 (q.o9 s4.gs))
end
section
variable{X:Cx}{c:Call}{e a b d:Expr}{p pa pb pd:P}{pos:Pos}{rest:List Expr}
theorem uy{x:D}{k:Bool}(h:Cj x=some k):x=.bl k:=by cases x<;>cases h;rfl
theorem dU{x:D}{k:Int}(h:jc x=some k):x=.int k:=by cases x<;>cases h;rfl
theorem cV.bool{F' H':Hp}{σ':_L.St}{r:R}{k:Bool}(h:cV K F' ρ' σ' H' ρ σ H v r)(e:r.d=.bl k):v=.bl k:=by cases r with|val d=>cases(show d=.bl k from e);have h:Rep K F' v (.bl k):=h;rw[Rep]at h;exact h|own ds=>cases e
noncomputable def ST(X:Cx)(c:Call)(e:Expr)(p:P):Prop:=PT X e (Hf X.K (iB (_H.ev c p)))
noncomputable def SW(X:Cx)(c:Call)(e:Expr)(p:P):Prop:=PW X e (Hf X.K (iB (_H.ev c p)))
theorem SW.st(h:SW X c e p):ST X c e p:=PW.pt h
theorem m5{t:TE}{Q:Bool->Hp->Prop}(hi:∀Q,zf X.K (_H.ev c p) σ H Q->t σ H Q)(h:Hf X.K (iB (_H.ev c p)) σ H Q):t σ H λx l=>∃k,x=.bl k/\Q k l:=by obtain⟨F,ρ,k,ρ',g,e,q⟩:=h;obtain⟨r,j,m,f⟩:=aj e;have o:=aD f;clear f;obtain⟨f,u⟩:=o;subst u;exact hi _ ⟨F,ρ,r,j,g,m,λv F' H' s w=>⟨k,w.bool (uy f),q F' H' s⟩⟩
theorem gw(h:SX X c e p)(he:∀f,isTrue e X.env f=(do let v<-f;standAt e.pos;holding [v] (truthy v)):=by intro _;rfl):ST X c e p:=uR (Vf h.ev he) λσ H Q q=>m5 (λ_ z=>z) q
theorem cj{o:Cm}(ho:gq X (compareOp op) (rD X.K (oX o)))(j:SX X c a pa)(l:SX X c b pb)(m:behindInMarks op b=false):ST X c (.Compare a [op] [b] pos) (.cmp o pa pb):=by obtain⟨y,A,h1,B,C⟩:=j.jm l;refine uR (Ck ho h1 B m) λσ H Q q=>m5 (t:=Vw (rD X.K (oX o)) y A) (λQ z=>?_) q;obtain⟨F,ρ,r,ρ',g,e,k⟩:=z;rw[_H.E9]at e;obtain⟨h,E,G,f⟩:=aj e;have I:=aD f;clear f;obtain⟨f,J⟩:=I;subst J;refine C g G λv u F' H' s L M=>⟨F',h.1,h.2,r,s.gs.sub,L,M,f,λw N O x U=>?_⟩;exact k w N O (s.trans (x.stp s.gs)) (.later s (U.o9 s.gs))
theorem jG(j:ST X c a pa):ST X c (.UnaryOp .Not a pos) (.not pa):=by
 refine uR (Wr j) ?_;rintro σ H Q⟨F,ρ,k,ρ',g,e,q⟩;unfold iB at e;rw[_H.E6]at e;obtain⟨r,l,m,f⟩:=aj e;obtain⟨h,o,t,u⟩:=aj m;cases u;have w:=aD f;clear f;obtain⟨f,y⟩:=w;subst y;have f:(!h)=k:=by cases f;rfl
 exact⟨F,ρ,h,_,g,t,λF' H' s=>by show Q (!h) H';rw[f];exact q F' H' s⟩
theorem Oq(ρ:List Sl):iB (_H.ev c (.and pa pb)) ρ=(iB (_H.ev c pa) ρ).bind λx ρ=>if x then iB (_H.ev c pb) ρ else .ok false ρ:=by unfold iB;rw[_H.E7];unfold iB;cases _H.ev c pa ρ with|exc _ _=>rfl|stuck=>rfl|ok r f=>simp only[Res.bind];cases h:Cj r.d with|none=>rfl|some k=>cases k with|false=>rfl|true=>simp only[lift,if_true];cases _H.ev c pb f with|exc _ _=>rfl|stuck=>rfl|ok g j=>simp only[Res.bind];cases h2:Cj g.d with|none=>rfl|some k2=>rfl
theorem Wi(ρ:List Sl):iB (_H.ev c (.or pa pb)) ρ=(iB (_H.ev c pa) ρ).bind λx ρ=>if x then .ok true ρ else iB (_H.ev c pb) ρ:=by unfold iB;rw[_H.E8];unfold iB;cases _H.ev c pa ρ with|exc _ _=>rfl|stuck=>rfl|ok r f=>simp only[Res.bind];cases h:Cj r.d with|none=>rfl|some k=>cases k with|true=>rfl|false=>simp only[lift,false_eq_true,if_false];cases _H.ev c pb f with|exc _ _=>rfl|stuck=>rfl|ok g j=>simp only[Res.bind];cases h2:Cj g.d with|none=>rfl|some k2=>rfl
theorem M7(f:ST X c a pa):SW X c (.BoolOp .And [a] pos) pa:=Mz f
theorem v9(f:ST X c a pa):SW X c (.BoolOp .Or [a] pos) pa:=VH f
theorem Tp(h:ST X c a pa)(j:SW X c (.BoolOp .And (b::rest) pos) pb):SW X c (.BoolOp .And (a::b::rest) pos) (.and pa pb):=by refine RD (Ve h j) ?_;rintro σ H Q⟨F,ρ,k,ρ',g,e,q⟩;rw[Oq]at e;obtain⟨x,f,l,e⟩:=aj e;refine⟨F,ρ,x,f,g,l,λF1 m s1=>?_⟩;cases x with|true=>rw[if_pos rfl]at e ⊢;exact⟨F1,f,k,ρ',s1.gs,e,λo r s2=>q o r (s1.trans s2)⟩|false=>rw[if_neg Bool.false_ne_true]at e ⊢;cases e;exact q F1 m s1
theorem Dq(h:ST X c a pa)(j:SW X c (.BoolOp .Or (b::rest) pos) pb):SW X c (.BoolOp .Or (a::b::rest) pos) (.or pa pb):=by refine RD (Yt h j) ?_;rintro σ H Q⟨F,ρ,k,ρ',g,e,q⟩;rw[Wi]at e;obtain⟨x,f,l,e⟩:=aj e;refine⟨F,ρ,x,f,g,l,λF1 m s1=>?_⟩;cases x with|true=>rw[if_pos rfl]at e ⊢;cases e;exact q F1 m s1|false=>rw[if_neg Bool.false_ne_true]at e ⊢;exact⟨F1,f,k,ρ',s1.gs,e,λo r s2=>q o r (s1.trans s2)⟩
theorem Sh(f:SX X c a pa):SX X c (.UnaryOp .Not a pos) (.not pa):=by refine⟨cP (Jj f.ev) ?_,λi h=>by cases h⟩;rintro σ H Q⟨F,ρ,r,ρ',g,e,k⟩;rw[_H.E6]at e;obtain⟨x,j,l,m⟩:=aj e;cases m;exact m5 (c:=c) (λ_ z=>z) ⟨F,ρ,x,_,g,l,λF' H' s=>k _ F' H' s (show Rep X.K F' _ _ from fO _)⟩
theorem wG{op}(f:SX X c a pa):PE X (.BoolOp op [a] pos) (zf X.K (_H.ev c pa)):=IK f.ev
theorem kW(o:SX X c a pa)(q:PE X (.BoolOp .And (b::rest) pos) (zf X.K (_H.ev c pb))):SX X c (.BoolOp .And (a::b::rest) pos) (.and pa pb):=by refine⟨cP (HX o.ev q) ?_,λi h=>by cases h⟩;rintro σ H Q⟨F,ρ,r,ρ',g,e,k⟩;rw[_H.E7]at e;obtain⟨x,f,s,e⟩:=aj e;refine m5 (c:=c) (λ_ z=>z) (Q:=λx j=>if x=true then zf X.K (_H.ev c pb) σ j Q else Q (.bl false) j) ⟨F,ρ,x,f,g,s,λF1 j s1=>?_⟩;cases x with|true=>rw[if_pos rfl]at e ⊢;obtain⟨y,t,u,w⟩:=aj e;cases w;obtain⟨A,B,C,l⟩:=aj u;have E:=aD l;clear l;obtain⟨l,G⟩:=E;subst G;refine⟨F1,f,A,_,s1.gs,C,λv m I s2 J=>?_⟩;rw[J.bool (uy l)];exact k _ m I (s1.trans s2) (show Rep X.K m _ _ from fO _)|false=>rw[if_neg Bool.false_ne_true]at e ⊢;cases e;exact k _ F1 j s1 (show Rep X.K F1 _ _ from fO _)
theorem wQ(hc:ST X c e p)(w:SX X c a pa)(y:SX X c b pb):SX X c (.IfExp e a b pos) (.RP p pa pb):=by refine⟨cP (JL hc w.ev y.ev) ?_,λi h=>by cases h⟩;rintro σ H Q⟨F,ρ,r,ρ',g,e,k⟩;rw[_H.E11]at e;obtain⟨x,f,z,e⟩:=aj e;refine⟨F,ρ,x,f,g,z,λF1 B s1=>?_⟩;cases x with|true=>rw[if_pos rfl]at e ⊢;obtain⟨j,l,m,o⟩:=aj e;cases o;refine⟨F1,f,j,_,s1.gs,m,λv A q s2 s=>?_⟩;obtain⟨t,s3,_,u⟩:=s2.dz s;exact k v t q (s1.trans s3) u|false=>rw[if_neg Bool.false_ne_true]at e ⊢;obtain⟨j,l,m,o⟩:=aj e;cases o;refine⟨F1,f,j,_,s1.gs,m,λv A q s2 s=>?_⟩;obtain⟨t,s3,_,u⟩:=s2.dz s;exact k v t q (s1.trans s3) u
theorem wI:∀{ps:List P}{ρ ρ':List Sl}{ds:List D},evs c ps ρ=.ok ds ρ'->ds.length=ps.length|[],_,_,_,h=>by rw[Ja]at h;cases h;rfl|p::ps,_,_,_,h=>by rw[Kl]at h;obtain⟨r,f,_,h⟩:=aj h;obtain⟨xs,g,j,h⟩:=aj h;cases h;simp[wI j]
theorem aN:SA X c [] []:=⟨nM cZ λσ H Q⟨F,ρ,ds,ρ',g,e,k⟩=>by rw[Ja]at e;cases e;exact k [] F H (.refl g) .nil,rfl⟩
theorem Cu{ps:List P}(h:SX X c a pa)(hr:SA X c es ps)(hs:starEach (a::es) X.env=(false,eval a X.env)::starEach es X.env:=by rfl):SA X c (a::es) (pa::ps):=by refine⟨nM (bz h.ev hr.1 hs) ?_,by simp[hr.2]⟩;rintro σ H Q⟨F,ρ,ds,ρ',g,e,k⟩;rw[Kl]at e;obtain⟨r,f,j,e⟩:=aj e;obtain⟨xs,l,m,e⟩:=aj e;cases e;refine⟨F,ρ,r,f,g,j,λv F' H' s o=>?_⟩;obtain⟨F1,s1,_,q⟩:=s.dz o;refine⟨F1,f,xs,_,s1.gs,m,λvs t u s2 w=>?_⟩;exact k _ t u (s1.trans s2) (.cons (q.mono s2.cF) w)
theorem Ext.Qc{f g:Hp}{Q:VK}{xs:List V}(s:aC K g ρ σ f F ρ' σ H)(r:aH K F xs ds)(k:∀v F' H',aC K g ρ σ f F' ρ' σ H'->cV K F' ρ' σ H' ρ σ f v (.val (.tup ds))->Q v H')(p:Addr)(h:H p=none):Q (.ref p) (upd H p (.tup xs)):=zL s.gs.sub r h λv F' H' x j=>k v F' H' (s.trans (x.stp s.gs)) j
theorem dj{ps:List P}{x1}(h:SA X c es ps)(hz:ps.length<=sizeLine:=by decide):SX X c (.Tuple es x1 pos) (.tup ps):=by refine⟨cP (zU h.1) ?_,λi h=>by cases h⟩;rintro σ H Q⟨F,ρ,r,ρ',g,e,k⟩;rw[_H.E12]at e;obtain⟨ds,l,f,e⟩:=aj e;cases e;exact⟨F,ρ,ds,_,g,f,λvs F' H' s j=>⟨by rw[j.length,wI f];exact hz,λp m=>Ext.Qc s j k p m⟩⟩
theorem cO{ps:List P}(h:SA X c es ps)(hz:ps.length<=sizeLine:=by decide):SX X c (.List es pos) (.lst ps):=by refine⟨cP (Wn h.1) ?_,λi h=>by cases h⟩;rintro σ H Q⟨F,ρ,r,ρ',g,e,k⟩;rw[_H.E13]at e;obtain⟨ds,l,f,e⟩:=aj e;cases e;exact⟨F,ρ,ds,_,g,f,λvs F' H' s j=>⟨by rw[j.length,wI f];exact hz,λp m=>zN s.gs.sub j m λv o q x t=>k v o q (s.trans (x.stp s.gs)) (.later s (t.o9 s.gs))⟩⟩
theorem G6{i:Int}{d:D}(h:at' ds i=some d):∃j,_L.j9 ds.length i=some j/\ds[j]?=some d:=cU h
theorem ZG:IxR X (rD X.K Ey):=by
 rintro f slice g s σ H x y v u Q I m l⟨F,d,e,r,sm,t,A,he,k⟩hs;unfold Ey at he;obtain⟨ds,B,he⟩:=cU he;obtain⟨i,C,he⟩:=cU he;obtain⟨z,E,he⟩:=map_some he;subst he;cases dU C;rw[A.int]at l;obtain⟨p,xs,rfl,hq,o⟩:=t.items sm B;obtain⟨j,h1,G⟩:=G6 E;obtain⟨w,J,q⟩:=o.get G;have h:JT xs i=some w:=by unfold JT;rw[o.length,h1];exact J
 rcases hq with hq|hq;.exact Dk f slice g s σ H _ _ v u Q I m l ⟨p,xs,i,w,rfl,rfl,hq,h,cG.dB sm q k⟩ hs
 .exact VN f slice g s σ H _ _ v u Q I m l ⟨p,xs,i,w,rfl,rfl,hq,h,cG.dB sm q k⟩ hs
theorem au(g:SX X c a pa)(h:SX X c b pb)(hs:qP b:=by intro _ _;rfl):SX X c (.Subscript a b pos) (.idx pa pb):=wX (f:=Ey) (λh1 j=>KN ZG h1 j hs) g h (λρ=>rfl) rfl
noncomputable def Ox(K:PySem.W.Frag)(f:D->Option R):List V->Hp->VK->Prop:=λxs H Q=>∃x,xs=[x]/\rD1 K f x H Q
theorem p6{E:Expr}{f:D->Option R}{q:P}(l:∀{t},PA X [a] t->PE X E (tCB (Ox X.K f) t))(m:SX X c a pa)(o:∀ρ,_H.ev c q ρ=(_H.cL (isVar pa) (_H.ev c pa) ρ).bind λx ρ=>lift (f x) ρ)(u:isVar q=none)(hs:starEach [a] X.env=(false,eval a X.env)::starEach [] X.env:=by rfl):SX X c E q:=by obtain⟨M,h1,y⟩:=m.cL;refine⟨cP (l (bz h1 cZ hs)) ?_,λi h=>by rw[u]at h;cases h⟩;rintro σ H Q⟨F,ρ,r,ρ',g,e,k⟩;rw[o]at e;obtain⟨x,z,A,j⟩:=aj e;have B:=aD j;clear j;obtain⟨j,C⟩:=B;subst C;refine y g A λv F' H' s G=>⟨v,rfl,F',x,r,s.gs.sub,G,j,λw I J x L=>?_⟩;exact k w I J (s.trans (x.stp s.gs)) (.later s (L.o9 s.gs))
theorem aaL:du X (.builtin "len") (Ox X.K λx=>blt .len [x]):=by rintro f s σ H xs g Q I r⟨x,h,F,d,j,sm,l,he,k⟩;obtain⟨ds,m,he⟩:=map_some (show(items d).map _=some j from he);subst he;obtain⟨p,ys,rfl,o,q⟩:=l.items sm m;exact wy f s σ H xs g Q I r ⟨p,ys,h,o,by rw[q.length];exact cG.dB sm (bY _) k⟩
theorem V9:du X (.type "list") (Ox X.K λx=>blt .list [x]):=by rintro f s σ H xs g Q I r⟨x,h,F,d,j,sm,m,he,k⟩;obtain⟨ds,o,he⟩:=map_some (show(items d).map _=some j from he);subst he;obtain⟨p,ys,rfl,q,t⟩:=m.items sm o;exact xn f s σ H xs g Q I r ⟨p,ys,h,q,λl u=>zN sm t u k⟩
theorem Ph:du X (.type "tuple") (Ox X.K λx=>blt .tuple [x]):=by rintro f s σ H xs j Q I r⟨x,m,F,d,t,sm,o,he,k⟩;obtain⟨ds,g,he⟩:=map_some (show(items d).map _=some t from he);subst he;cases d with|tup es=>cases g;obtain⟨a,ys,rfl,h,q,rt⟩:=o.tup sm;exact mF f s σ H xs j Q I r ⟨a,ys,m,.inr ⟨h,cG.dB sm rt k⟩⟩|lst es=>cases g;obtain⟨a,ys,rfl,h,q⟩:=o.lst sm;exact mF f s σ H xs j Q I r ⟨a,ys,m,.inl ⟨h,λl u=>zL sm q u k⟩⟩|_=>cases g
theorem dg(f:x="len")(g:Gl X x)(j:X.mg x=none)(k:SX X c a pa)(hs:starEach [a] X.env=(false,eval a X.env)::starEach [] X.env:=by rfl):SX X c (.Call (.Name x p') [a] [] pos) (.blt .len [pa]):=by subst f;exact p6 (λh=>cX aaL g j PySem.boot_len h (he:=hs)) k (λρ=>rfl) rfl hs
theorem Nk(f:x="list")(g:Gl X x)(j:X.mg x=none)(k:SX X c a pa)(hs:starEach [a] X.env=(false,eval a X.env)::starEach [] X.env:=by rfl):SX X c (.Call (.Name x p') [a] [] pos) (.blt .list [pa]):=by subst f;exact p6 (λh=>pg V9 g j (by decide+kernel) h (he:=hs)) k (λρ=>rfl) rfl hs
theorem xW(f:x="tuple")(g:Gl X x)(j:X.mg x=none)(k:SX X c a pa)(hs:starEach [a] X.env=(false,eval a X.env)::starEach [] X.env:=by rfl):SX X c (.Call (.Name x p') [a] [] pos) (.blt .tuple [pa]):=by subst f;exact p6 (λh=>pg Ph g j (by decide+kernel) h (he:=hs)) k (λρ=>rfl) rfl hs
end
noncomputable def Ql(K:PySem.W.Frag)(np:Nat)(f:List Sl->Res R):Sp:=λvs H Q _=>vs.length=np/\∃F args r a,GS K F args (vs.map some) H/\f args=.ok r a/\∀v F' σ' H',aC K F args (vs.map some) H F' a σ' H'->cV K F' a σ' H' args (vs.map some) H v r->Q v H'
section
variable{K:PySem.W.Frag}
noncomputable def Bg(K:PySem.W.Frag)(F:Hp)(ρ:List Sl)(σ:_L.St)(H:Hp)(ρ₀:List Sl)(H₀:Hp)(v:V):Arg->Prop|.dat d=>Rep K F v d|.tmp ds=>∃x xs,v=.ref x/\H x=some (.lst xs)/\F x=none/\aH K F xs ds/\¬ Own ρ σ x/\(Own ρ₀ σ x\/H₀ x=none)|.fY i=>σ[i]?=some (some v)
structure yL(K:PySem.W.Frag)(F:Hp)(ρ:List Sl)(σ:_L.St)(H:Hp)(ρ₀:List Sl)(H₀:Hp)(as:List Arg)(vs:List V):Prop where
 len:as.length=vs.length
 one:∀(j:Nat)(a:Arg)(v:V),as[j]?=some a->vs[j]?=some v->Bg K F ρ σ H ρ₀ H₀ v a
 dis:∀(j k:Nat)(ds es:List D)(x:Addr),as[j]?=some (.tmp ds)->as[k]?=some (.tmp es)->vs[j]?=some (.ref x)->vs[k]?=some (.ref x)->j=k
theorem Bg.later{F' H':Hp}{a:Arg}(s:aC K F ρ σ H F' ρ' σ H')(h:Bg K F ρ σ H ρ₀ H₀ v a):Bg K F' ρ' σ H' ρ₀ H₀ v a:=by cases a with|dat d=>exact Rep.mono s.cF h|fY i=>exact h|tmp ds=>
   obtain⟨x,xs,h1,b,e,f,c,g⟩:=h;refine⟨x,xs,h1,s.keep x _ b c,?_,f.mono s.cF,λo=>?_,g⟩;.cases q:F' x with|none=>rfl|some o=>
       rcases s.xK x e (by rw[q];simp)with z|z;.exact absurd z c
       .exact(JH b z).elim
   . rcases s.xM x o with z|z;.exact c z
     .rw[b]at z;cases z
theorem yL.nil:yL K F ρ σ H ρ₀ H₀ [] []:=⟨rfl,λj a v h=>by simp at h,λj k ds es x h=>by simp at h⟩
theorem yL.cons{F H H₀:Hp}{ρ ρ₀:List Sl}{σ:_L.St}{a:Arg}{v:V}{as:List Arg}{vs:List V}(h:Bg K F ρ σ H ρ₀ H₀ v a)(t:yL K F ρ σ H ρ₀ H₀ as vs)(hd:∀ds x,a=.tmp ds->v=.ref x->∀(k:Nat)es,as[k]?=some (.tmp es)->vs[k]?≠some (.ref x)):yL K F ρ σ H ρ₀ H₀ (a::as) (v::vs):=by
 refine⟨by simp[t.len],λj b u h1 c=>?_,λj k ds es x h1 c e f=>?_⟩;.cases j with|zero=>simp at h1 c;subst h1;subst c;exact h|succ j=>exact t.one j b u (by simpa using h1) (by simpa using c)
 .cases j with
   |zero=>cases k with|zero=>rfl|succ k=>simp at h1 e;exact absurd (by simpa using f) (hd ds x h1 e k es (by simpa using c))
   |succ j=>cases k with|zero=>simp at c f;exact absurd (by simpa using e) (hd es x c f j ds (by simpa using h1))|succ k=>rw[t.dis j k ds es x (by simpa using h1) (by simpa using c) (by simpa using e) (by simpa using f)]
noncomputable def JG(ρ:List Sl):Arg->Sl->Prop|.dat d,s=>s=.val false d|.tmp ds,s=>s=.own false ds|.fY i,s=>(∃b d,ρ[i]?=some (.val b d)/\s=.val false d)\/(∃b ds,ρ[i]?=some (.own b ds)/\s=.own true ds)\/∃ds,ρ[i]?=some (.lent ds)/\s=.lent ds
theorem sS{ρ:List Sl}:∀{as:List Arg}{c:List Nat}{args:List Sl},bW ρ as c=some args->args.length=as.length/\(∀(j:Nat)(a:Arg)(s:Sl),as[j]?=some a->args[j]?=some s->JG ρ a s)/\(∀(j:Nat)(i:Nat)(s:Sl)ds,as[j]?=some (.fY i)->args[j]?=some s->lst? s=some ds->i∉c)/\(∀(j k:Nat)(i:Nat)(s t:Sl)ds es,as[j]?=some (.fY i)->as[k]?=some (.fY i)->args[j]?=some s->args[k]?=some t->lst? s=some ds->lst? t=some es->j=k)
 |[],c,args,h=>by rw[mR]at h;cases h;exact⟨rfl,λj a s h=>by simp at h,λj i s ds h=>by simp at h,λj k i s t ds es h=>by simp at h⟩|a::as,c,args,h=>by--the afL slot,the afM
   have key:∃s0 r u,args=s0::r/\bW ρ as u=some r/\JG ρ a s0/\((∃i ds,a=.fY i/\lst? s0=some ds/\u=i::c/\i∉c)\/((∀i ds,a=.fY i->lst? s0≠some ds)/\u=c)):=by cases a with|dat d=>rw[mU]at h;obtain⟨r,g,l⟩:=map_some h;exact⟨_,r,c,l.symm,g,rfl,.inr ⟨λi ds z=>(by cases z),rfl⟩⟩|tmp d=>rw[mK]at h;obtain⟨r,g,l⟩:=map_some h;exact⟨_,r,c,l.symm,g,rfl,.inr ⟨λi ds z=>(by cases z),rfl⟩⟩|fY i=>
      rw[jy]at h;split at h;.rename_i b d q;obtain⟨r,g,l⟩:=map_some h;exact⟨_,r,c,l.symm,g,.inl ⟨b,d,q,rfl⟩,.inr ⟨λ_ _ _ z=>(by cases z),rfl⟩⟩
      . rename_i b ds q;split at h;.cases h
        .rename_i o;obtain⟨r,g,l⟩:=map_some h;exact⟨_,r,_,l.symm,g,.inr (.inl ⟨b,ds,q,rfl⟩),.inl ⟨i,_,rfl,rfl,rfl,by simpa using o⟩⟩
      . rename_i ds q;split at h;.cases h
        .rename_i o;obtain⟨r,g,l⟩:=map_some h;exact⟨_,r,_,l.symm,g,.inr (.inr ⟨ds,q,rfl⟩),.inl ⟨i,_,rfl,rfl,rfl,by simpa using o⟩⟩
      .cases h
   obtain⟨s0,r,u,rfl,hr,A,o⟩:=key;obtain⟨M,l2,B,N⟩:=sS hr;have sub:∀i,i∉u->i∉c:=λi hi J=>by
    rcases o with⟨_,_,_,_,rfl,_⟩|⟨_,rfl⟩;.exact hi (mem_cons_of_mem _ J)
    .exact hi J
   refine⟨by simp[M],λj b s h1 f=>?_,λj i s ds h1 f p=>?_,λj k i s t ds es h1 f p y C E=>?_⟩;.cases j with|zero=>simp at h1 f;subst h1;subst f;exact A|succ j=>exact l2 j b s (by simpa using h1) (by simpa using f)
   .cases j with|zero=>
       simp at h1 f;subst h1;subst f;rcases o with⟨L,_,e,_,_,m⟩|⟨m,_⟩;.cases e;exact m
       .exact absurd p (m i ds rfl)|succ j=>exact sub i (B j i s ds (by simpa using h1) (by simpa using f) p)
   . have O:∀(k:Nat)(t:Sl)es,a=.fY i->lst? s0=some ds->(as[k]?=some (.fY i))->r[k]?=some t->lst? t=some es->False:=λk t es w G I ht he=>by
      rcases o with⟨L,_,e,_,rfl,m⟩|⟨m,_⟩;.rw[w]at e;cases e;exact B k i t es I ht he mem_cons_self
      .exact m i ds w G
     have Q:∀(k:Nat)(t:Sl)es,a=.fY i->lst? s0=some es->(as[k]?=some (.fY i))->r[k]?=some t->lst? t=some ds->False:=λk t es w G I ht he=>by
      rcases o with⟨L,_,e,_,rfl,m⟩|⟨m,_⟩;.rw[w]at e;cases e;exact B k i t ds I ht he mem_cons_self
      .exact m i es w G
     cases j with
     |zero=>cases k with|zero=>rfl|succ k=>simp at h1 p;subst p;exact(O k t es h1 C (by simpa using f) (by simpa using y) E).elim
     |succ j=>cases k with|zero=>simp at f y;subst y;exact(Q j s es f E (by simpa using h1) (by simpa using p) C).elim|succ k=>rw[N j k i s t ds es (by simpa using h1) (by simpa using f) (by simpa using p) (by simpa using y) C E]
theorem yL.get(A:yL K F ρ σ H ρ₀ H₀ as vs){args:List Sl}{j:Nat}{s:Sl}(c:args.length=as.length)(h:args[j]?=some s):∃a v,as[j]?=some a/\vs[j]?=some v/\Bg K F ρ σ H ρ₀ H₀ v a:=by
 have e:j<args.length:=(eV h).1;have h1:j<as.length:=by omega
 have b:j<vs.length:=by rw[<-A.len];exact h1
 exact⟨as[j],vs[j],by simp[h1],by simp[b],A.one j _ _ (by simp[h1]) (by simp[b])⟩
theorem args_gs{args:List Sl}(g:GS K F ρ σ H)(A:yL K F ρ σ H ρ₀ H₀ as vs)(h:bW ρ as []=some args):GS K F args (vs.map some) H:=by
 obtain⟨I,l2,l3,X⟩:=sS h;have M:∀{j:Nat}{v:V},vs[j]?=some v->(vs.map some)[j]?=some (some v):=λe=>by rw[getElem?_map,e];rfl
 have dn:∀{j:Nat}{v:V},(vs.map some)[j]?=some (some v)->vs[j]?=some v:=λ{j v}e=>by rw[getElem?_map]at e;cases q:vs[j]?with|none=>rw[q]at e;cases e|some w=>rw[q]at e;cases e;rfl
 refine⟨g.sub,by rw[I,A.len,length_map],λj b d e=>?_,λj s ds e J=>?_,λj k x⟨⟨s,ds,e1,e2⟩,N⟩⟨⟨t,es,f1,f2⟩,f3⟩=>?_⟩;.obtain⟨a,v,h1,u,m⟩:=A.get I e;have B:=l2 j a _ h1 e;refine⟨v,M u,?_⟩;cases a with|dat d'=>cases B;exact m|tmp ds=>cases B|fY i=>
     rcases B with⟨b',d',r,c⟩|⟨_,_,_,c⟩|⟨_,_,c⟩;.cases c;obtain⟨w,f,p⟩:=g.val i b' d r;have m:σ[i]?=some (some v):=m;rw[m]at f;cases f;exact p
     .cases c
     .cases c
 .obtain⟨a,v,h1,u,m⟩:=A.get I e;have B:=l2 j a _ h1 e;cases a with|dat d'=>cases B;cases J|tmp es=>cases B;cases J;obtain⟨x,xs,rfl,c,f,p,_⟩:=m;exact⟨x,_,M u,c,f,xs,rfl,p⟩|fY i=>
     have m:σ[i]?=some (some v):=m;rcases B with⟨b',d',r,c⟩|⟨b',es,r,c⟩|⟨es,r,c⟩;.cases c;cases J
     .cases c;cases J;obtain⟨x,xs,f,p⟩:=g.own i _ _ r rfl;rw[m]at f;cases f;exact⟨x,xs,M u,p⟩
     .cases c;cases J;obtain⟨x,xs,f,p⟩:=g.own i _ _ r rfl;rw[m]at f;cases f;exact⟨x,xs,M u,p⟩
 . obtain⟨a,v,h1,u,m⟩:=A.get I e1;obtain⟨O,v',C,L,E⟩:=A.get I f1;have N:=dn N;have f3:=dn f3;rw[u]at N;cases N;rw[L]at f3;cases f3;have s1:=l2 j a _ h1 e1;have s2:=l2 k O _ C f1;have nm:∀{i:Nat}{s:Sl}{ds:Oc},lst? s=some ds->JG ρ (.fY i) s->∃G o,ρ[i]?=some G/\lst? G=some o:=λ{i s ds}l z=>by
    rcases z with⟨_,_,_,z⟩|⟨b,es,q,_⟩|⟨es,q,_⟩;.subst z;cases l
    .exact⟨_,_,q,rfl⟩
    .exact⟨_,_,q,rfl⟩
   cases a with
   |dat d=>cases s1;cases e2|tmp Y=>cases O with|dat d=>cases s2;cases f2|tmp W=>exact A.dis j k Y W x h1 C u L|fY i=>obtain⟨y,_,r,_,_,_,c,_⟩:=m;cases r;obtain⟨G,o,f,p⟩:=nm f2 s2;exact absurd ⟨i,⟨G,o,f,p⟩,E⟩ c
   |fY i=>obtain⟨G,o,f,p⟩:=nm e2 s1;cases O with|dat d=>cases s2;cases f2|tmp W=>obtain⟨y,_,r,_,_,_,c,_⟩:=E;cases r;exact absurd ⟨i,⟨G,o,f,p⟩,m⟩ c|fY Z=>obtain⟨Q,U,q5,q6⟩:=nm f2 s2;have:=g.dis i Z x ⟨⟨G,o,f,p⟩,m⟩ ⟨⟨Q,U,q5,q6⟩,E⟩;subst this;exact X j k i s t ds es h1 C e1 f1 e2 f2
theorem pM{as:List Arg}{ss:List Sl}:∀(ρ:List Sl)(n i:Nat),(fC as ss n ρ)[i]?=(ρ[i]?).map λs=>dm s (aU (n+i) as ss)
 |[],n,i=>by simp[jE,gU]|s::ρ,n,0=>by simp[jE,gU]|s::ρ,n,i+1=>by
   rw[gU];simp only[List.getElem?_cons_succ];rw[pM ρ (n+1) i];have:n+1+i=n+(i+1):=by omega
   rw[this]
theorem pF{as:List Arg}{ss:List Sl}:∀(ρ:List Sl)(n:Nat),(fC as ss n ρ).length=ρ.length|[],n=>rfl|s::ρ,n=>by rw[gU];simp[pF ρ]
theorem jK{i:Nat}:∀{as:List Arg}{ss:List Sl}{t:Sl},aU i as ss=some t->∃j:Nat,as[j]?=some (.fY i)/\ss[j]?=some t
 |[],_,_,h=>by simp[aU]at h|a::as,[],_,h=>by cases a<;>simp[aU]at h|a::as,s::ss,t,h=>by
   have b:aU i as ss=some t->∃j:Nat,(a::as)[j]?=some (.fY i)/\(s::ss)[j]?=some t:=λh=>by obtain⟨j,h1,c⟩:=jK h;exact⟨j+1,by simpa using h1,by simpa using c⟩
   cases a with|dat d=>exact b (by simpa[aU]using h)|tmp d=>exact b (by simpa[aU]using h)|fY k=>
     rw[aU]at h;split at h;.rename_i e;cases h;subst e;exact⟨0,rfl,rfl⟩
     .exact b h
theorem mJ{i:Nat}:∀{as:List Arg}{ss:List Sl},as.length=ss.length->aU i as ss=none->∀j:Nat,as[j]?≠some (.fY i)
 |[],_,_,_=>λj h=>by simp at h|a::as,[],b,_=>by simp at b|a::as,s::ss,b,h=>λj c=>by
   have f:as.length=ss.length:=by simpa using b
   have g:aU i as ss=none/\a≠.fY i:=by cases a with|dat d=>exact⟨by simpa[aU]using h,by simp⟩|tmp d=>exact⟨by simpa[aU]using h,by simp⟩|fY k=>
      rw[aU]at h;split at h;.cases h
      .rename_i l;exact⟨h,λe=>l (by cases e;rfl)⟩
   cases j with|zero=>simp at c;exact g.2 c|succ j=>exact mJ f g.1 j (by simpa using c)
theorem uq{Q F' H':Hp}{args c:List Sl}{σ':_L.St}(s0:aC K Q ρ₀ σ H₀ F ρ σ H)(A:yL K F ρ σ H ρ₀ H₀ as vs)(hb:bW ρ as []=some args)(s:aC K F args (vs.map some) H F' c σ' H'):aC K Q ρ₀ σ H₀ F' (fC as c 0 ρ) σ H'/\∀v r,cV K F' c σ' H' args (vs.map some) H v r->cV K F' (fC as c 0 ρ) σ H' ρ₀ σ H₀ v r:=by
 have g:=s0.gs;obtain⟨M,l2,l3,l4⟩:=sS hb;have up:∀{j:Nat}{v:V},vs[j]?=some v->(vs.map some)[j]?=some (some v):=λe=>by rw[getElem?_map,e];rfl
 have dn:∀{j:Nat}{v:V},(vs.map some)[j]?=some (some v)->vs[j]?=some v:=λ{j v}e=>by rw[getElem?_map]at e;cases q:vs[j]?with|none=>rw[q]at e;cases e|some w=>rw[q]at e;cases e;rfl
 have la:as.length=c.length:=by rw[s.len,M]--whose are the lists that the callee holds
 have own:∀b,Own args (vs.map some) b->(∃(j:Nat)(ds:List D),as[j]?=some (Arg.tmp ds)/\vs[j]?=some (V.ref b)/\¬ Own ρ σ b/\(Own ρ₀ σ b\/H₀ b=none))\/Own ρ σ b:=λb⟨j,⟨sl,ds,E,U⟩,e3⟩=>by obtain⟨a,v,h1,C,J⟩:=A.get M E;have s1:=l2 j a _ h1 E;have e3:=dn e3;rw[C]at e3;cases e3;cases a with|dat d=>cases s1;cases U|tmp es=>obtain⟨x,_,k,_,_,_,f,N⟩:=J;cases k;exact .inl ⟨j,es,h1,C,f,N⟩|fY i=>
    right;rcases s1 with⟨_,_,_,z⟩|⟨b',es,q,_⟩|⟨es,q,_⟩;.subst z;cases U
    .exact⟨i,⟨_,_,q,rfl⟩,J⟩
    .exact⟨i,⟨_,_,q,rfl⟩,J⟩
 have back:∀b,Own ρ σ b\/H b=none->Own ρ₀ σ b\/H₀ b=none:=λb h=>by
  rcases h with h|h;.exact s0.xM b h
  . by_cases ho:Own ρ₀ σ b;.exact .inl ho
    .right;cases e:H₀ b with|none=>rfl|some o=>rw[s0.keep b o e ho]at h;cases h
 have L:∀b,Own args (vs.map some) b->Own ρ₀ σ b\/H₀ b=none:=λb h=>by
  rcases own b h with⟨_,_,_,_,_,z⟩|z;.exact z
  .exact back b (.inl z)--a name's slot behind the call
 have slot:∀{i:Nat}{t:Sl},(fC as c 0 ρ)[i]?=some t->∃s1,ρ[i]?=some s1/\t=dm s1 (aU i as c):=λ{i t}h=>by rw[pM]at h;obtain⟨s1,E,U⟩:=map_some h;exact⟨s1,E,by rw[<-U,zero_add]⟩
 have ac:∀{i:Nat}{s1:Sl},ρ[i]?=some s1->(fC as c 0 ρ)[i]?=some (dm s1 (aU i as c)):=λ{i s1}h=>by rw[pM,h,zero_add];rfl--what the callee left of a list that was lent to it
 have lent:∀{i j:Nat}{s1 t:Sl}{ds:List D},ρ[i]?=some s1->lst? s1=some (.l ds)->as[j]?=some (.fY i)->c[j]?=some t->∃v s2,σ[i]?=some (some v)/\σ'[j]?=some (some v)/\args[j]?=some s2/\oM s2 t/\((∃b,s1=.own b ds/\s2=.own true ds)\/(s1=.lent ds/\s2=.lent ds)):=λ{i j s1 t ds}h1 C J h4=>by
  have X:j<args.length:=by rw[M];exact(eV J).1
  have E:args[j]?=some args[j]:=by simp[X]
  obtain⟨a,v,k,f,N⟩:=A.get M E;rw[J]at k;cases k;have q4:=l2 j _ _ J E;have kind:(∃b,s1=.own b ds/\args[j]=.own true ds)\/(s1=.lent ds/\args[j]=.lent ds):=by
   rcases q4 with⟨_,_,z,_⟩|⟨b,es,z,z'⟩|⟨es,z,z'⟩;.rw[h1]at z;cases z;cases C
   .rw[h1]at z;cases z;cases C;exact .inl ⟨b,rfl,z'⟩
   .rw[h1]at z;cases z;cases C;exact .inr ⟨rfl,z'⟩
  have lk:uF args[j]=true:=by rcases kind with⟨_,_,z⟩|⟨_,z⟩<;>rw[z]<;>rfl
  obtain⟨u,s',y,z3⟩:=s.lk j _ E lk;rw[h4]at y;cases y;exact⟨v,_,N,by rw[u];exact up f,E,z3,kind⟩
 have Qx:∀{i:Nat}{x:Addr},aV (fC as c 0 ρ) σ i x->aV ρ σ i x:=λ{i x}⟨⟨t,ds,E,U⟩,e3⟩=>by obtain⟨s1,k,f⟩:=slot E;refine⟨?_,e3⟩;cases s1 with|aQ=>subst f;cases U|val b d=>subst f;cases U|own b es=>exact⟨_,_,k,rfl⟩|lent es=>exact⟨_,_,k,rfl⟩|iC m=>exact⟨_,_,k,rfl⟩|dC m=>exact⟨_,_,k,rfl⟩|hold _=>subst f;cases U
 refine⟨?_,λv r h=>?_⟩;rotate_left;.cases r with|val d=>exact h|own ds=>
     obtain⟨x,xs,h1,C,J,h4,h5,h6⟩:=h;refine⟨x,xs,h1,C,J,h4,λ⟨i,h⟩=>?_,?_⟩
     . have hO:=Qx h;obtain⟨⟨s1,Ww,k,f⟩,N⟩:=hO;obtain⟨x',ah,w1,w2,_⟩:=g.own i s1 Ww k f;rw[N]at w1;cases w1;rcases h6 with h6|h6
       . rcases own x h6 with⟨_,_,_,_,z,_⟩|_;.exact z ⟨i,⟨s1,Ww,k,f⟩,N⟩
         .--a name was lent
           obtain⟨j,⟨sl,es,Y,w4⟩,w5⟩:=h6;obtain⟨a',v',G,O,y3⟩:=A.get M Y;have sa:=l2 j a' _ G Y;have w5:=dn w5;rw[O]at w5;cases w5;cases a' with|dat d=>cases sa;cases w4|tmp ai=>obtain⟨_,_,u1,_,_,_,u2,_⟩:=y3;cases u1;exact u2 ⟨i,⟨s1,Ww,k,f⟩,N⟩|fY i'=>
             have ex:∃s' Z,ρ[i']?=some s'/\lst? s'=some Z:=by
              rcases sa with⟨_,_,_,z⟩|⟨b,es,q,_⟩|⟨es,q,_⟩;.subst z;cases w4
              .exact⟨_,_,q,rfl⟩
              .exact⟨_,_,q,rfl⟩
             have:=g.dis i i' x ⟨⟨s1,Ww,k,f⟩,N⟩ ⟨ex,y3⟩;subst this;have hk:∃Qw,Ww=.l Qw:=by
              rcases sa with⟨_,_,_,z⟩|⟨b,es,q,_⟩|⟨es,q,_⟩;.subst z;cases w4
              .rw[k]at q;cases q;cases f;exact⟨_,rfl⟩
              .rw[k]at q;cases q;cases f;exact⟨_,rfl⟩
             obtain⟨Qw,rfl⟩:=hk;have X:j<c.length:=by rw[<-la];exact(eV G).1
             have B:c[j]?=some c[j]:=by simp[X]
             obtain⟨v2,s2,u1,u2,u3,u4,u5⟩:=lent k f G B;rw[N]at u1;cases u1--the slot behind the call is a list's
             obtain⟨⟨t,dt,t1,t2⟩,_⟩:=h;obtain⟨s3,t3,t4⟩:=slot t1;rw[k]at t3;cases t3;have lo:∃t5,aU i as c=some t5:=by cases I:aU i as c with|none=>exact absurd G (mJ la I j)|some t5=>exact⟨t5,rfl⟩
             obtain⟨t5,I⟩:=lo;obtain⟨j2,t6,t7⟩:=jK I;have al:j2<args.length:=by rw[M];exact(eV t6).1
             obtain⟨_,s6,_,am,ae,ap,af⟩:=lent k f t6 t7;have ag:j2=j:=by
              have a1:lst? s6=some (.l Qw):=by rcases af with⟨_,_,z⟩|⟨_,z⟩<;>rw[z]<;>rfl
              have a2:lst? s2=some (.l Qw):=by rcases u5 with⟨_,_,z⟩|⟨_,z⟩<;>rw[z]<;>rfl
              exact l4 j2 j i s6 s2 _ _ t6 G ae u3 a1 a2
             subst ag;rw[B]at t7;cases t7;rw[I]at t4;refine h5 ⟨j2,?_,u2⟩;rcases u5 with⟨b,u,y⟩|⟨u,y⟩
             . subst u;subst y;rcases u4 with⟨d2,z⟩|⟨d2,z⟩;.exact⟨_,.l d2,B,by rw[z];rfl⟩
               .rw[z]at t4;subst t4;cases t2
             .subst u;subst y;exact⟨_,.l Qw,B,by rw[show c[j2]=.lent Qw from u4];rfl⟩
       .rw[w2]at h6;cases h6
     . rcases h6 with h6|h6;.exact L x h6
       .exact back x (.inr h6)
 refine⟨⟨s.gs.sub,by rw[pF];exact g.len,λi b d e=>?_,λi t ds e B=>?_,λi j x h1 C=>g.dis i j x (Qx h1) (Qx C)⟩,s0.cF.trans s.cF,λb n n'=>?_,λb o h n=>?_,λb⟨i,h⟩=>back b (.inl ⟨i,Qx h⟩),by rw[pF];exact s0.len,λi s1 h l=>?_⟩;.--data
   obtain⟨s1,k,f⟩:=slot e;cases s1 with|aQ=>cases f|lent es=>cases f|iC _=>cases f|dC _=>cases f|hold _=>cases f|val b' d'=>cases f;obtain⟨v,u,y⟩:=g.val i b d k;exact⟨v,u,y.mono s.cF⟩|own b' es=>cases I:aU i as c with|none=>rw[I]at f;cases f|some t=>rw[I]at f;obtain⟨j,u,y⟩:=jK I;obtain⟨v,s2,G,O,y3,y4,p⟩:=lent k rfl u y;cases t with|aQ=>cases f|own _ _=>cases f|lent _=>cases f|iC _=>cases f|dC _=>cases f|hold _=>cases f|val b2 d2=>cases f;obtain⟨w,W,x2⟩:=s.gs.val j b2 d y;rw[O]at W;cases W;exact⟨v,G,x2⟩
 .--lists
   obtain⟨s1,k,f⟩:=slot e--a list that was not lent
   have stay:∀es,lst? s1=some es->(∀j:Nat,as[j]?≠some (.fY i))->t=s1->∃(a:Addr)(xs:HO),σ[i]?=some (some (V.ref a))/\H' a=some xs/\F' a=none/\mG K F' xs ds:=λes he hn ht=>by
    subst ht;rw[he]at B;cases B;obtain⟨a,xs,u,y,z3,z4⟩:=g.own i _ ds k he;have no:¬ Own args (vs.map some) a:=λh=>by obtain⟨j,⟨sl,es,w1,w2⟩,Y⟩:=h;obtain⟨a',v,h1,C,J⟩:=A.get M w1;have sa:=l2 j a' _ h1 w1;have Y:=dn Y;rw[C]at Y;cases Y;cases a' with|dat d=>cases sa;cases w2|tmp es=>obtain⟨x,_,G,_,_,_,O,_⟩:=J;cases G;exact O ⟨i,⟨_,ds,k,he⟩,u⟩|fY i'=>
       have:∃s' Z,ρ[i']?=some s'/\lst? s'=some Z:=by
        rcases sa with⟨_,_,_,z⟩|⟨b,es,q,_⟩|⟨es,q,_⟩;.subst z;cases w2
        .exact⟨_,_,q,rfl⟩
        .exact⟨_,_,q,rfl⟩
       have:=g.dis i i' a ⟨⟨_,ds,k,he⟩,u⟩ ⟨this,J⟩;subst this;exact hn j h1
    refine⟨a,xs,u,s.keep a _ y no,?_,z4.mono s.cF⟩;cases q:F' a with|none=>rfl|some o=>
      rcases s.xK a z3 (by rw[q];simp)with z|z;.exact absurd z no
      .rw[y]at z;exact(Im z4 z).elim
   cases I:aU i as c with
   |none=>have hn:=mJ la I;rw[I]at f;cases s1 with|aQ=>subst f;cases B|val b' d'=>subst f;cases B|own b' es=>exact stay _ rfl hn f|lent es=>exact stay _ rfl hn f|iC m=>exact stay _ rfl hn f|dC m=>exact stay _ rfl hn f|hold _=>subst f;cases B
   |some t2=>rw[I]at f;obtain⟨j,u,y⟩:=jK I;cases s1 with
     |aQ=>subst f;cases B|val b' d'=>subst f;cases B|hold _=>subst f;cases B|iC m=>
       have X:j<args.length:=by rw[M];exact(eV u).1
       rcases l2 j _ _ u (show args[j]?=some args[j]by simp[X])with⟨_,_,z,_⟩|⟨_,_,z,_⟩|⟨_,z,_⟩<;>(rw[k]at z;cases z)|dC m=>
       have X:j<args.length:=by rw[M];exact(eV u).1
       rcases l2 j _ _ u (show args[j]?=some args[j]by simp[X])with⟨_,_,z,_⟩|⟨_,_,z,_⟩|⟨_,z,_⟩<;>(rw[k]at z;cases z)|own b' es=>
       obtain⟨v,s2,G,O,y3,y4,p⟩:=lent k rfl u y;have:t2≠.aQ/\∀x,t2≠.lent x:=by
        rcases p with⟨_,_,p⟩|⟨p,_⟩;.subst p;rcases y4 with⟨_,rfl⟩|⟨_,rfl⟩<;>simp
        .cases p
       cases t2 with
       |aQ=>exact absurd rfl this.1|hold x=>
         rcases p with⟨_,_,p⟩|⟨p,_⟩;.subst p;rcases y4 with⟨_,h⟩|⟨_,h⟩<;>cases h
         .cases p|iC x=>
         rcases p with⟨_,_,p⟩|⟨p,_⟩;.subst p;rcases y4 with⟨_,h⟩|⟨_,h⟩<;>cases h
         .cases p|dC x=>
         rcases p with⟨_,_,p⟩|⟨p,_⟩;.subst p;rcases y4 with⟨_,h⟩|⟨_,h⟩<;>cases h
         .cases p|lent x=>exact absurd rfl (this.2 x)|val b2 d2=>subst f;cases B|own b2 ar=>subst f;cases B;obtain⟨a,xs,W,x2⟩:=s.gs.own j _ _ y rfl;rw[O]at W;cases W;exact⟨a,xs,G,x2⟩
     |lent es=>
       obtain⟨v,s2,G,O,y3,y4,p⟩:=lent k rfl u y;have ht:t=.lent es:=by rw[f];cases t2<;>rfl
       subst ht;cases B;rcases p with⟨_,p,_⟩|⟨_,p⟩;.cases p
       .subst p;cases(show t2=.lent es from y4);obtain⟨a,xs,W,x2⟩:=s.gs.own j _ _ y rfl;rw[O]at W;cases W;exact⟨a,xs,G,x2⟩
 . by_cases q:F b=none
   . rcases s.xK b q n' with z|z;.exact(L b z).imp id lO
     . by_cases ho:Own ρ₀ σ b;.exact .inl ho
       .right;cases f:H₀ b with|none=>rfl|some o=>rw[s0.keep b o f ho]at z;exact z
   .exact s0.xK b n q
 . refine s.keep b o (s0.keep b o h n) λz=>?_;rcases L b z with z|z;.exact n z
   .rw[h]at z;cases z
 .obtain⟨E,s2,C,k2⟩:=s0.lk i s1 h l;refine⟨E,_,ac C,?_⟩;have Yp:=k2.uF l;refine oM.trans l k2 ?_;cases s2 with
   |aQ=>cases Yp|iC _=>cases Yp|dC _=>cases Yp|hold _=>exact oM.refl _|val b d=>exact oM.refl _|lent es=>cases aU i as c with|none=>rfl|some t=>cases t<;>rfl
   |own b es=>cases b with|false=>cases Yp|true=>cases aU i as c with|none=>exact .inl ⟨_,rfl⟩|some t=>cases t with|aQ=>exact .inl ⟨_,rfl⟩|lent _=>exact .inl ⟨_,rfl⟩|iC _=>exact .inl ⟨_,rfl⟩|dC _=>exact .inl ⟨_,rfl⟩|hold _=>exact .inl ⟨_,rfl⟩|own _ ds=>exact .inl ⟨_,rfl⟩|val _ d=>exact .inr ⟨_,rfl⟩
theorem yL.rebase{F1 g k l:Hp}{c f:List Sl}(a:aC K F ρ σ H F1 c σ g)(A:yL K k f σ l c g as vs):yL K k f σ l ρ H as vs:=by refine⟨A.len,λj b v h1 m=>?_,A.dis⟩;have h:=A.one j b v h1 m;cases b with|dat d=>exact h|fY i=>exact h|tmp ds=>
   obtain⟨x,xs,p,q,r,s,t,q6⟩:=h;refine⟨x,xs,p,q,r,s,t,?_⟩;rcases q6 with q6|q6;.exact a.xM x q6
   . by_cases ho:Own ρ σ x;.exact .inl ho
     .right;cases e:H x with|none=>rfl|some o=>rw[a.keep x o e ho]at q6;cases q6
theorem yL.Z1{F1 c e f:Hp}{a b:List Sl}{r:R}(s1:aC K F ρ σ H F1 a σ c)(g:cV K F1 a σ c ρ σ H v r)(s2:aC K F1 a σ c e b σ f)(A:yL K e b σ f a c as vs):yL K e b σ f ρ H (vf r::as) (v::vs):=by
 have h1:Bg K F1 a σ c ρ H v (vf r):=by cases r with|val d=>exact g|own ds=>exact g
 refine .cons (h1.later s2) (A.rebase s1) λds x m ev k es o j=>?_;cases r with|val d=>cases m|own p=>
   obtain⟨y,xs,l,q,u,w,s,B⟩:=g;rw[ev]at l;cases l;have h:=A.one k _ _ o j;obtain⟨z,C,t,_,_,_,_,w6⟩:=h;cases t;rcases w6 with w6|w6;.exact s w6
   .rw[q]at w6;cases w6
end
section
variable{K:PySem.W.Frag}{F F1 H H1:Hp}{ρ ρ1 ρ2:List Sl}{σ σ1:_L.St}
theorem uc{s:Sl}(h:put ρ i s=some ρ1):∃s0,ρ[i]?=some s0/\uF s0=false/\ρ1=ρ.set i s:=by
 unfold put at h;split at h;.rename_i q;cases h;exact⟨_,q,rfl,rfl⟩
 .rename_i q;cases h;exact⟨_,q,rfl,rfl⟩
 .rename_i q;cases h;exact⟨_,q,rfl,rfl⟩
 .cases h
theorem aC.put{r:R}(s:aC K F ρ σ H F1 ρ1 σ1 H1)(w:cV K F1 ρ1 σ1 H1 ρ σ H v r)(h:_H.put ρ1 i (Ba r)=some ρ2):aC K F ρ σ H F1 ρ2 (σ1.set i (some v)) H1:=by
 obtain⟨s0,h0,A,rfl⟩:=uc h;have hi:i<ρ1.length:=(eV h0).1;have m:i<σ1.length:=by rw[<-s.gs.len];exact hi
 have f:∀{j:Nat}{a:Addr},j≠i->aV (ρ1.set i (Ba r)) (σ1.set i (some v)) j a->aV ρ1 σ1 j a:=λ{j a}c⟨⟨t,ds,o,p⟩,g⟩=>by rw[fL c]at o g;exact⟨⟨t,ds,o,p⟩,g⟩
 have new:∀{a:Addr},aV (ρ1.set i (Ba r)) (σ1.set i (some v)) i a->¬ Own ρ1 σ1 a/\(Own ρ σ a\/H a=none):=λ{a}⟨⟨t,ds,o,p⟩,g⟩=>by rw[getElem?_set_self hi]at o;rw[getElem?_set_self m]at g;cases o;cases g;cases r with|val d=>cases p|own es=>obtain⟨x,xs,G,B,C,E,I,J⟩:=w;cases G;exact⟨I,J⟩
 refine⟨⟨s.gs.sub,by simp[s.gs.len],λj b d e=>?_,λj t ds e y=>?_,λj k a h1 z=>?_⟩,s.cF,s.xK,s.keep,λa⟨j,c⟩=>?_,by simp[s.len],λj t e l=>?_⟩
 . by_cases c:j=i;.subst c;rw[getElem?_set_self hi]at e;cases r with|own es=>cases e|val d'=>cases e;exact⟨v,getElem?_set_self m,w⟩
   .rw[fL c]at e ⊢;exact s.gs.val j b d e
 . by_cases c:j=i;.subst c;rw[getElem?_set_self hi]at e;cases r with|val d'=>cases e;cases y|own es=>cases e;cases y;obtain⟨x,xs,rfl,B,C,E,_⟩:=w;exact⟨x,_,getElem?_set_self m,B,C,xs,rfl,E⟩
   .rw[fL c]at e ⊢;exact s.gs.own j t ds e y
 . by_cases c:j=i
   . by_cases q:k=i;.rw[c,q]
     .subst c;exact absurd ⟨k,f q z⟩ (new h1).1
   . by_cases q:k=i;.subst q;exact absurd ⟨j,f c h1⟩ (new z).1
     .exact s.gs.dis j k a (f c h1) (f q z)
 . by_cases u:j=i;.subst u;exact(new c).2
   .exact s.xM a ⟨j,f u c⟩
 . obtain⟨o,t1,p,g⟩:=s.lk j t e l;have c:j≠i:=by rintro rfl;rw[h0]at p;cases p;rw[g.uF l]at A;cases A
   exact⟨by rw[fL c];exact o,t1,by rw[fL c];exact p,g⟩
theorem GS.mut{x:Nat}{b:Bool}{es:List D}{a:Addr}{ys:List V}(g:GS K F ρ σ H)(e:ρ[x]?=some (.own b ds))(p:σ[x]?=some (some (.ref a)))(r:aH K F ys es):aC K F ρ σ H F (ρ.set x (.own b es)) σ (upd H a (.lst ys)):=by
 have hi:x<ρ.length:=(eV e).1;have w:aV ρ σ x a:=⟨⟨_,_,e,rfl⟩,p⟩;obtain⟨I,xs,h1,J,y,L⟩:=g.uw x _ ds e rfl;rw[p]at h1;cases h1;have h:∀{j:Nat}{c:Addr},aV (ρ.set x (.own b es)) σ j c->aV ρ σ j c:=λ{j c}⟨⟨t,dt,m,s⟩,q3⟩=>by
  by_cases f:j=x;.subst f;exact⟨⟨_,_,e,rfl⟩,q3⟩
  .rw[fL f]at m;exact⟨⟨t,dt,m,s⟩,q3⟩
 refine⟨⟨λc o q=>?_,by simp[g.len],λj b' d q=>?_,λj t dt q u=>?_,λj k c m s=>g.dis j k c (h m) (h s)⟩,.refl _,λc n A=>absurd n A,λc o q n=>?_,λc⟨j,q⟩=>.inl ⟨j,h q⟩,by simp,λj t q l=>⟨rfl,?_⟩⟩
 . have:c≠a:=by rintro rfl;rw[y]at q;cases q
   rw[aB this];exact g.sub c o q
 . by_cases f:j=x;.subst f;rw[getElem?_set_self hi]at q;cases q
   .rw[fL f]at q;exact g.val j b' d q
 . by_cases f:j=x;.subst f;rw[getElem?_set_self hi]at q;cases q;cases u;exact⟨a,_,p,aL,y,ys,rfl,r⟩
   . rw[fL f]at q;obtain⟨c,B,z,C,E,G⟩:=g.own j t dt q u;have:c≠a:=by rintro rfl;exact f (g.dis j x c ⟨⟨t,dt,q,u⟩,z⟩ w)
     exact⟨c,B,z,by rw[aB this];exact C,E,G⟩
 . have:c≠a:=by rintro rfl;exact n ⟨x,w⟩
   rw[aB this];exact q
 . by_cases f:j=x;.subst f;rw[e]at q;cases q;refine⟨_,getElem?_set_self hi,?_⟩;cases b with|true=>exact .inl ⟨_,rfl⟩|false=>cases l
   .exact⟨t,by rw[fL f];exact q,.refl t⟩
theorem GS.lend{b:Bool}(g:GS K F ρ σ H)(e:ρ[i]?=some (.own b ds)):GS K F (ρ.set i (.lent ds)) σ H:=by
 have hi:i<ρ.length:=(eV e).1;have f:∀{j:Nat}{c:Addr},aV (ρ.set i (.lent ds)) σ j c->aV ρ σ j c:=λ{j c}⟨⟨t,dt,h,l⟩,q3⟩=>by
  by_cases a:j=i;.subst a;exact⟨⟨_,_,e,rfl⟩,q3⟩
  .rw[fL a]at h;exact⟨⟨t,dt,h,l⟩,q3⟩
 refine⟨g.sub,by simp[g.len],λj b' d q=>?_,λj t dt q m=>?_,λj k c h l=>g.dis j k c (f h) (f l)⟩
 . by_cases a:j=i;.subst a;rw[getElem?_set_self hi]at q;cases q
   .rw[fL a]at q;exact g.val j b' d q
 . by_cases a:j=i;.subst a;rw[getElem?_set_self hi]at q;cases q;cases m;exact g.own j _ _ e rfl
   .rw[fL a]at q;exact g.own j t dt q m
theorem aC.bB{b:Bool}(g:GS K F ρ σ H)(e:ρ[i]?=some (.own b ds))(s:aC K F (ρ.set i (.lent ds)) σ H F1 ρ1 σ1 H1):aC K F ρ σ H F1 (ρ1.set i (.own b ds)) σ1 H1/\∀v r,cV K F1 ρ1 σ1 H1 (ρ.set i (.lent ds)) σ H v r->cV K F1 (ρ1.set i (.own b ds)) σ1 H1 ρ σ H v r:=by
 have hi:i<ρ.length:=(eV e).1;have h1:(ρ.set i (.lent ds))[i]?=some (.lent ds):=getElem?_set_self hi;obtain⟨C,E,z,G⟩:=s.lk i _ h1 rfl;cases(show E=.lent ds from G);have u:i<ρ1.length:=(eV z).1;have A:∀{j:Nat}{c:Addr},aV (ρ.set i (.lent ds)) σ j c->aV ρ σ j c:=λ{j c}⟨⟨t,dt,f,p⟩,m⟩=>by
  by_cases a:j=i;.subst a;exact⟨⟨_,_,e,rfl⟩,m⟩
  .rw[fL a]at f;exact⟨⟨t,dt,f,p⟩,m⟩
 have I:∀{c:Addr},Own ρ σ c->Own (ρ.set i (.lent ds)) σ c:=λ{c}⟨j,⟨t,dt,f,p⟩,m⟩=>by
  by_cases a:j=i;.subst a;exact⟨j,⟨_,_,h1,rfl⟩,m⟩
  .exact⟨j,⟨t,dt,by rw[fL a];exact f,p⟩,m⟩
 have y:∀{j:Nat}{c:Addr},aV (ρ1.set i (.own b ds)) σ1 j c->aV ρ1 σ1 j c:=λ{j c}⟨⟨t,dt,f,p⟩,m⟩=>by
  by_cases a:j=i;.subst a;exact⟨⟨_,_,z,rfl⟩,m⟩
  .rw[fL a]at f;exact⟨⟨t,dt,f,p⟩,m⟩
 have w:∀{c:Addr}{h:Hp},Own (ρ.set i (.lent ds)) σ c\/h c=none->Own ρ σ c\/h c=none:=λ{c h}q=>q.imp (λ⟨j,q⟩=>⟨j,A q⟩) id;have J:∀{c:Addr}{h:Hp},Own (ρ.set i (.lent ds)) σ c\/nt (h c)=none->Own ρ σ c\/nt (h c)=none:=λ{c h}q=>q.imp (λ⟨j,q⟩=>⟨j,A q⟩) id;refine⟨⟨⟨s.gs.sub,by simp[s.gs.len],λj b' d q=>?_,λj t dt q B=>?_,λj k c f p=>s.gs.dis j k c (y f) (y p)⟩,s.cF,λc n L=>J (s.xK c n L),λc o q n=>s.keep c o q λ⟨j,x⟩=>n ⟨j,A x⟩,λc⟨j,q⟩=>w (s.xM c ⟨j,y q⟩),by simpa using s.len,λj t q l=>?_⟩,λv r h=>?_⟩
 . by_cases a:j=i;.subst a;rw[getElem?_set_self u]at q;cases q
   .rw[fL a]at q;exact s.gs.val j b' d q
 . by_cases a:j=i;.subst a;rw[getElem?_set_self u]at q;cases q;cases B;exact s.gs.own j _ _ z rfl
   .rw[fL a]at q;exact s.gs.own j t dt q B
 . by_cases a:j=i;.subst a;rw[e]at q;cases q;refine⟨C,_,getElem?_set_self u,?_⟩;cases b with|true=>exact .inl ⟨_,rfl⟩|false=>cases l
   .obtain⟨M,t',N,O⟩:=s.lk j t (by rw[fL a];exact q) l;exact⟨M,t',by rw[fL a];exact N,O⟩
 .cases r with|val d=>exact h|own es=>obtain⟨x,xs,f,p,m,Q,U,W⟩:=h;exact⟨x,xs,f,p,m,Q,λ⟨j,q⟩=>U ⟨j,y q⟩,w W⟩
theorem GS.give(g:GS K F ρ σ H)(e:ρ[i]?=some (.own false ds)):∃v,σ[i]?=some (some v)/\aC K F ρ σ H F (ρ.set i .aQ) σ H/\cV K F (ρ.set i .aQ) σ H ρ σ H v (.own ds):=by
 have hi:i<ρ.length:=(eV e).1;obtain⟨a,xs,h1,r,s,u⟩:=g.uw i _ ds e rfl;have f:∀{j:Nat}{c:Addr},aV (ρ.set i .aQ) σ j c->aV ρ σ j c/\j≠i:=λ{j c}⟨⟨t,dt,h,m⟩,q3⟩=>by
  by_cases b:j=i;.subst b;rw[getElem?_set_self hi]at h;cases h;cases m
  .rw[fL b]at h;exact⟨⟨⟨t,dt,h,m⟩,q3⟩,b⟩
 have o:aV ρ σ i a:=⟨⟨_,_,e,rfl⟩,h1⟩;refine⟨.ref a,h1,⟨⟨g.sub,by simp[g.len],λj b' d q=>?_,λj t dt q p=>?_,λj k c h m=>g.dis j k c (f h).1 (f m).1⟩,.refl _,λc n w=>absurd n w,λ_ _ q _=>q,λc⟨j,q⟩=>.inl ⟨j,(f q).1⟩,by simp,λj t q l=>⟨rfl,?_⟩⟩,a,xs,rfl,r,s,u,λ⟨j,q⟩=>?_,.inl ⟨i,o⟩⟩
 . by_cases b:j=i;.subst b;rw[getElem?_set_self hi]at q;cases q
   .rw[fL b]at q;exact g.val j b' d q
 . by_cases b:j=i;.subst b;rw[getElem?_set_self hi]at q;cases q;cases p
   .rw[fL b]at q;exact g.own j t dt q p
 . by_cases b:j=i;.subst b;rw[e]at q;cases q;cases l
   .exact⟨t,by rw[fL b];exact q,.refl t⟩
 .exact(f q).2 (g.dis j i a (f q).1 o)
theorem GS.more{τ:List (Option V)}(g:GS K F ρ σ H)(u:τ.length=n):GS K F (ρ++replicate n .aQ) (σ++τ) H:=by
 have get:∀{j:Nat}{t:Sl},(ρ++replicate n Sl.aQ)[j]?=some t->t≠.aQ->ρ[j]?=some t/\j<ρ.length:=λ{j t}q ne=>by
  by_cases h:j<ρ.length;.rw[getElem?_append_left h]at q;exact⟨q,h⟩
  . rw[getElem?_append_right (by omega),getElem?_replicate]at q;split at q;.cases q;exact absurd rfl ne
    .cases q
 have m:∀{j:Nat}{v:Option V},j<ρ.length->(σ[j]?=some v↔(σ++τ)[j]?=some v):=λ{j v}h=>by rw[getElem?_append_left (by rw[<-g.len];exact h)]
 have e:∀{j:Nat}{c:Addr},aV (ρ++replicate n .aQ) (σ++τ) j c->aV ρ σ j c:=λ{j c}⟨⟨t,dt,o,l⟩,q3⟩=>by obtain⟨h1,f⟩:=get o (by rintro rfl;cases l);exact⟨⟨t,dt,h1,l⟩,(m f).mpr q3⟩
 refine⟨g.sub,by simp[g.len,u],λj b d q=>?_,λj t dt q s=>?_,λj k c o l=>g.dis j k c (e o) (e l)⟩;.obtain⟨h1,f⟩:=get q (by simp);obtain⟨v,p,r⟩:=g.val j b d h1;exact⟨v,(m f).mp p,r⟩
 .obtain⟨h1,f⟩:=get q (by rintro rfl;cases s);obtain⟨a,xs,p,r⟩:=g.own j t dt h1 s;exact⟨a,xs,(m f).mp p,r⟩
theorem aC.less{τ:List (Option V)}{m:Nat}(L:m=ρ.length)(g:GS K F ρ σ H)(hn:τ.length=n)(s:aC K F (ρ++replicate n .aQ) (σ++τ) H F1 ρ1 σ1 H1):aC K F ρ σ H F1 (ρ1.take m) (σ1.take m) H1/\∀v r,cV K F1 ρ1 σ1 H1 (ρ++replicate n .aQ) (σ++τ) H v r->cV K F1 (ρ1.take m) (σ1.take m) H1 ρ σ H v r:=by
 subst L;have M:ρ.length<=ρ1.length:=by rw[s.len];simp
 have l2:ρ.length<=σ1.length:=by rw[<-s.gs.len];exact M
 have z:∀{y:Type}{l:List y}{j:Nat}{x:y},(l.take ρ.length)[j]?=some x->l[j]?=some x/\j<ρ.length:=λ{y l j x}q=>by
  rw[List.getElem?_take]at q;split at q;.exact⟨q,by assumption⟩
  .cases q
 have B:∀{y:Type}{l:List y}{j:Nat}{x:y},j<ρ.length->l[j]?=some x->(l.take ρ.length)[j]?=some x:=λ{y l j x}f q=>by rw[List.getElem?_take,if_pos f];exact q
 have C:∀{c:Addr},Own (ρ++replicate n .aQ) (σ++τ) c->Own ρ σ c:=λ{c}⟨j,⟨t,dt,e,p⟩,u⟩=>by
  by_cases f:j<ρ.length;.rw[getElem?_append_left f]at e;rw[getElem?_append_left (by rw[<-g.len];exact f)]at u;exact⟨j,⟨t,dt,e,p⟩,u⟩
  . rw[getElem?_append_right (by omega),getElem?_replicate]at e;split at e;.cases e;cases p
    .cases e
 have N:∀{c:Addr},Own ρ σ c->Own (ρ++replicate n .aQ) (σ++τ) c:=λ{c}⟨j,⟨t,dt,e,p⟩,u⟩=>by have f:j<ρ.length:=(eV e).1;exact⟨j,⟨t,dt,by rw[getElem?_append_left f];exact e,p⟩,by rw[getElem?_append_left (by rw[<-g.len];exact f)];exact u⟩
 have A:∀{j:Nat}{c:Addr},aV (ρ1.take ρ.length) (σ1.take ρ.length) j c->aV ρ1 σ1 j c:=λ{j c}⟨⟨t,dt,e,p⟩,u⟩=>⟨⟨t,dt,(z e).1,p⟩,(z u).1⟩;have w:∀{c:Addr}{h:Hp},Own (ρ++replicate n .aQ) (σ++τ) c\/h c=none->Own ρ σ c\/h c=none:=λ{c h}q=>q.imp C id;have O:∀{c:Addr}{h:Hp},Own (ρ++replicate n .aQ) (σ++τ) c\/nt (h c)=none->Own ρ σ c\/nt (h c)=none:=λ{c h}q=>q.imp C id;refine⟨⟨⟨s.gs.sub,by simp only[length_take];omega,λj b d q=>?_,λj t dt q Q=>?_,λj k c e p=>s.gs.dis j k c (A e) (A p)⟩,s.cF,λc a b=>O (s.xK c a b),λc o q n=>s.keep c o q λx=>n (C x),λc⟨j,q⟩=>w (s.xM c ⟨j,A q⟩),by simp only[length_take];omega,λj t q l=>?_⟩,λv r h=>?_⟩;.obtain⟨h1,E⟩:=z q;obtain⟨v,G,I⟩:=s.gs.val j b d h1;exact⟨v,B E G,I⟩
 .obtain⟨h1,E⟩:=z q;obtain⟨a,xs,G,I⟩:=s.gs.own j t dt h1 Q;exact⟨a,xs,B E G,I⟩
 .have f:j<ρ.length:=(eV q).1;obtain⟨J,t',U,W⟩:=s.lk j t (by rw[getElem?_append_left f];exact q) l;rw[getElem?_append_left (by rw[<-g.len];exact f)]at J;refine⟨?_,t',B f U,W⟩;rw[List.getElem?_take,if_pos f];exact J
 .cases r with|val d=>exact h|own es=>obtain⟨x,xs,e,p,u,X,Y,Z⟩:=h;exact⟨x,xs,e,p,u,X,λ⟨j,q⟩=>Y ⟨j,A q⟩,w Z⟩
end
section
variable{X:Cx}{c:Call}{n:Nat}{e a b d:Expr}{p pa pb pd:P}{pos:Pos}{es:List Expr}{ps:List P}
inductive afB(K:PySem.W.Frag)(f:List Sl->Res (List Arg))(σ:_L.St)(H:Hp)(Q:List V->Hp->Prop):Prop where|mk(F:Hp)(ρ:List Sl)(as:List Arg)(ρ':List Sl)(g:GS K F ρ σ H)(e:f ρ=.ok as ρ')(k:∀vs F' H',aC K F ρ σ H F' ρ' σ H'->yL K F' ρ' σ H' ρ H as vs->Q vs H')
noncomputable def SG(X:Cx)(c:Call)(es:List Expr)(ps:List P):Prop:=PA X es (afB X.K (zE c ps))
theorem az:SG X c [] []:=nM cZ λσ H Q⟨F,ρ,as,ρ',g,e,k⟩=>by rw[Ag]at e;cases e;exact k [] F H (.refl g) .nil
theorem O4(q:SX X c a pa)(hr:SG X c es ps)(hs:starEach (a::es) X.env=(false,eval a X.env)::starEach es X.env:=by rfl):SG X c (a::es) (pa::ps):=by cases hv:isVar pa with|none=>refine nM (bz q.ev hr hs) ?_;rintro σ H Q⟨F,ρ,as,ρ',g,e,k⟩;rw[vW,hv]at e;obtain⟨r,f,s,e⟩:=aj e;obtain⟨xs,h,j,e⟩:=aj e;cases e;refine⟨F,ρ,r,f,g,s,λv F1 B s1 t=>⟨F1,f,xs,_,s1.gs,j,λvs l m s2 A=>k _ l m (s1.trans s2) (yL.Z1 s1 t s2 A)⟩⟩|some i=>refine nM (bz (q.var i hv) hr hs) ?_;rintro σ H Q⟨F,ρ,as,ρ',g,e,k⟩;rw[vW,hv]at e;obtain⟨x0,u,w,e⟩:=aj e;obtain⟨o,y⟩:=aD w;subst y;obtain⟨xs,h,j,e⟩:=aj e;cases e;obtain⟨v,h1,_⟩:=g.pk o;exact⟨v,h1,F,ρ,xs,_,g,j,λvs l m s2 A=>k _ l m s2 (.cons h1 A λds x z=>by cases z)⟩
theorem Nv{k f:Nat}{t:Addr}{fd:FuncData}{j:List Str}(J:iT X.prog X.w X.K X.mg X.base Jv k t fd j (Ql X.K j.length (c f)))(hr:gM k X.A)(L:Gl X x)(M:X.mg x=some (.ref t))(N:keepIn X.K (.ref t)=true)(O:Binds X.K fd j [])(U:SG X c (e::es) ps)(W:(e::es).length=j.length)(u:(x==("__debug__":Str))=false:=by decide)(he:starEach (e::es) X.env=(false,eval e X.env)::starEach es X.env:=by rfl)(hpl:(backTo pos (starEach es X.env)).any (·.1)=false:=by rfl)(y:ps.length=(e::es).length:=by rfl):SX X c (.Call (.Name x p') (e::es) [] pos) (.call f ps):=by
 refine⟨cP (qR (E:=E0) J hr L M N O .nil QG U u he hpl) ?_,λi h=>by cases h⟩;rintro σ H Q⟨F,ρ,r,ρ',g,e,k⟩;rw[_H.E16]at e;obtain⟨as,z,G,e⟩:=aj e;unfold jL at e;split at e;.cases e
 . rename_i args m;split at e
   . rename_i r' l hc;cases e;refine⟨F,ρ,as,z,g,G,λvs F1 Y s1 A=>?_⟩;have o:vs.length=j.length:=by
      have:∀{ps:List P}{ρ ρ':List Sl}{as:List Arg},zE c ps ρ=.ok as ρ'->as.length=ps.length:=by intro ps;induction ps with|nil=>intro ρ ρ' as h;rw[Ag]at h;cases h;rfl|cons q j I=>
         intro ρ ρ' as h;rw[vW]at h;split at h;.obtain⟨_,_,_,h⟩:=aj h;obtain⟨xs,B,C,h⟩:=aj h;cases h;simp[I C]
         .obtain⟨_,_,_,h⟩:=aj h;obtain⟨xs,B,C,h⟩:=aj h;cases h;simp[I C]
      rw[<-A.len,this G,y,W]
     show Ql X.K j.length (c f) (vs++[]) Y Q E0;rw[append_nil];refine⟨o,F1,args,r,l,args_gs s1.gs A m,hc,λv F' σ' H' s Z=>?_⟩;obtain⟨z1,z2⟩:=uq s1 A m s;exact k v F' H' z1 (z2 v r Z)
   .cases e
   .cases e
noncomputable def JS(K:PySem.W.Frag)(D:Ends)(F':Hp)(ρ':List Sl)(σ':_L.St)(H':Hp)(ρ:List Sl)(σ:_L.St)(H:Hp)(fl:Fl):Prop:=match fl with|.next=>D.nx σ' H'|.brk=>D.bk σ' H'|.cont=>D.ct σ' H'|.ret r=>∀v,cV K F' ρ' σ' H' ρ σ H v r->D.rt v H'
inductive tEx(K:PySem.W.Frag)(f:List Sl->Res Fl)(D:Ends)(σ:_L.St)(H:Hp):Prop where|mk(F:Hp)(ρ:List Sl)(fl:Fl)(ρ':List Sl)(g:GS K F ρ σ H)(e:f ρ=.ok fl ρ')(k:∀F' σ' H',aC K F ρ σ H F' ρ' σ' H'->JS K D F' ρ' σ' H' ρ σ H fl)
noncomputable def SS(X:Cx)(c:Call)(n:Nat)(st:Stmt)(s:S):Prop:=PS X st (tEx X.K (ex c n s))
noncomputable def SB(X:Cx)(c:Call)(n:Nat)(st:List Stmt)(s:List S):Prop:=o8 X st (tEx X.K (eO c n s))
theorem cz{st:Stmt}{t t':TS}(h:PS X st t)(i:∀D σ H,t' D σ H->t D σ H):PS X st t':=λf s σ H D I q=>h f s σ H D I (i D σ H q)
theorem jJ{st:List Stmt}{t t':TS}(h:o8 X st t)(i:∀D σ H,t' D σ H->t D σ H):o8 X st t':=λf s σ H D I q=>h f s σ H D I (i D σ H q)
theorem xs0{c:Call}:eO c n [] ρ=.ok .next ρ:=rfl
theorem QF{c:Call}{s:S}{r:List S}:eO c n (s::r) ρ=(ex c n s ρ).bind λfl ρ=>match fl with|.next=>eO c n r ρ|fl=>.ok fl ρ:=rfl
theorem aq:SB X c n [] []:=jJ wJ λD σ H⟨F,ρ,fl,ρ',g,e,k⟩=>by rw[xs0]at e;cases e;exact k F σ H (.refl g)
theorem aP{st:Stmt}{s:S}{f:List Stmt}{ss:List S}(h1:SS X c n st s)(m:SB X c n f ss):SB X c n (st::f) (s::ss):=by refine jJ (je h1 m) ?_;rintro D σ H⟨F,ρ,fl,ρ',g,e,k⟩;rw[QF]at e;obtain⟨f1,h,j,e⟩:=aj e;cases f1 with
 |next=>refine⟨F,ρ,.next,h,g,j,λF1 o y s1=>⟨F1,h,fl,ρ',s1.gs,e,λt l u s2=>?_⟩⟩;have q:=k t l u (s1.trans s2);cases fl with|next=>exact q|brk=>exact q|cont=>exact q|ret r=>exact λv w=>q v (w.later s1)
 |brk=>cases e;exact⟨F,ρ,.brk,_,g,j,k⟩|cont=>cases e;exact⟨F,ρ,.cont,_,g,j,k⟩|ret r=>cases e;exact⟨F,ρ,.ret r,_,g,j,k⟩
theorem Iu{st:Stmt}:SS X c n st .bad:=cz sE λD σ H⟨F,ρ,fl,ρ',g,e,k⟩=>by rw[_H.X4]at e;cases e
theorem gJ(he:SX X c e p)(hs:swapsWith e none pos.line X.env=pure false:=by rfl):SS X c n (.Expr e pos) (.expr p):=by refine cz (nZ he.ev hs) ?_;rintro D σ H⟨F,ρ,fl,ρ',g,e,k⟩;rw[_H.X5]at e;obtain⟨r,f,h,e⟩:=aj e;cases e;exact⟨F,ρ,r,_,g,h,λv F1 j s1 l=>k F1 σ j s1⟩
theorem aag{t1 g:TE}(h1:PE X e t1)(j:PE X e g):PE X e (λσ H Q=>t1 σ H Q\/g σ H Q):=λf s σ H Q I h=>h.elim (h1 f s σ H Q I) (j f s σ H Q I)
theorem Vo(he:SX X c e p):SS X c n (.Return (some e) pos) (.ret p):=by
 have plain:∀(D:Ends)(σ:_L.St)(H:Hp),(∃F ρ fl ρ',GS X.K F ρ σ H/\((_H.ev c p ρ).bind λr ρ=>.ok (Fl.ret r) ρ)=.ok fl ρ'/\∀F' σ' H',aC X.K F ρ σ H F' ρ' σ' H'->(match fl with|.next=>D.nx σ' H'|.brk=>D.bk σ' H'|.cont=>D.ct σ' H'|.ret r=>∀v,cV X.K F' ρ' σ' H' ρ σ H v r->D.rt v H'))->zf X.K (_H.ev c p) σ H D.rt:=λD σ H⟨F,ρ,fl,ρ',g,e,k⟩=>by obtain⟨r,f,h,e⟩:=aj e;cases e;exact⟨F,ρ,r,_,g,h,λv F1 j s1 l=>k F1 σ j s1 v l⟩
 cases hv:isVar p with|none=>refine cz (xg he.ev) λD σ H⟨F,ρ,fl,ρ',g,e,k⟩=>plain D σ H ⟨F,ρ,fl,ρ',g,?_,k⟩;rw[_H.X11,hv]at e;exact e|some i=>--by the name itself:its own list is handed back,else its data
   have m:p=.var i:=by cases p<;>cases hv;rfl
   subst m;refine cz (xg (aag (he.var i hv) he.ev)) ?_;rintro D σ H⟨F,ρ,fl,ρ',g,e,k⟩;rw[_H.X11,hv]at e;dsimp only at e;split at e;.rename_i ds q;cases e;obtain⟨v,h1,o,s⟩:=g.give q;exact .inl ⟨v,h1,k F σ H o v s⟩
   .exact .inr (plain D σ H ⟨F,ρ,fl,ρ',g,e,k⟩)
theorem dN{m o:List Stmt}{s t:List S}(hc:ST X c e p)(u:SB X c n m s)(w:SB X c n o t):SS X c n (.If e m o pos) (.ifs p s t):=by refine cz (Ig hc u w) ?_;rintro D σ H⟨F,ρ,fl,ρ',g,e,k⟩;rw[_H.X13]at e;obtain⟨x,j,y,e⟩:=aj e;refine⟨F,ρ,x,j,g,y,λF1 z s1=>?_⟩;have go:∀{f:List Sl->Res Fl},f j=.ok fl ρ'->tEx X.K f D σ z:=λ{f}h=>⟨F1,j,fl,ρ',s1.gs,h,λA l B s2=>by have q:=k A l B (s1.trans s2);cases fl with|next=>exact q|brk=>exact q|cont=>exact q|ret r=>exact λv C=>q v (C.later s1)⟩;cases x with|true=>rw[if_pos rfl]at e;exact go e|false=>rw[if_neg Bool.false_ne_true]at e;exact go e
theorem pH{f:Pos}(l:X.N.Nodup)(hi:X.N[i]?=some x)(m:Loc X.env.scope x)(he:SX X c e p)(hs:swapsWith e (some (.Name x f)) pos.line X.env=pure false:=by rfl)(o:X.fn x=true\/X.env.scope.names.lookup x=some .local:=by first|(left;rfl)|(right;rfl)|assumption):SS X c n (.Assign [.Name x f] e pos) (.asg i p):=by refine cz (mV l hi m he.ev hs o) ?_;rintro D σ H⟨F,ρ,fl,ρ',g,e,k⟩;rw[_H.X6]at e;obtain⟨r,j,q,e⟩:=aj e;obtain⟨s,t,h,e⟩:=aj e;cases e;have u:=aD h;clear h;obtain⟨h,z⟩:=u;exact⟨F,ρ,r,j,g,q,λv F1 w s1 y=>k F1 _ w (s1.put y h)⟩
end
end _H
namespace _L
open PySem Spec PyProof.Rows
variable{env:Env}{scope:Scope}{X:Cx}
noncomputable def uQ(X:Cx)(scope:Scope)(N':List Str)(cl:List (Str×Addr))(C:Addr)(s₀:Shared)(H₀:Hp)(ex:List Addr):Cx:={X with N:=N',s₀:=s₀,H₀:=H₀,env:=compEnvC scope cl C X.env,outer:=X.stack,stack:=X.stack,ex:=ex,fn:=λx=>scope.names.lookup x==some .cell,pn:=[],xe:=λ_ _=>False}
theorem zY(l:List (Str×NameKind)):∀(cs:List (Str×Addr)),(∀n,(n,NameKind.free)∈l->∃c,env.cells.lookup n=some c)->(∀n c,cs.lookup n=some c->env.cells.lookup n=some c)->∃ cl,(forIn l cs (λ(x:Str × NameKind)(r:List (Str × Addr))=>(if(x.2==NameKind.free)=true then(do let a<-cellOf env x.1;pure (ForInStep.yield ((x.1,a)::r)))else pure (ForInStep.yield r):Sem (ForInStep (List (Str × Addr))))):Sem (List (Str × Addr)))=pure cl/\(∀n c,cl.lookup n=some c->env.cells.lookup n=some c)/\(∀n,((n,NameKind.free)∈l\/(cs.lookup n).isSome)->(cl.lookup n).isSome):=by induction l with|nil=>intro cs _ h;exact⟨cs,rfl,h,λn hn=>by rcases hn with hn|hn;cases hn;exact hn⟩|cons y l i=>
   obtain⟨n,k⟩:=y;intro cs b hc;rw[List.forIn_cons];by_cases f:k=.free
   . subst f;obtain⟨a,j⟩:=b n mem_cons_self;obtain⟨cl,e,h1,g⟩:=i ((n,a)::cs) (λm hm=>b m (mem_cons_of_mem _ hm)) λm c hm=>by
      rw[lookup_cons]at hm;split at hm;.rename_i q;have q:=eq_of_beq q;subst q;cases hm;exact j
      .exact hc m c hm
     refine⟨cl,?_,h1,λm hm=>g m ?_⟩
     . rw[<-e];have:cellOf env n=pure a:=by unfold cellOf;rw[j]
       simp only[beq_self_eq_true,if_true,this];rfl
     . rcases hm with hm|hm
       . rcases mem_cons.mp hm with hm|hm;.cases hm;right;simp[lookup_cons]
         .exact .inl hm
       . right;rw[lookup_cons];split;.rfl
         .exact hm
   . obtain⟨cl,e,h1,g⟩:=i cs (λm hm=>b m (mem_cons_of_mem _ hm)) hc;refine⟨cl,?_,h1,λm hm=>g m ?_⟩
     . rw[<-e];have:(k==NameKind.free)=false:=by simpa using f
       simp only[this,false_eq_true,if_false];rfl
     . rcases hm with hm|hm
       . rcases mem_cons.mp hm with hm|hm;.cases hm;exact absurd rfl f
         .exact .inl hm
       .exact .inr hm
theorem zT(a:∀n,(n,NameKind.free)∈scope.names->∃c,env.cells.lookup n=some c):∃cl,closureFor scope env=pure cl/\(∀n c,cl.lookup n=some c->env.cells.lookup n=some c)/\∀n,(n,NameKind.free)∈scope.names->(cl.lookup n).isSome:=by obtain⟨cl,e,h1,b⟩:=zY (env:=env) scope.names [] a (by simp);refine⟨cl,?_,h1,λn f=>b n (.inl f)⟩;unfold closureFor;exact(congrArg (λt=>t>>=λr=>pure r) e).trans rfl
theorem fG{env:Env}:∀(names:List (Str×NameKind))(x:Str),(names.map λ(n,k)=>if(k==NameKind.free&&env.scope.kind==.function&&env.kindOf n==some .cell)then(n,NameKind.cell)else(n,k)).lookup x=(names.lookup x).map λk=>if(k==NameKind.free&&env.scope.kind==.function&&env.kindOf x==some .cell)=true then NameKind.cell else k
 |[],x=>rfl|(n,k)::r,x=>by
   have a:=fG (env:=env) r x;show List.lookup x ((if(k==NameKind.free&&env.scope.kind==.function&&env.kindOf n==some .cell)=true then(n,NameKind.cell)else(n,k))::_)=_;by_cases hc:(k==NameKind.free&&env.scope.kind==.function&&env.kindOf n==some .cell)=true;.rw[if_pos hc,lookup_cons,lookup_cons];cases hx:x==n with|true=>have:=eq_of_beq hx;subst this;show some NameKind.cell=some (if _ then _ else _);rw[if_pos hc]|false=>exact a
   .rw[if_neg hc,lookup_cons,lookup_cons];cases hx:x==n with|true=>have:=eq_of_beq hx;subst this;show some k=some (if _ then _ else _);rw[if_neg hc]|false=>exact a
noncomputable def ZF(N N':List Str)(a:Scope):Bool:=(N.zip N').all λp=>(p.1==p.2&&a.names.lookup p.2==some .free)||(a.names.lookup p.2!=some .local&&a.names.lookup p.2!=some .cell&&a.names.lookup p.2!=some .free)
structure gA(X:Cx)(scope:Scope)(N':List Str)(n:Nat):Prop where
 kind:scope.kind=.function
 cons:∀y∈scope.names,scope.names.lookup y.1=some y.2
 names:∀y∈scope.names,y.2=.local->scope.names.lookup y.1=some .local
 cap:∀y∈scope.names,y.2=.free->X.env.scope.names.lookup y.1=some .cell\/X.env.scope.names.lookup y.1=some .free
 len:N'.length=X.N.length+n
 same:ZF X.N N' scope=true
theorem gA.get{N':List Str}{n:Nat}(c:gA X scope N' n){i:Nat}{x:Str}(hi:i<X.N.length)(h:N'[i]?=some x)(a:vC (relabel scope X.env) x):X.N[i]?=some x/\scope.names.lookup x=some .free:=by
 have hz:(X.N.zip N')[i]?=some (X.N[i],x):=by rw[List.getElem?_zip_eq_some];exact⟨by simp[hi],h⟩
 have:=(all_eq_true.mp c.same) _ (mem_of_getElem? hz);simp only[or_eq_true,and_eq_true]at this;rcases this with⟨h1,b⟩|⟨⟨h1,b⟩,f⟩;.have h1:=eq_of_beq h1;have b:=eq_of_beq b;exact⟨by simp[hi,h1],b⟩
 . exfalso;have h1:scope.names.lookup x≠some .local:=by simpa using h1
   have b:scope.names.lookup x≠some .cell:=by simpa using b
   have f:scope.names.lookup x≠some .free:=by simpa using f
   have e:=fG (env:=X.env) scope.names x;have a:(relabel scope X.env).names.lookup x=some .local\/(relabel scope X.env).names.lookup x=some .cell\/(relabel scope X.env).names.lookup x=some .free:=a;rw[show(relabel scope X.env).names.lookup x=_ from e]at a;cases q:scope.names.lookup x with|none=>rw[q]at a;simp at a|some k=>
     rw[q]at a h1 b f;have g:(k==NameKind.free)=false:=by cases k<;>first|rfl|exact absurd rfl f
     simp only[Option.map_some,g,Bool.false_and,false_eq_true,if_false,Option.some.injEq]at a;rcases a with rfl|rfl|rfl;.exact h1 rfl
     .exact b rfl
     .exact f rfl
structure CI(cl:List (Str×Addr))(z:Nat)(h:Heap)(acc:List (Str×Addr)):Prop where from':∀n c,acc.lookup n=some c->cl.lookup n=some c\/(z<=c/\h.IsCell c none)inj:∀n n' c,acc.lookup n=some c->acc.lookup n'=some c->n=n'
theorem Il{cl:List (Str×Addr)}{z:Nat}(i:∀n c,cl.lookup n=some c->c<z):∀(names:List (Str×NameKind))(h:Heap)(f:List (Str×Addr)),z<=h.objs.size->CI cl z h f->CI cl z (pushCells h names) (cellsFrom h.objs.size names f)/\(∀n,(f.lookup n).isSome->((cellsFrom h.objs.size names f).lookup n).isSome)/\(∀n,((∃c,f.lookup n=some c/\z<=c)\/(n,NameKind.cell)∈names)->∃c,(cellsFrom h.objs.size names f).lookup n=some c/\z<=c)/\(∀n c,(n,NameKind.cell)∉names->(cellsFrom h.objs.size names f).lookup n=some c->f.lookup n=some c)
 |[],h,f,hz,x=>by
   refine⟨x,λ_ q=>q,λn q=>?_,λ_ _ _ q=>q⟩;rcases q with q|q;.exact q
   .cases q|(name,kind)::r,h,f,hz,x=>by
   unfold pushCells cellsFrom;by_cases l:kind=.cell
   . subst l;rw[if_pos (by rfl),if_pos (by rfl)];have p:CI cl z (h.push {cls:=.type "cell",data:=.cell none}) ((name,h.objs.size)::f):=by
      have lt:∀n c,f.lookup n=some c->c<h.objs.size:=λn c e=>by
       rcases x.from' n c e with q|q;.exact lt_of_lt_of_le (i n c q) hz
       .exact q.2.lt
      refine⟨λn c e=>?_,λn m c e j=>?_⟩
      . rw[lookup_cons]at e;split at e;.cases e;exact .inr ⟨hz,_,get?_push_size _ rfl,rfl⟩
        . rcases x.from' n c e with q|q;.exact .inl q
          .exact .inr ⟨q.1,q.2.keeps λb o e=>gY e⟩
      . rw[lookup_cons]at e j;split at e<;>split at j;.rename_i _ a _ b;rw[eq_of_beq a,eq_of_beq b]
        .cases e;exact absurd (lt m _ j) (lt_irrefl _)
        .cases j;exact absurd (lt n _ e) (lt_irrefl _)
        .exact x.inj n m c e j
     have g:=Il i r (h.push {cls:=.type "cell",data:=.cell none}) ((name,h.objs.size)::f) (by rw[size_push];omega) p;rw[size_push]at g;refine⟨g.1,λn q=>g.2.1 n ?_,λn q=>g.2.2.1 n ?_,λn c q e=>?_⟩
     . rw[lookup_cons];split;.rfl
       .exact q
     . rcases q with⟨c,e,hc⟩|q
       . left;rw[lookup_cons];split;.exact⟨_,rfl,hz⟩
         .exact⟨c,e,hc⟩
       . rcases mem_cons.mp q with q|q;.cases q;left;exact⟨_,by simp[lookup_cons],hz⟩
         .exact .inr q
     . have:=g.2.2.2 n c (λz=>q (mem_cons_of_mem _ z)) e;rw[lookup_cons]at this;split at this;.rename_i a;exact absurd (by rw[eq_of_beq a];exact mem_cons_self) q
       .exact this
   . have k:(kind==NameKind.cell)=false:=by simpa using l
     rw[if_neg (by rw[k];decide),if_neg (by rw[k];decide)];have g:=Il i r h f hz x;refine⟨g.1,g.2.1,λn q=>g.2.2.1 n ?_,λn c q e=>g.2.2.2 n c (λz=>q (mem_cons_of_mem _ z)) e⟩;rcases q with q|q;.exact .inl q
     . rcases mem_cons.mp q with q|q;.cases q;exact absurd rfl l
       .exact .inr q
structure Jf(X:Cx)(scope:Scope)(z:Nat)(h:Heap)(cs:List (Str×Addr)):Prop where
 from':∀n c,cs.lookup n=some c->X.env.cells.lookup n=some c\/(z<c/\h.IsCell c none)inj:∀n n' c,cs.lookup n=some c->cs.lookup n'=some c->n=n'
 has:∀n,(scope.names.lookup n=some .free\/scope.names.lookup n=some .cell)->∃c,cs.lookup n=some c
 fre:∀n c,scope.names.lookup n=some .free->cs.lookup n=some c->X.env.cells.lookup n=some c
 own:∀n c,scope.names.lookup n=some .cell->cs.lookup n=some c->z<c
theorem Gj{M:Model}{A:Around}{E:Value->Shared->Prop}{s:Shared}{N':List Str}{n:Nat}{cl:List (Str×Addr)}{Q:Env->Shared->Prop}(ok:gA X scope N' n)(h:∀n c,X.env.cells.lookup n=some c->c<s.heap.objs.size)(f:∀x y c,X.env.cells.lookup x=some c->X.env.cells.lookup y=some c->x=y)(a:∀n c,cl.lookup n=some c->X.env.cells.lookup n=some c)(l:∀n,(n,NameKind.free)∈scope.names->(cl.lookup n).isSome)(m:∀ cs h',h'.Ns s.heap.objs.size (λ_=>none)->(∀ b o,s.heap.get? b=some o->h'.get? b=some o)->Jf X scope s.heap.objs.size h' cs->Q {scope:=scope,locals:=s.heap.objs.size,globals:=X.env.globals,cells:=cs,qual:=X.env.qual,func:=none,code:=X.env.code,frame:=X.env.frame,builtins:=X.env.builtins} {s with heap:=h'}):wpAny M A (newFunctionEnv scope X.env.globals cl [] X.env.qual none .none (some X.env)) Q E s:=by
 simp only[newFunctionEnv,Option.isSome_some,if_true];refine wpAny_bind (wpAny_alloc ?_);refine wpAny_bind (wpAny_layCells _ (λname kind cells=>by cases i:kind==NameKind.cell<;>simp[i]) _ _ _ _ ?_);have ck:=Il (cl:=cl) (z:=s.heap.objs.size+1) (λn c e=>Nat.lt_succ_of_lt (h n c (a n c e))) scope.names (s.heap.push {cls:=.type "dict",data:=.dict #[]}) cl (by rw[size_push];exact eG) ⟨λn c e=>.inl e,λn k c e g=>f n k c (a n c e) (a k c g)⟩;obtain⟨c1,c2,c3,c4⟩:=ck;rw[show({s with heap:=s.heap.push {cls:=.type "dict",data:=.dict #[]}}:Shared).heap.objs.size=(s.heap.push {cls:=.type "dict",data:=.dict #[]}).objs.size from rfl];refine wpAny_bind ?_;rw[List.forIn_nil];refine wpAny_pure (wpAny_pure (m _ _ ((Heap.Ns.new s.heap (.type "dict")).keeps (pushCells_keeps _ _)) (λb o e=>pushCells_keeps _ _ b o (gY e)) ⟨λn c e=>?_,c1.inj,λn q=>?_,λn c q e=>?_,λn c q e=>?_⟩))
 . rcases c1.from' n c e with z|z;.exact .inl (a n c z)
   .exact .inr ⟨z.1,z.2⟩
 . rcases q with q|q;.exact Option.isSome_iff_exists.mp (c2 n (l n (PySem.mem_of_lookup q)))
   .obtain⟨c,e,_⟩:=c3 n (.inr (PySem.mem_of_lookup q));exact⟨c,e⟩
 .refine a n c (c4 n c (λz=>?_) e);have:=ok.cons _ z;rw[q]at this;cases this
 .obtain⟨p,g,j⟩:=c3 n (.inr (PySem.mem_of_lookup q));rw[e]at g;cases g;exact j
section
variable{X:Cx}{pins:List (Addr×Obj)}{σ:_L.St}{H:Hp}{s:Shared}{scope:Scope}{N':List Str}{n:Nat}{fp:List Addr}{cl:List (Str×Addr)}
theorem Hg{h1:Heap}{m:Str->Option Value}{t:Nat}{cs:List (Str×Addr)}(ok:gA X scope N' n)(I:Inv X pins σ H s)(G:∀b∈fp,qw X pins H b/\b<s.heap.objs.size)(w:Jf X scope s.heap.objs.size h1 cs)(U:h1.Ns s.heap.objs.size m)(j:∀b u,s.heap.get? b=some u->h1.get? b=some u):Inv (uQ X scope N' cs s.heap.objs.size s H fp) [] (σ++replicate n none) H {s with heap:=h1,toks:=t}:=by
 have J:∀x,scope.names.lookup x=some .free->(relabel scope X.env).names.lookup x=some .cell\/(relabel scope X.env).names.lookup x=some .free:=λx h=>by
  have e:=fG (env:=X.env) scope.names x;rw[h]at e;have L:(relabel scope X.env).names.lookup x=_:=e;rw[L];simp only[Option.map_some];split;.exact .inl rfl
  .exact .inr rfl
 refine⟨⟨I.ok.mod,ok.kind,I.ok.glob,I.ok.blt,eG,λx y c h1 W=>w.inj x y c h1 W,λx z=>?_,λx c h e=>le_of_lt (w.own x c (eq_of_beq (show(scope.names.lookup x==some NameKind.cell)=true from h)) e),I.ok.hd,I.ok.frames,.inl rfl,λb B=>?_,I.bs,le_trans I.ok.G3 I.sz,λb u e B=>?_,λb B M=>?_,I.stack,I.qQ⟩,rfl,I.bare,Un.kept j,⟨m,U,λi x v Y C Z=>?_⟩,λx c e=>?_,I.hok.fresh (eG),λx c e=>?_,λp hp=>(by cases hp),I.hok.kept j,?_⟩;.--a aa5 name has its cell
   have z:(relabel scope X.env).names.lookup x=some .cell\/(relabel scope X.env).names.lookup x=some .free:=z;have e:=fG (env:=X.env) scope.names x;have L:(relabel scope X.env).names.lookup x=_:=e;rw[L]at z;refine w.has x ?_;cases q:scope.names.lookup x with|none=>rw[q]at z;simp at z|some k=>
     rw[q]at z;by_cases hk:k=.free;.rw[hk];exact .inl rfl
     . have g:(k==NameKind.free)=false:=by simpa using hk
       simp only[Option.map_some,g,Bool.false_and,false_eq_true,if_false,Option.some.injEq]at z;rcases z with rfl|rfl;.exact .inr rfl
       .exact absurd rfl hk
 . obtain⟨f,lt⟩:=G b B;refine⟨ne_of_lt lt,λx c e=>?_⟩;rcases w.from' x c e with e|e;.exact f.2.2.2.2.1 x c e
   .rintro rfl;exact absurd (Nat.lt_trans e.1 lt) (lt_irrefl _)
 . obtain⟨f,lt⟩:=G b B;rcases f.2.2.2.1 with h|h;.exact I.ok.xH b u e h
   .have this:b<X.base.objs.size:=lt_size e;exact absurd (lt_of_lt_of_le this (le_trans I.ok.G3 h)) (lt_irrefl _)
 . obtain⟨f,lt⟩:=G b B;rcases mem_cons.mp (I.rN b M)with h|h;.exact f.2.1 h
   .exact f.2.2.1 h
 .--the names
   have hi:i<σ.length:=by
    by_cases hi:i<σ.length;.exact hi
    .rw[getElem?_append_right (by omega),getElem?_replicate]at C;split at C<;>cases C
   rw[getElem?_append_left hi]at C;obtain⟨N,o⟩:=ok.get (by rw[<-I.len];exact hi) Y Z;have hk:=ok.cap (x,.free) (PySem.mem_of_lookup o) rfl;obtain⟨m0,ac,hl⟩:=I.loc;obtain⟨u,r,l⟩:=hl i x v N C (.inr hk);refine⟨u,r,.inr ⟨J x o,?_⟩⟩;rcases l with⟨g,_⟩|⟨_,c,hc,A⟩;.have g:X.env.scope.names.lookup x=some .local:=g;rcases hk with hk|hk<;>(rw[g]at hk;cases hk)
   .obtain⟨c',E⟩:=w.has x (.inl o);have:=w.fre x c' o E;rw[hc]at this;cases this;refine⟨c,E,?_⟩;obtain⟨oc,O,Q⟩:=A;exact⟨oc,j c oc O,Q⟩
 . rcases w.from' x c e with e|e;.obtain⟨v,oc,O,Q⟩:=I.cell x c e;exact⟨v,oc,j c oc O,Q⟩
   .exact⟨_,e.2⟩
 . rcases w.from' x c e with e|e;.exact I.gk x c e
   .exact I.hok.fresh (le_of_lt e.1)
 .show(σ++replicate n none).length=N'.length;rw[length_append,List.length_replicate,I.len,ok.len]
theorem vZ{prog:Program}{w:World}{A:Around}{R:Result->Shared->Prop}{p a iter:Expr}{ifs:List Expr}{pos:Pos}{it q:Value}(I:Nat->Shared->Prop)(t:∀ n s,I n s->wpAny (model prog w) A (pyNext it) (λr b=>match r with|none=>R (.ok .next) b|some v=>wpAny (model prog w) A (letOwnedTupleGo a it v) (λ_ b=>wpAny (model prog w) A (assign a env v) (λ_ j=>wpAny (model prog w) A (forIn ifs true λc r=>if r=true then do let ok<-isTrue c env (eval c env);pure (ForInStep.yield ok)else pure (ForInStep.yield r)) (λok g=>if ok=true then wpAny (model prog w) A (eval p env) (λx k=>wpAny (model prog w) A (call (.builtin "list.append") [q,x]) (λ_ l=>∃m,m<n/\I m l) (notedBy (model prog w) A env λe i=>R (.error e) i) k) (notedBy (model prog w) A env λe i=>R (.error e) i) g else ∃m,m<n/\I m g) (notedBy (model prog w) A env λe i=>R (.error e) i) j) (notedBy (model prog w) A env λe i=>R (.error e) i) b) (notedBy (model prog w) A env λe i=>R (.error e) i) b) (notedBy (model prog w) A env λe i=>R (.error e) i) s)(n:Nat){s:Shared}(h:I n s):codeAny (model prog w) A (.compLoop (.ListComp p [⟨a,iter,ifs,0⟩] scope pos) 0 it q env) R s:=by refine codeAny_loop rfl I (λn s B=>?_) n h;show wpAny _ A ((compTurn (.ListComp p [⟨a,iter,ifs,0⟩] scope pos) 0 it q env).onRaise (λx=>do noteFrame x env;theTreesLotGoes x)) _ _ s;refine wpAny_noted ?_;rw[compTurn_list];refine wpAny_bind (wpAny_standAt (wpAny_bind (wpAny_mono (t n s B) (λr b f=>?_) λ_ _ h'=>h')));cases r with|none=>exact wpAny_pure f|some v=>refine wpAny_bind (wpAny_mono f (λ_ b f=>?_) λ_ _ h'=>h');refine wpAny_bind (wpAny_mono f (λ_ j u=>wpAny_bind (wpAny_mono u (λok g o=>?_) λ_ _ h'=>h')) λ_ _ h'=>h');cases ok with|false=>exact wpAny_pure ⟨rfl,o⟩|true=>exact wpAny_bind (wpAny_bind (wpAny_mono o (λx k y=>wpAny_bind (wpAny_mono y (λ_ l z=>wpAny_pure (wpAny_pure ⟨rfl,z⟩)) λ_ _ h'=>h')) λ_ _ h'=>h'))
noncomputable def Ui(X:Cx)(ifs:List Expr)(t:TT):Prop:=∀(pins:List (Addr × Obj))(s:Shared)(σ:_L.St)(H:Hp)(Q:Bool->Hp->Prop),Inv X pins σ H s->t σ H Q->wpAny (model X.prog X.w) X.A (forIn ifs true λc r=>if r=true then do let ok<-isTrue c X.env (eval c X.env);pure (ForInStep.yield ok)else pure (ForInStep.yield r)) (TP X pins σ Q) X.xe s
theorem Ms:Ui X [] (λ_ H Q=>Q true H):=λpins s σ H Q I h=>wpAny_tests_nil ⟨H,I,h⟩
theorem Nr{c:Expr}{t:TT}(h:PT X c t):Ui X [c] t:=λpins s σ H Q I q=>wpAny_tests_one (h pins s σ H Q I q)
noncomputable def Rr(J:It)(g:TG)(tt:TT)(te:TE)(D:Addr)(Q:Hp->Prop)(W:Nat->Nat->List V->_L.St->Hp->Prop):Prop:=∀ i m ys σ H,W i m ys σ H->H D=some (.lst ys)/\((J.stop i H/\Q H)\/(J.go i H/\∀ x e,J.Mm i H x e->g x σ e λa j=>tt a j λb f=>if b=true then te a f λy h=>h D=some (.lst ys)/\ys.length<sizeLine/\∃c,c<m/\W (i+1) c (ys++[y]) a (upd h D (.lst (ys++[y])))else ∃c,c<m/\W (i+1) c ys a f))
theorem uU{E:Value->Shared->Prop}{ae a iter:Expr}{ifs:List Expr}{pos:Pos}{it:Addr}{tn:Nat->Heap->Prop}{J:It}{g:TG}{tt:TT}{te:TE}{Q:Addr->Hp->Prop}{RR:Value->Addr->Result->Shared->Prop}(hc:X.calm=true)(ok:gA X scope N' n)(I:Inv X pins σ H s)(bq:∀n c,cl.lookup n=some c->X.env.cells.lookup n=some c)(Br:∀n,(n,NameKind.free)∈scope.names->(cl.lookup n).isSome)(T:Turn X.prog X.w X.K a J fp it tn)(h0:tn 0 s.heap)(hf:∀b∈fp,qw X pins H b)(hg:∀cl C s₀ H₀ ex,PG (uQ X scope N' cl C s₀ H₀ ex) a g)(ht:∀cl C s₀ H₀ ex,Ui (uQ X scope N' cl C s₀ H₀ ex) ifs tt)(he:∀cl C s₀ H₀ ex,PE (uQ X scope N' cl C s₀ H₀ ex) ae te)(hw:∀D,H D=none->∃W,(∃m,W 0 m [] (σ++replicate n none) (upd H D (.lst [])))/\Rr J g tt te D (Q D) W)(br:∀D C l H',Q D H'->(∃m,l.heap.Ns C m)->qw X pins H' C->Inv X pins σ H' l->RR (.ref D) C (.ok .next) l):wpAny (model X.prog X.w) X.A (newList []) (λar aw=>wpAny (model X.prog X.w) X.A (newFunctionEnv scope X.env.globals cl [] X.env.qual none .none (some X.env)) (λai ay=>codeAny (model X.prog X.w) X.A (.compStart (.ListComp ae [⟨a,iter,ifs,0⟩] scope pos) 0 (.ref it) ar {ai with scope:=relabel scope X.env}) (RR ar ai.locals) ay) E aw) E s:=by
 refine wpAny_newObj_type (Gj ok (λx c e=>?lt) I.ok.inj bq Br (λcs G al hold bc=>?_));case lt=>obtain⟨v,z⟩:=I.cell x c e;exact lt_of_lt_of_le z.lt (by show _<=(s.heap.push _).objs.size;rw[size_push];exact le_succ _)
 dsimp only at al hold bc ⊢--the new list,tracked
 have I3:Inv X pins σ (upd H s.heap.objs.size (.lst [])) {s with heap:=s.heap.push {cls:=.type "list",data:=.seq ([]:List Value).toArray}}:=I.Ub (t':=s.toks) .nil (wB);generalize am:({s with heap:=s.heap.push {cls:=.type "list",data:=.seq ([]:List Value).toArray}}:Shared)=s3 at I3;have hsz:s3.heap.objs.size=s.heap.objs.size+1:=by rw[<-am];exact size_push _ _
 have RV:s3.heap=s.heap.push {cls:=.type "list",data:=.seq ([]:List Value).toArray}:=by rw[<-am]
 obtain⟨W,⟨m0,w0⟩,aE⟩:=hw s.heap.objs.size I.fresh;have aI:∀{h':Heap},(∀b o,s.heap.get? b=some o->h'.get? b=some o)->tn 0 h':=λk=>T.keep _ _ _ h0 λb j o e=>k b o e;have af:∀b∈fp,qw X pins (upd H s.heap.objs.size (.lst [])) b/\b<s3.heap.objs.size:=λb j=>by obtain⟨o,e,_⟩:=T.obj 0 _ h0 b j;have lt:=lt_size e;obtain⟨f1,f2⟩:=hf b j;exact⟨⟨by rw[aB (ne_of_lt lt)];exact f1,f2⟩,by rw[hsz];exact Nat.lt_succ_of_lt lt⟩
 rw[<-RV]at al hold bc ⊢;have I4:=Hg (t:=s3.toks) ok I3 af bc al hold;have aS:∀b o,s.heap.get? b=some o->G.get? b=some o:=λb o e=>hold b o (by rw[RV];exact gY e);generalize N:uQ X scope N' cs s3.heap.objs.size s3 (upd H s.heap.objs.size (.lst [])) fp=B at I4;have hA:B.A=X.A:=by rw[<-N];rfl
 have L:B.prog=X.prog:=by rw[<-N];rfl
 have M:B.w=X.w:=by rw[<-N];rfl
 have aT:B.K=X.K:=by rw[<-N];rfl
 have O:B.calm=true:=by rw[<-N];exact hc
 have bt:B.xe=λ_ _=>False:=by rw[<-N];rfl
 have ba:B.env=compEnvC scope cs s3.heap.objs.size X.env:=by rw[<-N];rfl
 have bv:PG B a g:=by rw[<-N];exact hg _ _ _ _ _
 have bP:Ui B ifs tt:=by rw[<-N];exact ht _ _ _ _ _
 have bS:PE B ae te:=by rw[<-N];exact he _ _ _ _ _
 have ff:∀{H':Hp}{b:Addr},b∈fp->H' b=none->qw B [] H' b:=λ{H' b}j hn=>by
  obtain⟨f,lt⟩:=af b j;rw[<-N];refine⟨hn,ne_of_lt lt,λbX=>?_,.inl j,λx c e=>?_,λp hp=>by cases hp⟩
  . rcases mem_cons.mp (I3.rN b bX)with h|h;.exact f.2.1 h
    .exact f.2.2.1 h
  . rcases bc.from' x c e with e|e;.exact f.2.2.2.2.1 x c e
    .rintro rfl;exact absurd (Nat.lt_trans e.1 lt) (lt_irrefl _)--behind the block
 have fin:∀{σ':_L.St}{H':Hp}{l:Shared},Inv B [] σ' H' l->Q s.heap.objs.size H'->RR (.ref s.heap.objs.size) s3.heap.objs.size (.ok .next) l:=λ{σ' H' l}U q=>by
  rw[<-N]at U;have hC:H' s3.heap.objs.size=none:=U.free;obtain⟨hh,gg,dd,cb,cf⟩:=l;have ci:cf=s3.os:=U.os;subst ci;refine br _ _ _ H' q (let⟨m,hm,_⟩:=U.loc;⟨m,hm⟩) ?_ (I3.call (h':=hh) (g':=gg) (d':=dd) (t':=cb) (ch:=fp) U.base U.hok U.bare λb j=>?_);.exact I3.Es (eG) hC
  .obtain⟨f,lt⟩:=af b j;exact⟨f.2.2.2.1,f.2.1,f.2.2.2.2.1,f.2.2.2.2.2⟩
 have Y:codeAny (model X.prog X.w) X.A (.compLoop (.ListComp ae [⟨a,iter,ifs,0⟩] scope pos) 0 (.ref it) (.ref s.heap.objs.size) B.env) (RR (.ref s.heap.objs.size) s3.heap.objs.size) {s3 with heap:=G,toks:=s3.toks}:=by
  refine vZ (λk l=>∃i ys σ' H',Inv B [] σ' H' l/\tn i l.heap/\(∀b∈fp,H' b=none)/\W i k ys σ' H') (λk s5 hI=>?_) m0 ⟨0,[],_,_,I4,aI aS,λb j=>(af b j).1.1,w0⟩;obtain⟨i,ys,ag,H5,I5,t5,f5,w5⟩:=hI;obtain⟨hD,ap⟩:=aE i k ys ag H5 w5;have ah:∀{Z:Value->Shared->Prop},∀(e:Value)(l:Shared),B.xe e l->Z e l:=λe l z=>by rw[bt]at z;exact False.elim z
  rcases ap with⟨stop,q⟩|⟨go,step⟩;.have z:=T.done B L M aT O i [] s5 ag H5 (λ_ _=>False) I5 (λb j=>ff j (f5 b j)) t5 stop;rw[hA]at z;refine wpAny_mono z (?_) λ_ _ z=>False.elim z;rintro r s6⟨hr,I6⟩;subst hr;exact fin I6 q
  . have z:=T.item B L M aT O i [] s5 ag H5 (λ_ _=>False) I5 (λb j=>ff j (f5 b j)) t5 go;rw[hA]at z;refine wpAny_mono z (?_) λ_ _ z=>False.elim z;rintro r s6⟨u,hr,z6⟩;subst hr;refine wpAny_mono z6 (?_) λ_ _ z=>False.elim z;rintro _ s7⟨x,H7,I7,r7,y7,t7,f7⟩;have cn:=I7.pinned (λb j=>ff j (f7 b j)) (T.obj _ _ t7)--what the pins keep
    have back:∀{σ':_L.St}{H':Hp}{l:Shared},Inv B ([]++uh fp s7.heap) σ' H' l->Inv B [] σ' H' l/\tn (i+1) l.heap/\∀b∈fp,H' b=none:=λ{σ' H' l}U=>by refine⟨U.oJ,T.keep _ _ _ t7 λb j o e=>(U.pin (b,o) (mem_append_right _ (mem_append_right _ (jF j e)))).1,λb j=>?_⟩;obtain⟨o,e,_⟩:=T.obj _ _ t7 b j;exact(U.pin (b,o) (mem_append_right _ (mem_append_right _ (jF j e)))).2.1
    have z7:=bv _ s7 ag H7 x u _ cn r7 (step x H7 y7);rw[hA,L,M]at z7;refine wpAny_mono z7 (?_) ah;rintro _ s8⟨ac,H8,I8,q8⟩;have z8:=bP _ s8 ac H8 _ I8 q8;rw[hA,L,M]at z8;refine wpAny_mono z8 (?_) ah;rintro b s9⟨H9,I9,q9⟩;cases b with|false=>rw[if_neg Bool.false_ne_true]at q9 ⊢;obtain⟨m',hm,w'⟩:=q9;obtain⟨b1,b2,b3⟩:=back I9;exact⟨m',hm,i+1,ys,ac,H9,b1,b2,b3,w'⟩|true=>rw[if_pos rfl]at q9 ⊢;have z9:=bS _ s9 ac H9 _ I9 q9;rw[hA,L,M]at z9;refine wpAny_mono z9 (?_) ah;rintro y jj⟨yv,bi,cr,cw,cx,bn,m',hm,w'⟩;have bo:=pR _ jj ac bi (.ref s.heap.objs.size) [yv] (.ref s.heap.objs.size) [y] (λv bp=>bp=upd bi s.heap.objs.size (.lst (ys++[yv]))) cr rfl (.cons cw .nil) ⟨_,ys,yv,rfl,rfl,cx,bn,rfl⟩;rw[hA,L,M]at bo;refine wpAny_mono bo (?_) ah;rintro _ rB⟨_,bp,cy,_,cE⟩;subst cE;obtain⟨b1,b2,b3⟩:=back cy;exact⟨m',hm,i+1,ys++[yv],ac,_,b1,b2,b3,w'⟩
 have e3:({s3 with heap:=G,toks:=s3.toks}:Shared)={s with heap:=G}:=by rw[<-am]
 rw[ba,e3]at Y;exact codeAny_compStart_list Y (T.self _ 0 _ _ _ (aI aS) Y)
end
section
variable{X:Cx}{elt target iter:Expr}{ifs:List Expr}{scope:Scope}{pos:Pos}{N':List Str}{n:Nat}{wi:TI}{g:TG}{tt:TT}{te:TE}
noncomputable def vy(n:Nat)(wi:TI)(g:TG)(tt:TT)(te:TE):TE:=λσ H Q=>wi σ H λJ a=>∀D,a D=none->∃W,(∃m,W 0 m [] (σ++replicate n none) (upd a D (.lst [])))/\Rr J g tt te D (λH'=>Q (.ref D) H') W
theorem n8{a:List (Addr×Obj)}{σ:_L.St}{H:Hp}{s:Shared}(I:Inv X a σ H s)(ok:gA X scope N' n):∃cl,closureFor scope X.env=pure cl/\(∀n c,cl.lookup n=some c->X.env.cells.lookup n=some c)/\∀n,(n,NameKind.free)∈scope.names->(cl.lookup n).isSome:=zT λm b=>I.ok.has m (ok.cap (m,.free) b rfl)
theorem NT(hc:X.calm=true)(ok:gA X scope N' n)(hi:PI X target iter wi)(p:∀cl C s₀ H₀ ex,PG (uQ X scope N' cl C s₀ H₀ ex) target g)(ht:∀cl C s₀ H₀ ex,Ui (uQ X scope N' cl C s₀ H₀ ex) ifs tt)(he:∀cl C s₀ H₀ ex,PE (uQ X scope N' cl C s₀ H₀ ex) elt te)(hs:∀x,foldedSetIterable iter X.env x=pure x:=by intro _;rfl):PE X (.ListComp elt [⟨target,iter,ifs,0⟩] scope pos) (vy n wi g tt te):=by intro a s σ H Q I h;obtain⟨cl,c,i,r⟩:=n8 I ok;rw[eval_ListComp];refine wpAny_comprehension_free (use:=none) rfl hs c ok.kind ok.names (bU (hi a s σ H _ I h) λv s1 h1=>bU h1 λt s2 u=>?_);obtain⟨it,L,M,J,N,rfl,y,T,t0,f2,z⟩:=u;refine uU (Q:=λD H'=>Q (.ref D) H') (RR:=λj C=>compPost (model X.prog X.w) X.A X.xe none (EP X a σ Q) j C) hc ok y i r T t0 f2 p ht he z λD C B H' q k f E=>?_;obtain⟨m,k⟩:=k;refine⟨m,k,λh' l=>⟨.ref D,H',?_,rfl,q⟩⟩;exact E.turned (t':=B.toks) (λb o G e=>l.extBut b o G e) f.1 f.2.1 f.2.2.2.1 f.2.2.2.2.1 f.2.2.2.2.2
theorem CJ{i:Nat}{x:Str}{c j:Pos}(hc:X.calm=true)(O:X.N.Nodup)(r:X.N[i]?=some x)(U:Loc X.env.scope x)(ok:gA X scope N' n)(hi:PI X target iter wi)(W:∀cl C s₀ H₀ ex,PG (uQ X scope N' cl C s₀ H₀ ex) target g)(ht:∀cl C s₀ H₀ ex,Ui (uQ X scope N' cl C s₀ H₀ ex) ifs tt)(he:∀cl C s₀ H₀ ex,PE (uQ X scope N' cl C s₀ H₀ ex) elt te)(t:swapsWith (.ListComp elt [⟨target,iter,ifs,0⟩] scope pos) (some (.Name x c)) j.line X.env=pure true)(hs:∀x,foldedSetIterable iter X.env x=pure x:=by intro _;rfl)(Y:X.fn x=true\/X.env.scope.names.lookup x=some .local:=by first|(left;rfl)|(right;rfl)|assumption):PS X (.Assign [.Name x c] (.ListComp elt [⟨target,iter,ifs,0⟩] scope pos) j) (R9 (vy n wi g tt te) (kE i)):=by
 intro f s σ H D I h;obtain⟨cl,k,u,Z⟩:=n8 I ok;rw[exec_Assign_Name_used _ _ _ _ t];refine wpAny_bind (wpAny_standAt (wpAny_bind ?_));show wpAny _ X.A (do let _<-comprehension (.ListComp elt [⟨target,iter,ifs,0⟩] scope pos) scope X.env _ (newList []) false (eval iter X.env) (some (assign (.Name x c) X.env))) _ _ s;refine wpAny_bind (wpAny_mono (wpAny_comprehension_free (use:=some (assign (.Name x c) X.env)) (Q:=λ_ p=>SP X f D .next p) rfl hs k ok.kind ok.names (bU (hi f s σ H _ I h) λv s1 h1=>bU h1 λac s2 h2=>?_)) (λ_ p hq=>wpAny_pure (wpAny_pure hq)) λ_ _ e=>e);obtain⟨it,fp,tn,J,H2,rfl,I2,T,t0,f2,hw⟩:=h2;refine uU (Q:=λDa H'=>D.nx (σ.set i (some (.ref Da))) H') (RR:=λy C=>compPost (model X.prog X.w) X.A X.xe (some (assign (.Name x c) X.env)) (λ_ p=>SP X f D .next p) y C) hc ok I2 u Z T t0 f2 W ht he hw λDa C p H' q B l I'=>?_;obtain⟨m,B⟩:=B;show wpAny _ X.A (assign (.Name x c) X.env (.ref Da)) _ _ _;refine wpAny_assign_Name (vp I' O r U (show RelV (.ref Da) (.ref Da)from rfl) (?_) Y);rintro E G⟨a,sb,ha⟩;have L:C≠a:=by
  rcases ha with rfl|ha;.exact l.2.1
  .exact λz=>l.2.2.2.2.1 x a ha z.symm
 refine⟨m,B.sameBut sb L,λh' M=>⟨_,H',?_,q⟩⟩;exact G.turned (t':=E.toks) (λb o hb e=>M.extBut b o hb e) l.1 l.2.1 l.2.2.2.1 l.2.2.2.2.1 l.2.2.2.2.2
noncomputable def aeu(K:PySem.W.Frag)(c:TE):TI:=λσ H R=>c σ H λx b=>∃a,x=.ref a/\(((∃xs,fM K b a xs)/\R (Um K a) b)\/((∃xs,jw K b a xs)/\R (Xc K a) b))
theorem Ao{u l:Expr}{r:TE}(w:PE X l r):PI X u l (aeu X.K r):=by
 intro f s σ H R I h;refine bU (w f s σ H _ I h) ?_;rintro v s1⟨x,t,c,r1,j⟩;obtain⟨a,e,j⟩:=j;subst e;cases r1;rcases j with⟨⟨xs,k⟩,q⟩|⟨⟨xs,k⟩,q⟩
 . obtain⟨i,y,p,hz⟩:=c.list k;refine wpAny_pyIter_list p.isList ?_;refine⟨s1.heap.objs.size,[s1.heap.objs.size],_,_,t,rfl,c.kept (t':=s1.toks) λb o e=>gY e,FP a _,⟨_,get?_push_size _ rfl,rfl,rfl⟩,λb m=>?_,q⟩;have e:b=s1.heap.objs.size:=by simpa using m
   subst e;exact c.Es (eG) (c.hok.fresh (eG))
 . obtain⟨i,y,p,hz⟩:=c.tuple k;refine wpAny_pyIter_tuple (show s1.heap.IsTuple a i.toArray from p) ?_;refine⟨s1.heap.objs.size,[s1.heap.objs.size],_,_,t,rfl,c.kept (t':=s1.toks) λb o e=>gY e,Ak a _,⟨_,get?_push_size _ rfl,rfl,rfl⟩,λb m=>?_,q⟩;have e:b=s1.heap.objs.size:=by simpa using m
   subst e;exact c.Es (eG) (c.hok.fresh (eG))
end
end _L
namespace _H
open PySem _L Spec PyProof.Rows
variable{v:V}{i m:Nat}{K:PySem.W.Frag}{F H:Hp}{ρ:List Sl}{σ:_L.St}{x:Str}{p':Pos}{is:List Nat}{ds:List D}{s:Shared}{A:Around}{u':Value}
structure Walk(K:PySem.W.Frag)(F:Hp)(ρ:List Sl)(σ:_L.St)(H:Hp)(ul:List Sl->List Sl)(J:It)(ds:List D)(F1:Hp)(ρ1:List Sl)(H1:Hp):Prop where
 gs:GS K F1 ρ1 σ H1
 src:∀(n k:Nat)(F':Hp)(ρ':List Sl)(σ':_L.St)(H':Hp),aC K F1 (ρ1++replicate n .aQ) (σ++replicate n none) H1 F' ρ' σ' H'->(∀d,ds[k]?=some d->J.go k H'/\∀x m7,J.Mm k H' x m7->∃F'',Ext F' H' F'' m7/\Rep K F'' x d)/\(ds.length<=k->J.stop k H')fin:∀F2 ρ2 σ2 H2,aC K F1 ρ1 σ H1 F2 ρ2 σ2 H2->aC K F ρ σ H F2 (ul ρ2) σ2 H2/\∀v r,cV K F2 ρ2 σ2 H2 ρ1 σ H1 v r->cV K F2 (ul ρ2) σ2 H2 ρ σ H v r
inductive tIt(K:PySem.W.Frag)(iv:Option Nat)(f:Ev)(σ:_L.St)(H:Hp)(R:It->Hp->Prop):Prop where|mk(F:Hp)(ρ:List Sl)(ds:List D)(ρ1:List Sl)(g:GS K F ρ σ H)(e:srcOf iv f ρ=.ok ds ρ1)(k:∀J F1 H1,Walk K F ρ σ H (bB ρ iv) J ds F1 ρ1 H1->R J H1)
section
variable{K:PySem.W.Frag}{F F1 H H1:Hp}{ρ ρ1:List Sl}{σ:_L.St}{ds:List D}{a:Addr}
theorem DR{xs:List V}{F' H':Hp}(c:jw K H' a xs)(r:aH K F' xs ds)(s:aJ F' H')(k:Nat):(∀d,ds[k]?=some d->(Xc K a).go k H'/\∀x f,(Xc K a).Mm k H' x f->∃b,Ext F' H' b f/\Rep K b x d)/\(ds.length<=k->(Xc K a).stop k H'):=by refine⟨λd hd=>?_,λh=>⟨xs,c,by rw[r.length];exact h⟩⟩;obtain⟨w,h1,g⟩:=r.get hd;refine⟨⟨xs,w,c,h1⟩,?_⟩;rintro x f⟨e,y⟩;subst e;have:=y xs c;rw[h1]at this;cases this;exact⟨F',.refl s,g⟩
theorem ug{xs:List V}{F' H':Hp}(c:fM K H' a xs)(r:aH K F' xs ds)(s:aJ F' H')(k:Nat):(∀d,ds[k]?=some d->(Um K a).go k H'/\∀x f,(Um K a).Mm k H' x f->∃b,Ext F' H' b f/\Rep K b x d)/\(ds.length<=k->(Um K a).stop k H'):=by refine⟨λd hd=>?_,λh=>⟨xs,c,by rw[r.length];exact h⟩⟩;obtain⟨w,h1,g⟩:=r.get hd;refine⟨⟨xs,w,c,h1⟩,?_⟩;rintro x f⟨e,y⟩;subst e;have:=y xs c;rw[h1]at this;cases this;exact⟨F',.refl s,g⟩
theorem ym{ul:List Sl->List Sl}{d:D}(s:aC K F ρ σ H F1 ρ1 σ H1)(r:Rep K F1 v d)(hi:items d=some ds)(fin:∀f b c g,aC K F1 ρ1 σ H1 f b c g->aC K F ρ σ H f (ul b) c g/\∀v r,cV K f b c g ρ1 σ H1 v r->cV K f (ul b) c g ρ σ H v r):∃a,v=.ref a/\(((∃xs,fM K H1 a xs)/\Walk K F ρ σ H ul (Um K a) ds F1 ρ1 H1)\/((∃xs,jw K H1 a xs)/\Walk K F ρ σ H ul (Xc K a) ds F1 ρ1 H1)):=by cases d with|tup es=>cases hi;rw[Rep]at r;obtain⟨a,xs,rfl,h1,h⟩:=r;exact⟨a,rfl,.inr ⟨⟨xs,aJ.iG s.gs.sub h1⟩,s.gs,λn k F' j σ' H' e=>DR (aJ.iG e.gs.sub (aJ.iG e.cF h1)) (h.mono e.cF) e.gs.sub k,fin⟩⟩|lst es=>cases hi;rw[Rep]at r;obtain⟨a,xs,rfl,h1,h⟩:=r;exact⟨a,rfl,.inl ⟨⟨xs,s.gs.sub.seq h1⟩,s.gs,λn k F' j σ' H' e=>ug (e.gs.sub.seq (e.cF.seq h1)) (h.mono e.cF) e.gs.sub k,fin⟩⟩|_=>cases hi
theorem vH{ul:List Sl->List Sl}(g:GS K F ρ1 σ H)(e:ρ1[i]?=some (.lent ds))(fin:∀f b c h,aC K F ρ1 σ H f b c h->aC K F ρ σ H f (ul b) c h/\∀v r,cV K f b c h ρ1 σ H v r->cV K f (ul b) c h ρ σ H v r):∃a,σ[i]?=some (some (.ref a))/\(∃xs,fM K H a xs)/\Walk K F ρ σ H ul (Um K a) ds F ρ1 H:=by obtain⟨a,xs,h1,p,B,C⟩:=g.uw i _ ds e rfl;have hi:i<ρ1.length:=(eV e).1;refine⟨a,h1,⟨xs,fM.of p⟩,g,λn k F' q σ' H' j=>?_,fin⟩;obtain⟨l,t,u,w⟩:=j.lk i _ (by rw[getElem?_append_left hi];exact e) rfl;cases(show t=.lent ds from w);rw[getElem?_append_left (by rw[<-g.len];exact hi),h1]at l;obtain⟨E,ys,o,y,G,z⟩:=j.gs.uw i _ ds u rfl;rw[l]at o;cases o;exact ug (fM.of y) z j.gs.sub k
end
section
variable{X:Cx}{c:Call}{n:Nat}{e a b d tg:Expr}{p pa pb pd:P}{pos:Pos}
theorem sU{t t':TI}(h:PI X tg e t)(i:∀σ H R,t' σ H R->t σ H R):PI X tg e t':=λf s σ H R I q=>h f s σ H R I (i σ H R q)
noncomputable def SI(X:Cx)(c:Call)(tg e:Expr)(p:P):Prop:=PI X tg e (tIt X.K (isVar p) (_H.ev c p))
theorem fc(h:SX X c e p):SI X c tg e p:=by unfold SI;cases hv:isVar p with|none=>refine sU (Ao h.ev) ?_;rintro σ H R⟨F,ρ,ds,u,g,e,k⟩;obtain⟨r,f,L,t⟩:=aj e;have y:=aD t;clear t;obtain⟨t,B⟩:=y;subst B;refine⟨F,ρ,r,_,g,L,λv F' H' s C=>?_⟩;obtain⟨l,s2,_,M⟩:=s.dz C;obtain⟨a,E,G⟩:=ym (ul:=bB ρ none) s2 M t λU N O W s3=>⟨s2.trans s3,λv r C=>C.later s2⟩;exact⟨a,E,G.imp (λ⟨z,w⟩=>⟨z,k _ _ _ w⟩) (λ⟨z,w⟩=>⟨z,k _ _ _ w⟩)⟩|some i=>
   refine sU (Ao (h.var i hv)) ?_;rintro σ H R⟨F,ρ,ds,u,g,e,k⟩;unfold srcOf at e;dsimp only at e;split at e
   . rename_i b d q;have y:=aD e;clear e;obtain⟨t,B⟩:=y;subst B;obtain⟨v,h1,Q⟩:=g.val i b d q;have fin:∀l f j o,aC X.K F ρ σ H l f j o->aC X.K F ρ σ H l (bB ρ (some i) f) j o/\∀v r,cV X.K l f j o ρ σ H v r->cV X.K l (bB ρ (some i) f) j o ρ σ H v r:=λl f j o s=>by unfold bB;dsimp only;rw[q];exact⟨s,λ_ _ z=>z⟩
     obtain⟨a,E,G⟩:=ym (ul:=bB ρ (some i)) (.refl g) Q t fin;exact⟨v,h1,a,E,G.imp (λ⟨z,w⟩=>⟨z,k _ _ _ w⟩) (λ⟨z,w⟩=>⟨z,k _ _ _ w⟩)⟩
   . rename_i b I q;cases e;have hi:i<ρ.length:=(eV q).1;have fin:∀l f j o,aC X.K F (ρ.set i (.lent ds)) σ H l f j o->aC X.K F ρ σ H l (bB ρ (some i) f) j o/\∀v r,cV X.K l f j o (ρ.set i (.lent ds)) σ H v r->cV X.K l (bB ρ (some i) f) j o ρ σ H v r:=λl f j o s=>by unfold bB;dsimp only;rw[q];exact aC.bB g q s
     obtain⟨a,h1,J,w⟩:=vH (ul:=bB ρ (some i)) (g.lend q) (getElem?_set_self hi) fin;exact⟨_,h1,a,rfl,.inl ⟨J,k _ _ _ w⟩⟩
   . rename_i I q;cases e;have fin:∀l f j o,aC X.K F ρ σ H l f j o->aC X.K F ρ σ H l (bB ρ (some i) f) j o/\∀v r,cV X.K l f j o ρ σ H v r->cV X.K l (bB ρ (some i) f) j o ρ σ H v r:=λl f j o s=>by unfold bB;dsimp only;rw[q];exact⟨s,λ_ _ z=>z⟩
     obtain⟨a,h1,J,w⟩:=vH (ul:=bB ρ (some i)) g q fin;exact⟨_,h1,a,rfl,.inl ⟨J,k _ _ _ w⟩⟩
   .cases e
theorem J4{F1 g:Hp}{f:List Sl}(s:aC K F ρ σ H F1 f σ g)(i j:Int):Walk K F ρ σ H (bB ρ none) (YS i (j-i).toNat) ((List.range (j-i).toNat).map λ(k:Nat)=>D.int (i+(k:Int))) F1 f g:=by
 refine⟨s.gs,λn k F' o σ' H' q=>⟨λd hd=>?_,λh=>?_⟩,λE t u G s3=>⟨s.trans s3,λv r w=>w.later s⟩⟩;.rw[getElem?_map]at hd;obtain⟨m,y,z⟩:=map_some hd;obtain⟨h1,l⟩:=eV y;rw[List.getElem_range]at l;subst l;subst z;rw[length_range]at h1;refine⟨h1,?_⟩;rintro x I⟨B,C⟩;subst B;subst C;exact⟨F',.refl q.gs.sub,bY _⟩
 .rw[length_map,length_range]at h;exact h
theorem iK(t:x="range")(u:Gl X x)(w:X.mg x=none)(y:SX X c a pa)(hs:starEach [a] X.env=[(false,eval a X.env)]:=by rfl):SI X c tg (.Call (.Name x p') [a] [] pos) (.vO (.con (.int 0)) pa):=by
 subst t;obtain⟨O,h1,z⟩:=y.cL;refine sU (vD u w (bz h1 cZ hs) hs) ?_;rintro σ H R⟨F,ρ,ds,B,g,e,k⟩;obtain⟨r,C,q,h⟩:=aj e;have l:=aD h;clear h;obtain⟨h,E⟩:=l;subst E;rw[_H.E21]at q;obtain⟨Q,G,I,f⟩:=aj q;have l:=aD f;clear f;obtain⟨f,J⟩:=l;subst J;obtain⟨U,L,M,o⟩:=aj I;cases o;obtain⟨i,f1,f⟩:=cU f;obtain⟨j,f2,f⟩:=cU f;obtain⟨⟨b1,b2,b3,b4⟩,f⟩:=bN f;have f1:i=0:=by cases f1;rfl
 subst f1;subst f;cases h;cases dU f2;refine z g M λv F' H' s N=>⟨j,by rw[N.int],by omega,by omega,?_⟩;have:=J4 s 0 j;rw[sub_zero]at this;refine k _ F' H' ?_;rw[sub_zero];exact this
end
section
variable{X:Cx}{c:Call}{n:Nat}{e a b d tg iter:Expr}{p pa pb pd:P}{pos:Pos}{body:List Stmt}{ss:List S}
noncomputable def Ji(K:PySem.W.Frag)(h:List Sl->D->Option (List Sl))(g:TG):Prop:=∀(x:V)(d:D)(F:Hp)(ρ f:List Sl)(σ:_L.St)(H:Hp)(Q:_L.St->Hp->Prop),GS K F ρ σ H->Rep K F x d->h ρ d=some f->(∀σ',aC K F ρ σ H F f σ' H->Q σ' H)->g x σ H Q
theorem xj(i:Nat):Ji K (λρ d=>put ρ i (.val false d)) (kE i):=λx d F ρ f σ H Q g r h k=>k _ (aC.put (r:=.val d) (.refl g) r h)
theorem dq:∀(is:List Nat)(gs:GX),(∀(xs:List V)(ds:List D)(F:Hp)(ρ f:List Sl)(σ:_L.St)(H:Hp)(Q:_L.St->Hp->Prop),GS K F ρ σ H->aH K F xs ds->putAll ρ is ds=some f->(∀σ',aC K F ρ σ H F f σ' H->Q σ' H)->gs xs σ H Q)->∀i,∀(xs:List V)(ds:List D)(F:Hp)(ρ f:List Sl)(σ:_L.St)(H:Hp)(Q:_L.St->Hp->Prop),GS K F ρ σ H->aH K F xs ds->putAll ρ (i::is) ds=some f->(∀σ',aC K F ρ σ H F f σ' H->Q σ' H)->Kz (kE i) gs xs σ H Q:=by intro is gs l i xs ds F ρ f σ H Q g r h k;cases ds with|nil=>simp[j6,jz,pI,pD]at h|cons d ds=>obtain⟨v,vs,rfl,h1,o⟩:=r.cW;rw[jz]at h;obtain⟨j,q,t⟩:=cU h;have s1:=aC.put (r:=.val d) (.refl g) h1 q;refine⟨v,vs,rfl,l vs ds F j f _ H _ s1.gs o t λσ' s2=>k σ' (s1.trans s2)⟩
theorem nY:∀(xs:List V)(ds:List D)(F:Hp)(ρ f:List Sl)(σ:_L.St)(H:Hp)(Q:_L.St->Hp->Prop),GS K F ρ σ H->aH K F xs ds->putAll ρ [] ds=some f->(∀σ',aC K F ρ σ H F f σ' H->Q σ' H)->Tw xs σ H Q:=by intro xs ds F ρ f σ H Q g r h k;cases ds with|nil=>rw[j6]at h;cases h;exact⟨r.gW,k σ (.refl g)⟩|cons d ds=>simp[j6,jz,pI,pD]at h
theorem mY:∀{is:List Nat}{ds:List D}{ρ f:List Sl},putAll ρ is ds=some f->ds.length=is.length|[],[],_,_,_=>rfl|[],_::_,_,_,h=>by simp[j6,jz,pI,pD]at h|_::_,[],_,_,h=>by simp[j6,jz,pI,pD]at h|i::is,d::ds,ρ,f,h=>by rw[jz]at h;obtain⟨g,k,j⟩:=cU h;simp[mY j]
theorem sy{gs:GX}(o:m=is.length)(h:∀(xs:List V)(ds:List D)(F:Hp)(ρ f:List Sl)(σ:_L.St)(H:Hp)(Q:_L.St->Hp->Prop),GS K F ρ σ H->aH K F xs ds->putAll ρ is ds=some f->(∀σ',aC K F ρ σ H F f σ' H->Q σ' H)->gs xs σ H Q):Ji K (λρ d=>cI ρ is false d) (UG K m gs):=by intro x d F ρ f σ H Q g r j k;replace j:cI ρ is false d=some f:=j;cases d with|tup ds=>replace j:putAll ρ is ds=some f:=j;rw[Rep]at r;obtain⟨a,xs,rfl,h1,l⟩:=r;exact⟨a,xs,rfl,aJ.iG g.sub h1,by rw[l.length,mY j,o],h xs _ F ρ f σ H Q g l j k⟩|_=>cases j
theorem xu{g:TG}{one:Bool}(hp:PassesOwn (model X.prog X.w) X.A X.env X.xe)(hc:X.calm=true)(hi:SI X c tg iter p)(hg:PG X tg g)(W:Ji X.K (λρ d=>cI ρ is one d) g)(hb:SB X c n body ss)(hs:∀x,foldedSetIterable iter X.env x=pure x:=by intro _;rfl):SS X c n (.For tg iter body [] pos) (.iW p is one ss):=by
 refine cz (JQ hp hc hi hg hb hs) ?_;rintro D σ H⟨F,ρ,fl,o,g0,e,k⟩;rw[_H.X14]at e;obtain⟨ds,j,e1,e⟩:=aj e;obtain⟨ac,E,e2,e⟩:=aj e;cases e;refine⟨F,ρ,ds,j,g0,e1,λJ F1 Y w=>?_⟩;have src:∀(i:Nat)(F':Hp)(o:List Sl)(σ':_L.St)(H':Hp),aC X.K F1 j σ Y F' o σ' H'->(∀d,ds[i]?=some d->J.go i H'/\∀x m7,J.Mm i H' x m7->∃G,Ext F' H' G m7/\Rep X.K G x d)/\(ds.length<=i->J.stop i H'):=λi F' o σ' H' s=>w.src 0 i F' o σ' H' (by simpa using s);refine⟨λi m l O=>∃C f,aC X.K F1 j σ Y C f l O/\m=ds.length-i/\i<=ds.length/\jB is one (eO c n ss) (ds.drop i) f=.ok fl E,⟨_,F1,j,.refl w.gs,rfl,wB,e2⟩,?_⟩;rintro i m l O⟨C,f,Q,rfl,ae,h⟩;obtain⟨s1,s2⟩:=src i C f l O Q;by_cases q:i<ds.length
 . right;have hd:ds[i]?=some ds[i]:=by simp[q]
   obtain⟨go,step⟩:=s1 _ hd;refine⟨go,λσ' H'=>∃m',m'<ds.length-i/\∃C f,aC X.K F1 j σ Y C f σ' H'/\m'=ds.length-(i+1)/\i+1<=ds.length/\jB is one (eO c n ss) (ds.drop (i+1)) f=.ok fl E,λσ' H' z=>z,λx H' y=>?_⟩;obtain⟨F2,ext,rx⟩:=step x H' y;have I:=Q.trans (ext.stp Q.gs);rw[drop_eq_getElem_cons q,zV]at h;cases hbd:cI f is one ds[i]with|none=>rw[hbd]at h;cases h|some L=>rw[hbd]at h;obtain⟨M,u,eb,h⟩:=aj h;refine W x _ F2 f L l H' _ I.gs rx hbd λaf sb=>?_;have B:=I.trans sb;refine⟨F2,L,M,u,B.gs,eb,λU N H4 s4=>?_⟩;have t:=B.trans s4;cases M with|next=>exact⟨_,by omega,U,u,t,rfl,q,h⟩|cont=>exact⟨_,by omega,U,u,t,rfl,q,h⟩|brk=>cases h;exact k U N H4 (w.fin _ _ _ _ t).1|ret r=>cases h;intro v rr;obtain⟨z1,z2⟩:=w.fin _ _ _ _ t;exact k U N H4 z1 v (z2 v r (rr.later B))
 . left;have Z:ds.drop i=[]:=by rw[drop_eq_nil_iff];omega
   rw[Z,Hj]at h;cases h;exact⟨s2 (by omega),k C l O (w.fin _ _ _ _ Q).1⟩
theorem pL(i:Nat):(λ(ρ:List Sl)(d:D)=>cI ρ [i] true d)=λρ d=>put ρ i (.val false d):=by funext ρ d;rfl
theorem rF{f:Pos}(h:PassesOwn (model X.prog X.w) X.A X.env X.xe)(hc:X.calm=true)(j:X.N.Nodup)(g:X.N[i]?=some x)(k:Loc X.env.scope x)(hi:SI X c (.Name x f) iter p)(l:SB X c n body ss)(hs:∀x,foldedSetIterable iter X.env x=pure x:=by intro _;rfl)(o:X.fn x=true\/X.env.scope.names.lookup x=some .local:=by first|(left;rfl)|(right;rfl)|assumption):SS X c n (.For (.Name x f) iter body [] pos) (.iW p [i] true ss):=xu h hc hi (bf j g k o) (by rw[pL];exact xj i) l hs
theorem Aw(J:PassesOwn (model X.prog X.w) X.A X.env X.xe)(ht:ST X c e p)(L:SB X c n body ss):SS X c n (.While e body [] pos) (.whl p ss):=by refine cz (J7 J ht L) ?_;rintro D σ H⟨F,ρ,fl,o,g,e,k⟩;rw[_H.X15]at e;refine⟨λm j C=>∃q f,aC X.K F ρ σ H q f j C/\rR (iB (_H.ev c p)) (eO c n ss) m f=.ok fl o,⟨n,F,ρ,.refl g,e⟩,?_⟩;rintro m j C⟨q,f,E,h⟩;cases m with|zero=>rw[VG]at h;cases h|succ m=>rw[JZ]at h;obtain⟨b,t,M,h⟩:=aj h;refine⟨q,f,b,t,E.gs,M,λF1 O s1=>?_⟩;have s2:=E.trans s1;cases b with|false=>rw[if_neg Bool.false_ne_true]at h;cases h;exact k F1 j O s2|true=>rw[if_pos rfl]at h;obtain⟨u,l,Q,h⟩:=aj h;refine(show ∃N:_L.St->Hp->Prop,_/\_ from⟨λσ' H'=>∃G,G<m+1/\∃q f,aC X.K F ρ σ H q f σ' H'/\rR (iB (_H.ev c p)) (eO c n ss) G f=.ok fl o,λσ' H' z=>z,F1,t,u,l,s2.gs,Q,λB y I s4=>?_⟩);have s5:=s2.trans s4;cases u with|next=>exact⟨m,by omega,B,l,s5,h⟩|cont=>exact⟨m,by omega,B,l,s5,h⟩|brk=>cases h;exact k B y I s5|ret r=>cases h;exact λv U=>k B y I s5 v (U.later s2)
end
section
variable{X:Cx}{c:Call}{n:Nat}{e elt tg iter:Expr}{p ps pe:P}{pos:Pos}{scope:Scope}{N':List Str}{ifs:List Expr}
theorem Vx{t t':TE}(h:PE X e t)(i:∀σ H Q,σ.length=X.N.length->t' σ H Q->t σ H Q):PE X e t':=λa s σ H Q I q=>h a s σ H Q I (i σ H Q I.len q)
theorem Td{st:Stmt}{t t':TS}(h:PS X st t)(i:∀D σ H,σ.length=X.N.length->t' D σ H->t D σ H):PS X st t':=λa s σ H D I q=>h a s σ H D I (i D σ H I.len q)
noncomputable def ql(K:PySem.W.Frag)(m:Nat)(is:List Nat)(one:Bool)(g:TG):Prop:=∀(x:V)(d:D)(F:Hp)(ρ a:List Sl)(σ:_L.St)(H:Hp)(Q:_L.St->Hp->Prop),GS K F ρ σ H->Rep K F x d->cI ρ is one d=some a->(∀σ',aC K F ρ σ H F a σ' H->σ'.take m=σ.take m->Q σ' H)->g x σ H Q
theorem take_set{b:Type}{l:List b}{a:b}(h:m<=i):(l.set i a).take m=l.take m:=by rw[List.take_set_of_le h]
theorem gf(h:m<=i):ql K m [i] true (kE i):=λx d F ρ a σ H Q g r b k=>k _ (aC.put (r:=.val d) (.refl g) r b) (take_set h)
noncomputable def Qe(K:PySem.W.Frag)(m:Nat)(is:List Nat)(gs:GX):Prop:=∀(xs:List V)(ds:List D)(F:Hp)(ρ a:List Sl)(σ:_L.St)(H:Hp)(Q:_L.St->Hp->Prop),GS K F ρ σ H->aH K F xs ds->putAll ρ is ds=some a->(∀σ',aC K F ρ σ H F a σ' H->σ'.take m=σ.take m->Q σ' H)->gs xs σ H Q
theorem yF{gs:GX}(hi:m<=i)(f:Qe K m is gs):Qe K m (i::is) (Kz (kE i) gs):=by intro xs ds F ρ a σ H Q g r h k;cases ds with|nil=>simp[j6,jz,pI,pD]at h|cons d ds=>obtain⟨v,vs,rfl,h1,j⟩:=r.cW;rw[jz]at h;obtain⟨b,l,o⟩:=cU h;have s1:=aC.put (r:=.val d) (.refl g) h1 l;exact⟨v,vs,rfl,f vs ds F b a _ H _ s1.gs j o λσ' s2 z=>k σ' (s1.trans s2) (z.trans (take_set hi))⟩
theorem Qk:Qe K m [] Tw:=by intro xs ds F ρ a σ H Q g r h k;cases ds with|nil=>rw[j6]at h;cases h;exact⟨r.gW,k σ (.refl g) rfl⟩|cons d ds=>simp[j6,jz,pI,pD]at h
theorem Oe{gs:GX}{l:Nat}(o:l=is.length)(h:Qe K m is gs):ql K m is false (UG K l gs):=by intro x d F ρ b σ H Q g r f k;cases d with|tup ds=>replace f:putAll ρ is ds=some b:=f;rw[Rep]at r;obtain⟨a,xs,rfl,h1,j⟩:=r;exact⟨a,xs,rfl,aJ.iG g.sub h1,by rw[j.length,mY f,o],h xs _ F ρ b σ H Q g j f k⟩|_=>cases f
noncomputable def SQ(X:Cx)(c:Call)(ifs:List Expr)(t:Option P):Prop:=Ui X ifs (Hf X.K (wO c t))
theorem iJ:SQ X c [] none:=λa s σ H Q I⟨F,ρ,k,ρ',g,e,q⟩=>by rw[wO]at e;cases e;exact Ms a s σ H Q I (q F H (.refl g))
theorem Py(h:ST X c e p):SQ X c [e] (some p):=λa s σ H Q I⟨F,ρ,k,ρ',g,e,q⟩=>by rw[wO]at e;exact Nr h a s σ H Q I ⟨F,ρ,k,ρ',g,e,q⟩
theorem aC.J3{F1 j:Hp}{f:List Sl}{g:_L.St}{Da:Addr}{o:HO}(s:aC K F ρ σ H F1 f g j)(h:H Da=none)(q:F1 Da=none)(ho:¬ Own f g Da):aC K F ρ σ H F1 f g (upd j Da o):=by
 refine⟨⟨λb u e=>?_,s.gs.len,s.gs.val,λi t ds e k=>?_,s.gs.dis⟩,s.cF,s.xK,λb u e n=>?_,s.xM,s.len,s.lk⟩
 . have:b≠Da:=by rintro rfl;rw[q]at e;cases e
   rw[aB this];exact s.gs.sub b u e
 . obtain⟨a,xs,l,r,w,y⟩:=s.gs.own i t ds e k;have:a≠Da:=by rintro rfl;exact ho ⟨i,⟨t,ds,e,k⟩,l⟩
   exact⟨a,xs,l,by rw[aB this];exact r,w,y⟩
 . have:b≠Da:=by rintro rfl;rw[h]at e;cases e
   rw[aB this];exact s.keep b u e n
theorem Kf{b r:List Sl}{ul:List Sl->List Sl}{ti:TI}{one:Bool}{u:List Sl->Res Bool}{el:Ev}{g:TG}{Q:VK}{xs:List D}(hm:σ.length=m)(ah:ql K m is one g)(ai:∀R:It->Hp->Prop,(∀J F1 W,Walk K F ρ σ H ul J ds F1 b W->R J W)->ti σ H R)(ap:ds.length<=lim)(e2:turns is one u el ds [] (b++replicate n .aQ)=.ok xs r)(k:∀v F' H',aC K F ρ σ H F' (ul (r.take b.length)) σ H'->cV K F' (ul (r.take b.length)) σ H' ρ σ H v (.own xs)->Q v H'):vy n ti g (Hf K u) (zf K el) σ H Q:=by
 refine ai _ λJ F1 W w Da O=>?_;have al:b.length=σ.length:=w.gs.len;have gm:=w.gs.more (n:=n) (τ:=replicate n none) (by simp);have fD:F1 Da=none:=by cases q:F1 Da with|none=>rfl|some o=>rw[w.gs.sub Da o q]at O;cases O
 have nO:¬ Own (b++replicate n .aQ) (σ++replicate n none) Da:=λ⟨i,⟨t,dt,q1,q2⟩,q3⟩=>by obtain⟨a,ys,z1,z2,_⟩:=gm.own i t dt q1 q2;rw[q3]at z1;cases z1;rw[O]at z2;cases z2
 refine⟨λi mm ys f G=>∃E h l,aC K F1 (b++replicate n .aQ) (σ++replicate n none) W E h f G/\f.take m=σ/\G Da=some (.lst ys)/\E Da=none/\¬ Own h f Da/\aH K E ys l/\l.length<=i/\mm=ds.length-i/\i<=ds.length/\turns is one u el (ds.drop i) l h=.ok xs r,⟨_,F1,_,[],(aC.refl gm).J3 O fD nO,by rw[List.take_append_of_le_length (by omega),List.take_of_length_le (by omega)],aL,fD,nO,.nil,wB,rfl,wB,e2⟩,?_⟩;rintro i mm ys f G⟨E,h,l,Y,I,Z,hF,hO,rs,ar,rfl,aw,j⟩;refine⟨Z,?_⟩--what stays of the new list through a step
 have stay:∀{L U:Hp}{M:List Sl}{B:_L.St},aC K E h f G L M B U->U Da=some (.lst ys)/\L Da=none/\¬ Own M B Da:=λ{L U M B}s=>by
  refine⟨s.keep Da _ Z hO,?_,λo=>?_⟩;.cases q:L Da with|none=>rfl|some o=>
      rcases s.xK Da hF (by rw[q];simp)with z|z;.exact absurd z hO
      .exact(JH Z z).elim
  . rcases s.xM Da o with z|z;.exact hO z
    .rw[Z]at z;cases z
 obtain⟨s1,s2⟩:=w.src n i E h f G Y;by_cases C:i<ds.length
 . right;have hd:ds[i]?=some ds[i]:=by simp[C]
   obtain⟨go,step⟩:=s1 _ hd;refine⟨go,λx U y=>?_⟩;obtain⟨L,ext,rx⟩:=step x U y;have t2:=ext.stp Y.gs;rw[drop_eq_getElem_cons C,Kq]at j;cases hbd:cI h is one ds[i]with|none=>rw[hbd]at j;cases j|some ac=>rw[hbd]at j;obtain⟨bb,N,eb,j⟩:=aj j;refine ah x _ L h ac f U _ t2.gs rx hbd λB sb ae=>?_;have t3:=t2.trans sb;refine⟨L,ac,bb,N,t3.gs,eb,λF4 H4 s4=>?_⟩;have t4:=t3.trans s4;cases bb with|false=>rw[if_neg Bool.false_ne_true]at j;obtain⟨y1,y2,y3⟩:=stay t4;exact⟨_,by omega,F4,N,l,Y.trans t4,ae.trans I,y1,y2,y3,rs.mono t4.cF,by omega,rfl,C,j⟩|true=>
       rw[if_pos rfl]at j;obtain⟨re,af,ee,j⟩:=aj j;refine(show zf K el B H4 _ from⟨F4,N,re,af,t4.gs,ee,λv F5 H5 s5 rr=>?_⟩);obtain⟨F6,s6,_,rp⟩:=s5.dz rr;have t6:=t4.trans s6;obtain⟨y1,y2,y3⟩:=stay t6;have ag:ys.length<sizeLine:=by have h1:=rs.length;have h2:lim=sizeLine:=rfl;omega
       exact⟨y1,ag,_,by omega,F6,af,l++[re.d],(Y.trans t6).J3 O y2 y3,ae.trans I,aL,y2,y3,(rs.mono t6.cF).append (.cons rp .nil),by simp;omega,rfl,C,j⟩
 . left;have am:ds.drop i=[]:=by rw[drop_eq_nil_iff];omega
   rw[am,IW]at j;cases j;refine⟨s2 (by omega),?_⟩;obtain⟨l1,l2⟩:=aC.less (m:=b.length) rfl w.gs (by simp) Y;have hst:f.take b.length=σ:=by rw[al,hm];exact I
   rw[hst]at l1;have rr:cV K E r f G (b++replicate n .aQ) (σ++replicate n none) W (.ref Da) (.own xs):=⟨Da,ys,rfl,Z,hF,rs,hO,.inr O⟩;have RW:=l2 _ _ rr;rw[hst]at RW;obtain⟨z1,z2⟩:=w.fin _ _ _ _ l1;exact k _ E G z1 (z2 _ _ RW)
theorem BZ{iv:Option Nat}{f:Ev}{one:Bool}{b:List Sl->Res Bool}{u:Ev}{g:TG}{Q:VK}{r:R}{j:List Sl}(w:σ.length=m)(q:ql K m is one g)(y:GS K F ρ σ H)(e:((srcOf iv f ρ).bind λds a=>if ds.length<=lim then(turns is one b u ds [] (a++replicate n .aQ)).bind λxs l=>Res.ok (R.own xs) (bB ρ iv (l.take a.length))else .stuck)=.ok r j)(k:∀v F' H',aC K F ρ σ H F' j σ H'->cV K F' j σ H' ρ σ H v r->Q v H'):vy n (tIt K iv f) g (Hf K b) (zf K u) σ H Q:=by
 obtain⟨ds,t,z,e⟩:=aj e;split at e;.rename_i o;obtain⟨xs,B,C,e⟩:=aj e;cases e;exact Kf w q (λR h=>⟨F,ρ,ds,t,y,z,h⟩) o C k
 .cases e
theorem jD{g:TG}{one:Bool}{t:Option P}(hc:X.calm=true)(ok:gA X scope N' n)(hi:SI X c tg iter ps)(b:∀cl C s₀ H₀ ex,PG (uQ X scope N' cl C s₀ H₀ ex) tg g)(a:ql X.K X.N.length is one g)(ht:∀cl C s₀ H₀ ex,SQ (uQ X scope N' cl C s₀ H₀ ex) c ifs t)(he:∀cl C s₀ H₀ ex,SX (uQ X scope N' cl C s₀ H₀ ex) c elt pe)(hs:∀x,foldedSetIterable iter X.env x=pure x:=by intro _;rfl):SX X c (.ListComp elt [⟨tg,iter,ifs,0⟩] scope pos) (.comp ps n is one t pe):=by refine⟨Vx (NT (tt:=Hf X.K (wO c t)) (te:=zf X.K (_H.ev c pe)) hc ok hi b ht (λcl C s₀ H₀ ex=>(he cl C s₀ H₀ ex).ev) hs) ?_,λi h=>by cases h⟩;rintro σ H Q f⟨F,ρ,r,j,l,e,k⟩;rw[_H.E20]at e;exact BZ f a l e k
theorem Nh{a b:Pos}{nn:Nat}{g:TG}{one:Bool}{t:Option P}(hc:X.calm=true)(q:X.N.Nodup)(h:X.N[i]?=some x)(u:Loc X.env.scope x)(ok:gA X scope N' n)(hi:SI X c tg iter ps)(w:∀cl C s₀ H₀ ex,PG (uQ X scope N' cl C s₀ H₀ ex) tg g)(j:ql X.K X.N.length is one g)(ht:∀cl C s₀ H₀ ex,SQ (uQ X scope N' cl C s₀ H₀ ex) c ifs t)(he:∀cl C s₀ H₀ ex,SX (uQ X scope N' cl C s₀ H₀ ex) c elt pe)(l:swapsWith (.ListComp elt [⟨tg,iter,ifs,0⟩] scope pos) (some (.Name x a)) b.line X.env=pure true:=by rfl)(hs:∀x,foldedSetIterable iter X.env x=pure x:=by intro _;rfl)(y:X.fn x=true\/X.env.scope.names.lookup x=some .local:=by first|(left;rfl)|(right;rfl)|assumption):SS X c nn (.Assign [.Name x a] (.ListComp elt [⟨tg,iter,ifs,0⟩] scope pos) b) (.asg i (.comp ps n is one t pe)):=by refine Td (CJ (tt:=Hf X.K (wO c t)) (te:=zf X.K (_H.ev c pe)) hc q h u ok hi w ht (λcl C s₀ H₀ ex=>(he cl C s₀ H₀ ex).ev) l hs y) ?_;rintro D σ H z⟨F,ρ,fl,B,E,e,k⟩;rw[_H.X6]at e;obtain⟨r,G,o,e⟩:=aj e;obtain⟨I,J,f,e⟩:=aj e;cases e;have L:=aD f;clear f;obtain⟨f,Q⟩:=L;rw[_H.E20]at o;exact BZ z j E o λv F1 M s1 O=>k F1 _ M (s1.put O f)
end
section
variable{X:Cx}{c:Call}{n:Nat}{e a b d:Expr}{p pa pb pd:P}{pos:Pos}{es:List Expr}{ps:List P}
noncomputable def tyN:D->String|.non=>"NoneType"|.bl _=>"bool"|.int _=>"int"|.str _=>"str"|.tup _=>"tuple"|.lst _=>"list"|.eN _=>"dict"|.dv _ _=>"dict"
noncomputable def Bf:Ty->String|.none=>"NoneType"|.bool=>"bool"|.int=>"int"|.str=>"str"|.tuple=>"tuple"|.list=>"list"
theorem Ro(K:PySem.W.Frag)(t:Ty)(d:D):kitOne K (.type (tyN d)) (.type (Bf t))=some (cH t d):=by cases t<;>cases d<;>rfl
theorem CW(K:PySem.W.Frag)(d:D):∀f:List Ty,PySem.W.kitAny K (.type (tyN d)) (f.map λt=>Value.type (Bf t))=some (f.any λt=>cH t d)|[]=>rfl|t::f=>by rw[map_cons,PySem.W.kitAny,Ro,any_cons];cases cH t d with|true=>rfl|false=>rw[Bool.false_or];exact CW K d f
theorem RG{k:List (Addr×Obj)}{x:V}{u:Value}{dt:D}(I:_L.Inv X k σ H s)(sm:aJ F H)(g:dI X.K F H x dt)(f:RelV x u):(∃r,KitX X.K u (.type (tyN dt)) r/\r s.heap)/\u≠.builtin "__main__.__loader__#opaque":=by cases dt with|non=>rw[g.non]at f;cases f;exact⟨⟨_,PySem.W.kitx_none,trivial⟩,nofun⟩|bl y=>rw[g.bl]at f;cases f;exact⟨⟨_,PySem.W.kitx_bool,trivial⟩,nofun⟩|int i=>rw[g.int]at f;obtain⟨t,rfl⟩:=f;exact⟨⟨_,PySem.W.kitx_int,trivial⟩,nofun⟩|str y=>rw[g.str]at f;obtain⟨t,rfl⟩:=f;exact⟨⟨_,PySem.W.kitx_str,trivial⟩,nofun⟩|tup ds=>obtain⟨q,xs,rfl,h,_⟩:=g.tup sm;cases f;obtain⟨l,_,⟨o,h1,j,_⟩,_⟩:=I.tuple h;exact⟨⟨_,PySem.W.kitx_tuple,⟨o,h1,j⟩⟩,nofun⟩|lst ds=>obtain⟨q,xs,rfl,h,_⟩:=g.lst sm;cases f;obtain⟨l,_,w,_⟩:=I.list h;obtain⟨o,h1,j,_⟩:=w.isList;exact⟨⟨_,PySem.W.kitx_list,⟨o,h1,j⟩⟩,nofun⟩|eN m=>obtain⟨q,_,rfl,h⟩:=g.eN sm;cases f;obtain⟨o,h1,j⟩:=HQ I h;exact⟨⟨_,kitx_dict,⟨o,h1,j⟩⟩,nofun⟩|dv ks ds=>obtain⟨q,_,vs,rfl,h,_⟩:=g.dv sm;cases f;obtain⟨o,h1,j⟩:=KQ I h;exact⟨⟨_,kitx_dict,⟨o,h1,j⟩⟩,nofun⟩
theorem TV(t:Ty):du X (.builtin "isinstance") (λxs H Q=>∃x F dt,xs=[x,.ty (Bf t)]/\aJ F H/\dI X.K F H x dt/\Q (.bl (cH t dt)) H):=by rintro g s σ H xs w Q I r⟨x,F,dt,h,sm,j,q⟩;subst h;obtain⟨u,k,rfl,l,rt⟩:=r.two;cases(show k=Value.type (Bf t)from rt);obtain⟨⟨y,Z,hz⟩,f⟩:=RG I sm j l;exact kia_one Z I.Mh hz (Ro _ t dt) f λo=>⟨.bl _,H,I.tok o,rfl,q⟩
theorem BJ:∀{g:List Ty}{f:List Value},Vals (g.map λt=>V.ty (Bf t)) f->f=g.map λt=>Value.type (Bf t)|[],_,h=>h.zero|t::g,_,.cons r1 j=>by rw[map_cons,<-BJ j,show _=_ from r1]
theorem Pk(g:List Ty):du X (.builtin "isinstance") (λxs H Q=>∃x F dt q,xs=[x,.ref q]/\H q=some (.tup (g.map λt=>V.ty (Bf t)))/\aJ F H/\dI X.K F H x dt/\Q (.bl (g.any λt=>cH t dt)) H):=by rintro l s σ H xs J Q I r⟨x,F,dt,q,o,y,sm,z,k⟩;subst o;obtain⟨u,B,rfl,C,rt⟩:=r.two;cases(show B=Value.ref q from rt);obtain⟨⟨L,Z,hz⟩,h⟩:=RG I sm z C;obtain⟨_,j,E,⟨⟨cls,dd,data,sl⟩,ho,hc,n,hd⟩⟩:=(show bA X.prog X.w H s.heap q (.tup _)from I.hok q _ y);simp only at hc hd;subst hc hd;have f:j=g.map λt=>Value.type (Bf t):=BJ E;subst f;exact PySem.W.kia_tup Z I.Mh hz ho (CW _ dt g) h λG=>⟨.bl _,H,I.tok G,rfl,k⟩
theorem nJ:bootBuiltins "isinstance"=some (.builtin "isinstance"):=by decide+kernel
theorem oh{y:Str}{f:Pos}(t:Ty)(u:x="isinstance")(w:Gl X x)(z:X.mg x=none)(B:SX X c a pa)(j:Gl X y)(l:X.mg y=none)(C:bootBuiltins y=some (.type (Bf t)))(o:y≠"__name__":=by decide)(q:(y==("__debug__":Str))=false:=by decide)(hs:starEach [a,.Name y f] X.env=(false,eval a X.env)::starEach [.Name y f] X.env:=by rfl):SX X c (.Call (.Name x p') [a,.Name y f] [] pos) (.inst [t] pa):=by subst u;obtain⟨M,h1,E⟩:=B.cL;refine⟨cP (cX (TV t) w z nJ (bz h1 (bz (rJ (v:=.ty (Bf t)) j l C rfl o q) cZ) hs) (he:=hs)) ?_,λi h=>by cases h⟩;rintro σ H Q⟨F,ρ,r,G,g,e,k⟩;rw[_H.E19]at e;obtain⟨dt,I,J,e⟩:=aj e;cases e;refine E g J λv F' H' s L=>⟨v,F',dt,rfl,s.gs.sub,L,k _ F' H' s ?_⟩;show Rep X.K F' _ _;rw[any_cons,List.any_nil,Bool.or_false];exact fO _
noncomputable def Qi(X:Cx)(f:List Ty)(es:List Expr):Prop:=PA X es (λ_ H Q=>Q (f.map λt=>V.ty (Bf t)) H)
theorem Oi:Qi X [] []:=nM cZ λ_ _ _ h=>h
theorem xU{y:Str}{f:Pos}{o:List Ty}(t:Ty)(g:Gl X y)(j:X.mg y=none)(q:bootBuiltins y=some (.type (Bf t)))(h:Qi X o es)(k:y≠"__name__":=by decide)(l:(y==("__debug__":Str))=false:=by decide)(hs:starEach (.Name y f::es) X.env=(false,eval (.Name y f) X.env)::starEach es X.env:=by rfl):Qi X (t::o) (.Name y f::es):=nM (bz (rJ (v:=.ty (Bf t)) g j q rfl k l) h hs) λ_ _ _ h=>h
theorem Ho{j:Pos}{k2}{f:List Ty}(u:x="isinstance")(w:Gl X x)(B:X.mg x=none)(C:SX X c a pa)(ht:Qi X f es)(hz:f.length<=sizeLine:=by decide)(hs:starEach [a,.Tuple es k2 j] X.env=(false,eval a X.env)::starEach [.Tuple es k2 j] X.env:=by rfl):SX X c (.Call (.Name x p') [a,.Tuple es k2 j] [] pos) (.inst f pa):=by
 subst u;obtain⟨M,h1,E⟩:=C.cL;refine⟨cP (cX (Pk f) w B nJ (bz h1 (bz (zU ht) cZ) hs) (he:=hs)) ?_,λi h=>by cases h⟩;rintro σ H Q⟨F,ρ,r,G,g,e,k⟩;rw[_H.E19]at e;obtain⟨dt,I,J,e⟩:=aj e;cases e;refine E g J λv F' H' s L=>⟨by rw[length_map];exact hz,λq l=>?_⟩;have N:F' q=none:=by cases z:F' q with|none=>rfl|some o=>rw[s.gs.sub q o z]at l;cases l
 have sm:aJ H' (upd H' q (.tup (f.map λt=>V.ty (Bf t)))):=aJ.cu l;have ext:Ext F' H' F' (upd H' q (.tup (f.map λt=>V.ty (Bf t)))):=⟨sm,.refl _,s.gs.sub.trans sm,λ_ x y=>absurd x y⟩;refine⟨v,F',dt,q,rfl,aL,s.gs.sub.trans sm,L.mono (.refl _) (λa xs _ z=>sm a _ z),k _ F' _ (s.trans (ext.stp s.gs)) (show Rep X.K F' _ _ from fO _)⟩
inductive rBn(K:PySem.W.Frag)(f:List D->Option R)(xs:List V)(H:Hp)(Q:VK):Prop where|mk(F:Hp)(ds:List D)(r:R)(sm:aJ F H)(rs:aH K F xs ds)(he:f ds=some r)(k:∀v F' H',Ext F H F' H'->cG K F' H' H v r->Q v H')
theorem QT{E:Expr}{f:List D->Option R}{q:P}(o:∀{t},PA X es t->PE X E (tCB (rBn X.K f) t))(u:SA X c es ps)(y:∀ρ,_H.ev c q ρ=(evs c ps ρ).bind λds ρ=>lift (f ds) ρ)(z:isVar q=none):SX X c E q:=by refine⟨cP (o u.1) ?_,λi h=>by rw[z]at h;cases h⟩;rintro σ H Q⟨F,ρ,r,B,g,e,k⟩;rw[y]at e;obtain⟨ds,l,C,j⟩:=aj e;have G:=aD j;clear j;obtain⟨j,I⟩:=G;subst I;exact⟨F,ρ,ds,l,g,C,λvs F' H' s J=>⟨F',ds,r,s.gs.sub,J,j,λw L M x N=>k w L M (s.trans (x.stp s.gs)) (.later s (N.o9 s.gs))⟩⟩
theorem Rf{xs:List V}{i j:Int}(h:aH K F xs [.int i,.int j]):xs=[.int i,.int j]:=by obtain⟨v,r,rfl,h1,g⟩:=h.cW;obtain⟨u,l,rfl,f,k⟩:=g.cW;rw[Rep]at h1 f;rw[h1,f,k.gW]
theorem inv2{f:Blt}{g:Int->Int->Int}{r:R}(h0:blt f []=none)(h1:∀a,blt f [a]=none)(o:∀a b c l,blt f (a::b::c::l)=none)(q:∀a b,ir a=false->blt f [a,b]=none)(t:∀i b,ir b=false->blt f [.int i,b]=none)(hi:∀i j,blt f [.int i,.int j]=some (.val (.int (g i j))))(he:blt f ds=some r):∃i j,ds=[.int i,.int j]/\r=.val (.int (g i j)):=by
 rcases ds with _|⟨a,_|⟨b,_|⟨c,l⟩⟩⟩;.rw[h0]at he;cases he
 .rw[h1]at he;cases he
 . by_cases h:ir a=true
   . obtain⟨i,rfl⟩:∃i,a=.int i:=by cases a<;>first|exact⟨_,rfl⟩|cases h
     by_cases k:ir b=true
     . obtain⟨j,rfl⟩:∃j,b=.int j:=by cases b<;>first|exact⟨_,rfl⟩|cases k
       rw[hi]at he;cases he;exact⟨i,j,rfl,rfl⟩
     .rw[t i b (by simpa using k)]at he;cases he
   .rw[q a b (by simpa using h)]at he;cases he
 .rw[o]at he;cases he
theorem Ti(hc:X.calm=true):du X (.builtin "min") (rBn X.K (blt .min2)):=by rintro f s σ H xs o Q I r⟨F,ds,t,sm,q,he,k⟩;obtain⟨i,j,rfl,rfl⟩:=inv2 (g:=λi j=>if j<i then j else i) rfl (λa=>by cases a<;>rfl) (λa b c l=>by cases a<;>first|rfl|(cases b<;>rfl)) (λa b h=>by cases a<;>first|rfl|cases h) (λi b h=>by cases b<;>first|rfl|cases h) (λ_ _=>rfl) he;rw[Rf q]at r;exact Gs hc f s σ H _ o Q I r ⟨_,_,rfl,cG.dB sm (bY _) k⟩
theorem Uw(hc:X.calm=true):du X (.builtin "max") (rBn X.K (blt .max2)):=by rintro f s σ H xs o Q I r⟨F,ds,t,sm,q,he,k⟩;obtain⟨i,j,rfl,rfl⟩:=inv2 (g:=λi j=>if i<j then j else i) rfl (λa=>by cases a<;>rfl) (λa b c l=>by cases a<;>first|rfl|(cases b<;>rfl)) (λa b h=>by cases a<;>first|rfl|cases h) (λi b h=>by cases b<;>first|rfl|cases h) (λ_ _=>rfl) he;rw[Rf q]at r;exact EY hc f s σ H _ o Q I r ⟨_,_,rfl,cG.dB sm (bY _) k⟩
theorem boot_min:bootBuiltins "min"=some (.builtin "min"):=by decide+kernel
theorem boot_max:bootBuiltins "max"=some (.builtin "max"):=by decide+kernel
theorem Qq(f:x="min")(hc:X.calm=true)(g:Gl X x)(j:X.mg x=none)(k:SA X c [a,b] [pa,pb])(hs:starEach [a,b] X.env=(false,eval a X.env)::starEach [b] X.env:=by rfl)(hpl:(backTo pos (starEach [b] X.env)).any (·.1)=false:=by rfl):SX X c (.Call (.Name x p') [a,b] [] pos) (.blt .min2 [pa,pb]):=by subst f;exact QT (λh=>cX (Ti hc) g j boot_min h (he:=hs) (hpl:=hpl)) k (λρ=>rfl) rfl
theorem lZ(f:x="max")(hc:X.calm=true)(g:Gl X x)(j:X.mg x=none)(k:SA X c [a,b] [pa,pb])(hs:starEach [a,b] X.env=(false,eval a X.env)::starEach [b] X.env:=by rfl)(hpl:(backTo pos (starEach [b] X.env)).any (·.1)=false:=by rfl):SX X c (.Call (.Name x p') [a,b] [] pos) (.blt .max2 [pa,pb]):=by subst f;exact QT (λh=>cX (Uw hc) g j boot_max h (he:=hs) (hpl:=hpl)) k (λρ=>rfl) rfl
end
section
variable{X:Cx}{c:Call}{n:Nat}{e a b d:Expr}{p pa pb pd:P}{pos:Pos}{es:List Expr}{ps:List P}
theorem wg(g:GS K F ρ σ H)(h:Ad ρ i=some ds):∃a xs,σ[i]?=some (some (V.ref a))/\fM K H a xs:=by
 unfold Ad at h;split at h;.rename_i q;cases h;obtain⟨v,h1,f⟩:=g.pk q;obtain⟨a,xs,rfl,j,_⟩:=f.lst g.sub;exact⟨a,xs,h1,j⟩
 .cases h
theorem Dv{k:Nat}{h f:Pos}(I:X.N[k]?=some x)(J:vC X.env.scope x)(hi:SX X c b pb)(he:SX X c e p)(L:∀ v,assign (.Subscript (.Name x h) b f) X.env v=(do
  let l<-holding [v] (eval (.Name x h) X.env)let iv<-holding [v,l] (eval b X.env)standAt f
  holding [v,l,iv] (setItem l iv v)release [v,l,iv] []):=by intro _;rfl)(hs:swapsWithSole [.Subscript (.Name x h) b f] e pos.line X.env=pure false:=by rfl)(M:swappedStores [.Subscript (.Name x h) b f] e X.env=pure none:=by rfl)(h1:(assignEach [.Subscript (.Name x h) b f] X.env).map (·.2)=[assign (.Subscript (.Name x h) b f) X.env]:=by rfl)(hd:(x==("__debug__":Str))=false:=by decide)(u:(x==("__classdict__":Str))=false:=by decide):SS X c n (.Assign [.Subscript (.Name x h) b f] e pos) (.Lf k pb p):=by
 obtain⟨ti,w,y⟩:=hi.cL;refine cz (Hd he.ev (U9 (dO I J hd u) w set_list L) hs M h1) ?_;rintro D σ H⟨F,ρ,fl,O,g,e,kk⟩;rw[_H.X9]at e;obtain⟨r,z,Q,e⟩:=aj e;obtain⟨x0,C,t,e⟩:=aj e;have U:=aD t;clear t;obtain⟨t,W⟩:=U;subst W;obtain⟨dk,Y,Z,e⟩:=aj e;refine⟨F,ρ,r,z,g,Q,λv F1 H1 s1 rr=>?_⟩;obtain⟨F2,s2,_,rp⟩:=s1.dz rr;obtain⟨o,ho,_⟩:=s2.gs.pk t;refine⟨o,ho,y s2.gs Z λvi F3 H3 s3 pi=>?_⟩;split at e
 . rename_i bb ds B q;split at e;.rename_i j hj;cases e;obtain⟨ad,xs,E,q2,q3,G⟩:=s3.gs.uw k _ ds q rfl;rw[ho]at E;cases E;refine⟨ad,xs,B,j,rfl,pi.int,q2,by rw[G.length];exact hj,?_⟩;exact kk F3 σ _ ((s2.trans s3).trans (s3.gs.mut q ho (G.set (rp.mono s3.cF) j)))
   .cases e
 .cases e
theorem eX{k:Nat}{l f cpos:Pos}(E:X.N[k]?=some x)(G:vC X.env.scope x)(he:SX X c e p)(h:(f.endLine==cpos.line)=true:=by rfl)(hs:starEach [e] X.env=(false,eval e X.env)::starEach [] X.env:=by rfl)(j:attributeBase (.Name x l) "append" X.env (eval (.Name x l) X.env)=eval (.Name x l) X.env:=by rfl)(o:((backTo cpos (starEach [e] X.env)).all (λx=>!x.1)&&(backToKw cpos (keywordEach [] X.env)).all (λx=>x.1.isSome)&&decide ([e].length+([]:List Keyword).length+(if([]:List Keyword).isEmpty then 0 else 1)<30))=true:=by rfl)(u:swapsWith (.Call (.Attribute (.Name x l) "append" f) [e] [] cpos) none pos.line X.env=pure false:=by rfl)(hd:(x==("__debug__":Str))=false:=by decide)(w:(x==("__classdict__":Str))=false:=by decide):SS X c n (.Expr (.Call (.Attribute (.Name x l) "append" f) [e] [] cpos) pos) (.app k p):=by
 refine cz (nZ (Kg plainAttrs_list PySem.F.slot_list_append PySem.F.type_list_append pR (dO E G hd w) (bz he.ev cZ hs) j o h hs) u) ?_;rintro D σ H⟨F,ρ,fl,I,g,e,kk⟩;rw[_H.X10]at e;obtain⟨d0,J,t,e⟩:=aj e;have L:=aD t;clear t;obtain⟨t,M⟩:=L;subst M;obtain⟨r,y,O,e⟩:=aj e;obtain⟨a,xs,h1,Q⟩:=wg g t;refine⟨.ref a,h1,.inl ⟨rfl,xs,Q⟩,F,ρ,r,y,g,O,λv F1 H1 s1 U=>?_⟩;obtain⟨W,s2,_,Y⟩:=s1.dz U;split at e
 . rename_i bb ds q;split at e;.rename_i z;cases e;obtain⟨ad,ys,B,Z,q3,C⟩:=s2.gs.uw k _ ds q rfl;rw[h1]at B;cases B;exact⟨_,ys,v,rfl,rfl,Z,by rw[C.length];exact z,kk W σ _ (s2.trans (s2.gs.mut q h1 (C.append (.cons Y .nil))))⟩
   .cases e
 .cases e
theorem Tu{j:Nat}{y:Str}{l o pt:Pos}{kt k2 Wu}(hc:X.calm=true)(C:X.N.Nodup)(hi:X.N[i]?=some x)(E:X.N[j]?=some y)(q:i≠j)(G:X.env.scope.names.lookup x=some .local)(I:X.env.scope.names.lookup y=some .local)(J:SX X c a pa)(L:SX X c b pb)(M:swappedStores [.Tuple [.Name x l,.Name y o] kt pt] (.Tuple [a,b] k2 Wu) X.env=pure (some [x,y]):=by rfl)(hs:swapsWithSole [.Tuple [.Name x l,.Name y o] kt pt] (.Tuple [a,b] k2 Wu) pos.line X.env=pure false:=by rfl)(h1:starEach [a,b] X.env=(false,eval a X.env)::starEach [b] X.env:=by rfl)(O:starEach [b] X.env=(false,eval b X.env)::starEach [] X.env:=by rfl):SS X c n (.Assign [.Tuple [.Name x l,.Name y o] kt pt] (.Tuple [a,b] k2 Wu) pos) (.par i j pa pb):=by refine cz (_L.SM hc C hi E q G I (bz J.ev (bz L.ev cZ O) h1) M hs) ?_;rintro D σ H⟨F,ρ,fl,Q,g,e,k⟩;rw[_H.X7]at e;obtain⟨r,f,U,e⟩:=aj e;obtain⟨B,t,W,e⟩:=aj e;obtain⟨Y,Z,h,e⟩:=aj e;cases e;have zz:=aD h;clear h;obtain⟨h,e4⟩:=zz;obtain⟨ac,e5,e6⟩:=cU h;refine⟨F,ρ,r,f,g,U,λv F1 H1 s1 rr=>?_⟩;obtain⟨F2,s2,_,rp⟩:=s1.dz rr;refine⟨F2,f,B,t,s2.gs,W,λu F3 H3 s3 w=>?_⟩;obtain⟨F4,s4,_,z⟩:=s3.dz w;refine⟨v,u,rfl,?_⟩;have t4:=s2.trans s4;have t5:=t4.put (r:=.val r.d) (v:=v) (rp.mono s4.cF) e5;exact k F4 _ H3 (t5.put (r:=.val B.d) (v:=u) z e6)
theorem JK{bs:List Bool}(h:ds.mapM Cj=some bs):ds=bs.map D.bl:=by induction ds generalizing bs with|nil=>simp at h;subst h;rfl|cons d ds f=>rw[List.mapM_cons]at h;cases hd:Cj d with|none=>rw[hd]at h;cases h|some k=>rw[hd]at h;cases hr:ds.mapM Cj with|none=>rw[hr]at h;cases h|some r=>rw[hr]at h;cases h;rw[map_cons,<-f hr,uy hd]
theorem Dz{K:PySem.W.Frag}{F:Hp}:∀{bs:List Bool}{xs:List V},aH K F xs (bs.map D.bl)->xs=bs.map V.bl|[],_,h=>h.gW|k::bs,_,h=>by obtain⟨v,r,rfl,h1,f⟩:=h.cW;rw[Rep]at h1;rw[h1,Dz f];rfl
theorem Cv:∀{bs:List Bool}{f:List Value},Vals (bs.map V.bl) f->f=bs.map Value.bool|[],_,h=>h.zero|k::bs,_,.cons r t=>by rw[map_cons,<-Cv t,show _=_ from r]
theorem PX{id:String}{f:List Bool->Bool}(hc:X.calm=true)(rule:∀{x:Value}{Q:Value->Shared->Prop}{s:Shared},wpAny (model X.prog X.w) X.A.in1 (pyIter x) (λit g=>∃ I G t n P St y,it=.ref I/\Walks X.prog X.w X.A.in1 I G t n P St/\St 0 g.heap/\TruthOf X.prog X.w X.A.in1 P y/\∀h' B,(∀b o,b∉t->g.heap.get? b=some o->h'.get? b=some o)->Q (.bool (f ((List.range n).map y))) {g with heap:=h',toks:=B}) X.xe s->wpAny (model X.prog X.w) X.A (call (.builtin id) [x]) Q X.xe s):du X (.builtin id) (λxs H Q=>∃p ys bs,xs=[.ref p]/\fM X.K H p ys/\ys=bs.map V.bl/\Q (.bl (f bs)) H):=by
 rintro C s σ H xs us Q I r⟨p,ys,bs,J,L,M,k⟩;subst J;subst M;obtain⟨u,rfl,N⟩:=r.one;cases N;obtain⟨O,U,l,hz⟩:=I.list L;have h:=Cv U;subst h;refine rule (wpAny_pyIter_list l.isList ?_);have q:p≠s.heap.objs.size:=by obtain⟨o,h1,_⟩:=l.isList;exact ne_of_lt (lt_size h1)
 refine⟨s.heap.objs.size,_,_,_,_,_,λi=>bs.getD i false,rfl,Walks.list (prog:=X.prog) (w:=X.w) (A:=X.A.in1) (show X.A.in1.handled=none from I.ok.hd hc) s.heap.objs.size p q (bs.map Value.bool).toArray,⟨⟨_,get?_push_size _ rfl,rfl,rfl⟩,?_⟩,?_,λh' B kp=>?_⟩;.obtain⟨o,h1,E⟩:=l.isList;exact⟨o,gY h1,E⟩
 . intro i v s' Q' E' j W;have Y:v=.bool (bs.getD i false):=by
    have j:(bs.map Value.bool)[i]?=some v:=by simpa using j
    rw[getElem?_map]at j;obtain⟨k',Z,e2⟩:=map_some j;rw[<-e2,List.getD_eq_getElem?_getD,Z];rfl
   subst Y;exact wpAny_truthy_bool W
 . have e:f ((List.range (bs.map Value.bool).toArray.size).map λi=>bs.getD i false)=f bs:=by
    congr 1;apply ext_getElem;.simp
    .intro i h1 E;simp at h1;simp[h1]
   rw[e];exact⟨.bl _,H,I.kept (λb o z=>kp b o (by simp;exact ne_of_lt (lt_size z)) (gY z)),rfl,k⟩
theorem Zu(hc:X.calm=true):du X (.builtin "all") (Ox X.K λx=>blt .all [x]):=by rintro g s σ H xs q Q I r⟨x,t,F,d,u,sm,w,he,k⟩;obtain⟨bs,y,he⟩:=map_some (show((Af d).bind λds=>ds.mapM Cj).map _=some u from he);subst he;obtain⟨ds,j,B⟩:=cU y;have C:=JK B;cases d with|lst es=>cases j;obtain⟨p,ys,rfl,E,l⟩:=w.lst sm;rw[C]at l;refine PX (f:=λbs=>bs.all id) hc (λh=>call_all_walk (wpAny_mono h (λit o⟨I,fp,wr,n,P,Sx,tr,h1,h2,h3,h4,h5⟩=>⟨I,fp,wr,n,P,Sx,tr,h1,h2,h3,h4,λh' G kp=>?_⟩) λ_ _ z=>z)) g s σ H xs q Q I r ⟨p,ys,bs,t,E,Dz l,cG.dB sm (fO _) k⟩;have z:=h5 h' G kp;rw[List.all_map]at z;exact z|_=>cases j
theorem boot_all:bootBuiltins "all"=some (.builtin "all"):=by decide+kernel
theorem Tt(f:x="all")(hc:X.calm=true)(g:Gl X x)(j:X.mg x=none)(k:SX X c a pa)(hs:starEach [a] X.env=(false,eval a X.env)::starEach [] X.env:=by rfl):SX X c (.Call (.Name x p') [a] [] pos) (.blt .all [pa]):=by subst f;exact p6 (λh=>cX (Zu hc) g j boot_all h (he:=hs)) k (λρ=>rfl) rfl hs
end
section
variable{K:PySem.W.Frag}
theorem kI:∀{xs ys:List D},xs.length≠ys.length->mz xs ys=false|[],[],h=>absurd rfl h|[],_::_,_=>by simp[lu,iR,oY,pP]|_::_,[],_=>by simp[lu,iR,oY,pP]|x::xs,y::ys,h=>by rw[iR,kI (xs:=xs) (ys:=ys) (by simpa using h),Bool.and_false]
theorem gV:∀{xs ys:List D},xs.length=ys.length->mz xs ys=(List.range xs.length).all λj=>mq (xs.getD j .non) (ys.getD j .non)|[],[],_=>by rw[lu];rfl|[],_::_,h=>by simp at h|_::_,[],h=>by simp at h|x::xs,y::ys,h=>by rw[iR,gV (xs:=xs) (ys:=ys) (by simpa using h),length_cons,List.range_succ_eq_map,all_cons,List.all_map];rfl
mutual
theorem xR:∀d:D,mq d d=true|.non=>rfl|.bl _=>by exact beq_self_eq_true _|.int _=>by exact beq_self_eq_true _|.str _=>by exact beq_self_eq_true _|.tup ds=>by exact lM ds|.lst ds=>by exact lM ds|.eN _=>by exact decide_eq_true rfl|.dv ks ds=>by show(decide (ks=ks)&&mz ds ds)=true;rw[lM ds];simp
theorem lM:∀ds:List D,mz ds ds=true|[]=>by rw[lu]|d::ds=>by rw[iR,xR d,lM ds];rfl
end
theorem gb{d e:D}(b:flat d=true)(h1:Rep K F v d)(a:Rep K F v e):d=e:=by cases d with
 |tup _=>cases b|lst _=>cases b|eN _=>cases b|dv _ _=>cases b|non=>rw[Rep]at h1;subst h1;cases e with|non=>rfl|tup _=>rw[Rep]at a;obtain⟨_,_,q,_⟩:=a;cases q|lst _=>rw[Rep]at a;obtain⟨_,_,q,_⟩:=a;cases q|eN _=>rw[Rep]at a;obtain⟨_,_,q,_⟩:=a;cases q|dv _ _=>rw[Rep]at a;obtain⟨_,_,_,q,_⟩:=a;cases q|_=>rw[Rep]at a;cases a
 |bl k=>rw[Rep]at h1;subst h1;cases e with|bl _=>rw[Rep]at a;cases a;rfl|tup _=>rw[Rep]at a;obtain⟨_,_,q,_⟩:=a;cases q|lst _=>rw[Rep]at a;obtain⟨_,_,q,_⟩:=a;cases q|eN _=>rw[Rep]at a;obtain⟨_,_,q,_⟩:=a;cases q|dv _ _=>rw[Rep]at a;obtain⟨_,_,_,q,_⟩:=a;cases q|_=>rw[Rep]at a;cases a
 |int k=>rw[Rep]at h1;subst h1;cases e with|int _=>rw[Rep]at a;cases a;rfl|tup _=>rw[Rep]at a;obtain⟨_,_,q,_⟩:=a;cases q|lst _=>rw[Rep]at a;obtain⟨_,_,q,_⟩:=a;cases q|eN _=>rw[Rep]at a;obtain⟨_,_,q,_⟩:=a;cases q|dv _ _=>rw[Rep]at a;obtain⟨_,_,_,q,_⟩:=a;cases q|_=>rw[Rep]at a;cases a
 |str k=>rw[Rep]at h1;subst h1;cases e with|str _=>rw[Rep]at a;cases a;rfl|tup _=>rw[Rep]at a;obtain⟨_,_,q,_⟩:=a;cases q|lst _=>rw[Rep]at a;obtain⟨_,_,q,_⟩:=a;cases q|eN _=>rw[Rep]at a;obtain⟨_,_,q,_⟩:=a;cases q|dv _ _=>rw[Rep]at a;obtain⟨_,_,_,q,_⟩:=a;cases q|_=>rw[Rep]at a;cases a
theorem Pb{X:Cx}{u:List (Addr×Obj)}(I:_L.Inv X u σ H s)(sm:aJ F H):∀n:Nat,(∀d:D,jR n d=true->∀(v:V)(e:D),Rep X.K F v d->Rep X.K F v e->d=e):=by
 have N:∀{a:Addr}{xs ys:List V},jw X.K F a xs->fM X.K F a ys->False:=λ{a xs ys}h1 b=>by obtain⟨_,_,⟨o,g,j,_⟩,_⟩:=I.tuple (aJ.iG sm h1);obtain⟨_,_,w,_⟩:=I.list (sm.seq b);obtain⟨C,c,f,_⟩:=w.isList;rw[g]at c;cases c;rw[j]at f;exact absurd f (by decide)
 have dd:∀{a:Addr}{kvs:Dc},Rep X.K F (.ref a) (.eN kvs)->∃o,s.heap.get? a=some o/\o.cls=.type "dict":=λ{a kvs}h=>by rw[Rep]at h;obtain⟨y,_,q,E⟩:=h;cases q;exact HQ I (sm _ _ E)
 have O:∀{a:Addr}{xs:List V}{kvs:Dc},jw X.K F a xs->Rep X.K F (.ref a) (.eN kvs)->False:=λ{a xs kvs}h1 b=>by obtain⟨_,_,⟨o,g,j,_⟩,_⟩:=I.tuple (aJ.iG sm h1);obtain⟨C,c,f⟩:=dd b;rw[g]at c;cases c;rw[j]at f;exact absurd f (by decide)
 have ld:∀{a:Addr}{xs:List V}{kvs:Dc},fM X.K F a xs->Rep X.K F (.ref a) (.eN kvs)->False:=λ{a xs kvs}h1 b=>by obtain⟨_,_,w,_⟩:=I.list (sm.seq h1);obtain⟨o,g,j,_⟩:=w.isList;obtain⟨C,c,f⟩:=dd b;rw[g]at c;cases c;rw[j]at f;exact absurd f (by decide)
 have z:∀{a:Addr}{ks:List Int}{es:List D},Rep X.K F (.ref a) (.dv ks es)->∃o,s.heap.get? a=some o/\o.cls=.type "dict":=λ{a ks es}h=>by rw[Rep]at h;obtain⟨y,_,_,q,E,_⟩:=h;cases q;exact KQ I (sm _ _ E)
 have G:∀{a:Addr}{xs:List V}{ks:List Int}{es:List D},jw X.K F a xs->Rep X.K F (.ref a) (.dv ks es)->False:=λ{a xs ks es}h1 b=>by obtain⟨_,_,⟨o,g,j,_⟩,_⟩:=I.tuple (aJ.iG sm h1);obtain⟨C,c,f⟩:=z b;rw[g]at c;cases c;rw[j]at f;exact absurd f (by decide)
 have J:∀{a:Addr}{xs:List V}{ks:List Int}{es:List D},fM X.K F a xs->Rep X.K F (.ref a) (.dv ks es)->False:=λ{a xs ks es}h1 b=>by obtain⟨_,_,w,_⟩:=I.list (sm.seq h1);obtain⟨o,g,j,_⟩:=w.isList;obtain⟨C,c,f⟩:=z b;rw[g]at c;cases c;rw[j]at f;exact absurd f (by decide)
 intro n;induction n with
 |zero=>intro d hd v e h1 b;cases d with|tup _=>simp[bJ,bD,bG,bH,bI,bK]at hd|lst _=>simp[bJ,bD,bG,bH,bI,bK]at hd|eN _=>simp[bJ,bD,bG,bH,bI,bK]at hd|dv _ _=>simp[bJ,bD,bG,bH,bI,bK]at hd|non=>exact gb rfl h1 b|bl k=>exact gb rfl h1 b|int k=>exact gb rfl h1 b|str k=>exact gb rfl h1 b
 |succ n Q=>
   have all:∀{xs:List V}{ds es:List D},ds.all (jR n)=true->aH X.K F xs ds->aH X.K F xs es->ds=es:=λ{xs ds}=>by induction ds generalizing xs with|nil=>intro es _ h1 b;rw[h1.gW]at b;have:=b.length;exact(List.eq_nil_of_length_eq_zero this.symm).symm|cons d ds L=>intro es p h1 b;rw[all_cons,and_eq_true]at p;obtain⟨v,r,rfl,g,j⟩:=h1.cW;cases es with|nil=>cases b.gW|cons e es=>obtain⟨W,Y,U,c,f⟩:=b.cW;cases U;rw[Q d p.1 v e g c,L p.2 j f]
   intro d hd v e h1 b;cases d with
   |eN _=>simp[bJ,bD,bG,bH,bI,bK]at hd|dv _ _=>simp[bJ,bD,bG,bH,bI,bK]at hd|tup ds=>
     have p:ds.all (jR n)=true:=by simpa[bJ,bD,bG,bH,bI,bK]using hd
     rw[Rep]at h1;obtain⟨a,xs,rfl,l,M⟩:=h1;cases e with|tup es=>rw[Rep]at b;obtain⟨y,ys,q,t,B⟩:=b;cases q;have:=I.o5 (aJ.iG sm l) (aJ.iG sm t);subst this;rw[all p M B]|lst es=>rw[Rep]at b;obtain⟨y,ys,q,t,B⟩:=b;cases q;exact(N l t).elim|eN _=>exact(O l b).elim|dv _ _=>exact(G l b).elim|_=>rw[Rep]at b;cases b
   |lst ds=>
     have p:ds.all (jR n)=true:=by simpa[bJ,bD,bG,bH,bI,bK]using hd
     rw[Rep]at h1;obtain⟨a,xs,rfl,l,M⟩:=h1;cases e with|lst es=>rw[Rep]at b;obtain⟨y,ys,q,t,B⟩:=b;cases q;have:=I.t8 (sm.seq l) (sm.seq t);subst this;rw[all p M B]|tup es=>rw[Rep]at b;obtain⟨y,ys,q,t,B⟩:=b;cases q;exact(N t l).elim|eN _=>exact(ld l b).elim|dv _ _=>exact(J l b).elim|_=>rw[Rep]at b;cases b
   |non=>exact gb rfl h1 b|bl k=>exact gb rfl h1 b|int k=>exact gb rfl h1 b|str k=>exact gb rfl h1 b
theorem De{d e:D}{u:V}{c:Value}(hd:flat d=true)(he:flat e=true)(h1:Rep K F v d)(a:Rep K F u e)(r1:RelV v c)(b:RelV u u'):SeqAt.EqAt A s c u' (mq d e):=by cases d with
 |tup _=>cases hd|lst _=>cases hd|eN _=>cases hd|dv _ _=>cases hd|non=>rw[Rep]at h1;subst h1;cases(show c=.none from r1);cases e with|tup _=>cases he|lst _=>cases he|eN _=>cases he|dv _ _=>cases he|non=>rw[Rep]at a;subst a;cases(show u'=.none from b);exact SeqAt.EqAt.same _|bl _=>rw[Rep]at a;subst a;cases(show u'=.bool _ from b);exact SeqAt.EqAt.none_bool _|int _=>rw[Rep]at a;subst a;obtain⟨t,rfl⟩:=b;exact SeqAt.EqAt.none_int _ _|str _=>rw[Rep]at a;subst a;obtain⟨t,rfl⟩:=b;exact SeqAt.EqAt.none_str _ _
 |bl _=>rw[Rep]at h1;subst h1;cases(show c=.bool _ from r1);cases e with|tup _=>cases he|lst _=>cases he|eN _=>cases he|dv _ _=>cases he|non=>rw[Rep]at a;subst a;cases(show u'=.none from b);exact SeqAt.EqAt.bool_none _|bl _=>rw[Rep]at a;subst a;cases(show u'=.bool _ from b);exact SeqAt.EqAt.bool_bool _ _|int _=>rw[Rep]at a;subst a;obtain⟨t,rfl⟩:=b;exact SeqAt.EqAt.bool_int _ _ _|str _=>rw[Rep]at a;subst a;obtain⟨t,rfl⟩:=b;exact SeqAt.EqAt.bool_str _ _ _
 |int _=>rw[Rep]at h1;subst h1;obtain⟨t0,rfl⟩:=r1;cases e with|tup _=>cases he|lst _=>cases he|eN _=>cases he|dv _ _=>cases he|non=>rw[Rep]at a;subst a;cases(show u'=.none from b);exact SeqAt.EqAt.int_none _ _|bl _=>rw[Rep]at a;subst a;cases(show u'=.bool _ from b);exact SeqAt.EqAt.int_bool _ _ _|int _=>rw[Rep]at a;subst a;obtain⟨t,rfl⟩:=b;exact SeqAt.EqAt.int_int _ _ _ _|str _=>rw[Rep]at a;subst a;obtain⟨t,rfl⟩:=b;exact int_str _ _ _ _
 |str _=>rw[Rep]at h1;subst h1;obtain⟨t0,rfl⟩:=r1;cases e with|tup _=>cases he|lst _=>cases he|eN _=>cases he|dv _ _=>cases he|non=>rw[Rep]at a;subst a;cases(show u'=.none from b);exact SeqAt.EqAt.str_none _ _|bl _=>rw[Rep]at a;subst a;cases(show u'=.bool _ from b);exact SeqAt.EqAt.str_bool _ _ _|int _=>rw[Rep]at a;subst a;obtain⟨t,rfl⟩:=b;exact str_int _ _ _ _|str _=>rw[Rep]at a;subst a;obtain⟨t,rfl⟩:=b;exact SeqAt.EqAt.str_str _ _ _ _
theorem nu{e:D}{u:V}{a:Addr}{g:Array Value}(ht:s.heap.IsTuple a g)(b:A.units<cLine)(he:flat e=true)(c:Rep K F u e)(f:RelV u u'):SeqAt.EqAt A s (.ref a) u' (mq (.tup ds) e)/\SeqAt.EqAt A s u' (.ref a) (mq e (.tup ds)):=by cases e with|tup _=>cases he|lst _=>cases he|eN _=>cases he|dv _ _=>cases he|non=>rw[Rep]at c;subst c;cases(show u'=.none from f);exact⟨SeqAt.EqAt.tuple_none ht b,SeqAt.EqAt.none_tuple ht b⟩|bl _=>rw[Rep]at c;subst c;cases(show u'=.bool _ from f);exact⟨SeqAt.EqAt.tuple_bool _ ht b,SeqAt.EqAt.bool_tuple _ ht b⟩|int _=>rw[Rep]at c;subst c;obtain⟨t,rfl⟩:=f;exact⟨SeqAt.EqAt.tuple_int _ _ ht b,SeqAt.EqAt.int_tuple _ _ ht b⟩|str _=>rw[Rep]at c;subst c;obtain⟨t,rfl⟩:=f;exact⟨SeqAt.EqAt.tuple_str _ _ ht b,SeqAt.EqAt.str_tuple _ _ ht b⟩
theorem oO{e:D}{u:V}{a:Addr}{g:Array Value}(ht:s.heap.IsList a g)(b:A.units<cLine)(he:flat e=true)(c:Rep K F u e)(f:RelV u u'):SeqAt.EqAt A s (.ref a) u' (mq (.lst ds) e)/\SeqAt.EqAt A s u' (.ref a) (mq e (.lst ds)):=by cases e with|tup _=>cases he|lst _=>cases he|eN _=>cases he|dv _ _=>cases he|non=>rw[Rep]at c;subst c;cases(show u'=.none from f);exact⟨SeqAt.EqAt.list_none ht b,SeqAt.EqAt.none_list ht b⟩|bl _=>rw[Rep]at c;subst c;cases(show u'=.bool _ from f);exact⟨SeqAt.EqAt.list_bool _ ht b,SeqAt.EqAt.bool_list _ ht b⟩|int _=>rw[Rep]at c;subst c;obtain⟨t,rfl⟩:=f;exact⟨SeqAt.EqAt.list_int _ _ ht b,SeqAt.EqAt.int_list _ _ ht b⟩|str _=>rw[Rep]at c;subst c;obtain⟨t,rfl⟩:=f;exact⟨SeqAt.EqAt.list_str _ _ ht b,SeqAt.EqAt.str_list _ _ ht b⟩
theorem xQ{n:Nat}{d:D}(h:jR n d=true)(h0:n=0):flat d=true:=by subst h0;cases d<;>first|rfl|simp[bJ,bD,bG,bH,bI,bK]at h
theorem aeK{X:Cx}{G:List (Addr×Obj)}(I:_L.Inv X G σ H s)(sm:aJ F H):∀(n:Nat)(A:Around),A.units+n<cLine->∀(d e:D),jR n d=true->jR n e=true->∀(v u:V)(J u':Value),Rep X.K F v d->Rep X.K F u e->RelV v J->RelV u u'->SeqAt.EqAt A s J u' (mq d e):=by intro n;induction n with|zero=>intro A Z d e hd he v u J u' h1 f r1 g;exact De (xQ hd rfl) (xQ he rfl) h1 f r1 g|succ n ih=>
   intro A Z d e hd he v u J u' h1 f r1 g;have c:A.units<cLine:=by omega
   have N:A.in1.units+n<cLine:=by show A.units+1+n<cLine;omega--items by place
   have L:∀{xs ys:List V}{t ws:List Value}{ds es:List D}{j:Nat}(k1:j<t.toArray.size)(k2:j<ws.toArray.size),ds.all (jR n)=true->es.all (jR n)=true->Vals xs t->Vals ys ws->aH X.K F xs ds->aH X.K F ys es->SeqAt.EqAt A.in1 s t.toArray[j] ws.toArray[j] (mq (ds.getD j .non) (es.getD j .non)):=λ{xs ys t ws ds es j}k1 k2 a1 a2 E l h k=>by
    have k1:j<t.length:=by simpa using k1
    have k2:j<ws.length:=by simpa using k2
    have w:j<ds.length:=by rw[<-h.length,E.length];exact k1
    have l2:j<es.length:=by rw[<-k.length,l.length];exact k2
    obtain⟨x,g1,g2⟩:=h.get (show ds[j]?=some ds[j]by simp[w]);obtain⟨y,g3,g4⟩:=k.get (show es[j]?=some es[j]by simp[l2]);obtain⟨W,g5,g6⟩:=E.get g1;obtain⟨Y,g7,g8⟩:=l.get g3;have e1:t.toArray[j]=W:=by have:=(eV g5).2;simpa using this
    have e2:ws.toArray[j]=Y:=by have:=(eV g7).2;simpa using this
    have e3:ds.getD j .non=ds[j]:=by simp[List.getD,w]
    have e4:es.getD j .non=es[j]:=by simp[List.getD,l2]
    rw[e1,e2,e3,e4];exact ih A.in1 N _ _ (all_eq_true.mp a1 _ (getElem_mem w)) (all_eq_true.mp a2 _ (getElem_mem l2)) x y W Y g2 g4 g6 g8--the same object
   have same:∀{a:Addr},v=.ref a->u=.ref a->SeqAt.EqAt A s J u' (mq d e):=λ{a}q1 q2=>by subst q1;subst q2;have:=Pb I sm (n+1) d hd _ e h1 f;subst this;rw[xR];cases r1;cases g;exact SeqAt.EqAt.same _
   cases d with
   |eN _=>simp[bJ,bD,bG,bH,bI,bK]at hd|dv _ _=>simp[bJ,bD,bG,bH,bI,bK]at hd|tup ds=>
     have O:ds.all (jR n)=true:=by simpa[bJ,bD,bG,bH,bI,bK]using hd
     have o:=h1;rw[Rep]at o;obtain⟨a,xs,rfl,Q,M⟩:=o;cases r1;obtain⟨t,E,h,_⟩:=I.tuple (aJ.iG sm Q)
     cases e with|eN _=>simp[bJ,bD,bG,bH,bI,bK]at he|dv _ _=>simp[bJ,bD,bG,bH,bI,bK]at he|tup es=>
       have U:es.all (jR n)=true:=by simpa[bJ,bD,bG,bH,bI,bK]using he
       have p:=f;rw[Rep]at p;obtain⟨b,ys,rfl,q,B⟩:=p;by_cases r:a=b;.subst r;exact same rfl rfl
       . cases g;obtain⟨ws,l,k,_⟩:=I.tuple (aJ.iG sm q);refine .of_refs r ?_;have z:=SeqAt.RcAt.tuples (A:=A) (e:=λj=>mq (ds.getD j .non) (es.getD j .non)) h k c λj k1 k2=>L k1 k2 O U E l M B;have w:t.toArray.size=ds.length:=by rw[size_toArray,<-E.length,M.length]
         have l2:ws.toArray.size=es.length:=by rw[size_toArray,<-l.length,B.length]
         rw[w,l2]at z;have e0:mq (.tup ds) (.tup es)=((List.range (min ds.length es.length)).all (λj=>mq (ds.getD j .non) (es.getD j .non))&&ds.length==es.length):=by
          rw[pqt];by_cases C:ds.length=es.length;.rw[gV C,C];simp
          . rw[kI C];have:(ds.length==es.length)=false:=by simpa using C
            rw[this,Bool.and_false]
         rw[e0];exact z|lst es=>rw[Rep]at f;obtain⟨b,ys,rfl,q,B⟩:=f;cases g;obtain⟨ws,l,k,_⟩:=I.list (sm.seq q);exact SeqAt.EqAt.tuple_list h k.isList c|non=>exact(nu h c rfl f g).1|bl _=>exact(nu h c rfl f g).1|int _=>exact(nu h c rfl f g).1|str _=>exact(nu h c rfl f g).1
   |lst ds=>
     have O:ds.all (jR n)=true:=by simpa[bJ,bD,bG,bH,bI,bK]using hd
     have o:=h1;rw[Rep]at o
     obtain⟨a,xs,rfl,Q,M⟩:=o;cases r1;obtain⟨t,E,h,_⟩:=I.list (sm.seq Q);cases e with|eN _=>simp[bJ,bD,bG,bH,bI,bK]at he|dv _ _=>simp[bJ,bD,bG,bH,bI,bK]at he|lst es=>
       have U:es.all (jR n)=true:=by simpa[bJ,bD,bG,bH,bI,bK]using he
       have p:=f;rw[Rep]at p;obtain⟨b,ys,rfl,q,B⟩:=p;by_cases r:a=b;.subst r;exact same rfl rfl
       . cases g;obtain⟨ws,l,k,_⟩:=I.list (sm.seq q);refine .of_refs r ?_;have w:t.toArray.size=ds.length:=by rw[size_toArray,<-E.length,M.length]
         have l2:ws.toArray.size=es.length:=by rw[size_toArray,<-l.length,B.length]
         rw[pql];by_cases C:ds.length=es.length;.have z:=SeqAt.RcAt.lists (A:=A) (e:=λj=>mq (ds.getD j .non) (es.getD j .non)) h.isList k.isList (by rw[w,l2,C]) c λj k1 k2=>L k1 k2 O U E l M B;rw[w]at z;rw[gV C];exact z
         .rw[kI C];exact lists_lengths h.isList k.isList (by rw[w,l2];simpa using C) c|tup es=>rw[Rep]at f;obtain⟨b,ys,rfl,q,B⟩:=f;cases g;obtain⟨ws,l,k,_⟩:=I.tuple (aJ.iG sm q);exact SeqAt.EqAt.list_tuple h.isList k c|non=>exact(oO h.isList c rfl f g).1|bl _=>exact(oO h.isList c rfl f g).1|int _=>exact(oO h.isList c rfl f g).1|str _=>exact(oO h.isList c rfl f g).1
   |non|bl _|int _|str _=>cases e with|eN _=>simp[bJ,bD,bG,bH,bI,bK]at he|dv _ _=>simp[bJ,bD,bG,bH,bI,bK]at he|tup es=>rw[Rep]at f;obtain⟨b,ys,rfl,q,B⟩:=f;cases g;obtain⟨ws,l,k,_⟩:=I.tuple (aJ.iG sm q);exact(nu k c rfl h1 r1).2|lst es=>rw[Rep]at f;obtain⟨b,ys,rfl,q,B⟩:=f;cases g;obtain⟨ws,l,k,_⟩:=I.list (sm.seq q);exact(oO k.isList c rfl h1 r1).2|_=>exact De rfl rfl h1 f r1 g
end
section
variable{X:Cx}{pins:List (Addr×Obj)}{σ:_L.St}{H F:Hp}{s:Shared}{A:Around}
noncomputable abbrev RC(A:Around)(s:Shared)(v u:Value)(k:Bool):Prop:=SeqAt.RcAt A s v u k/\SeqAt.RcNeAt A s v u (!k)
inductive Top(X:Cx)(F H:Hp)(s:Shared):Value->D->Prop where|non:Top X F H s .none .non|bl(b:Bool):Top X F H s (.bool b) (.bl b)|int(i:Int)(t:Tok):Top X F H s (.int i t) (.int i)|str(x:Str)(t:Tok):Top X F H s (.str x t) (.str x)|tup{a:Addr}{us:List Value}{xs:List V}{ds:List D}(ht:s.heap.IsTuple a us.toArray)(hv:Vals xs us)(hr:aH X.K F xs ds):Top X F H s (.ref a) (.tup ds)|lst{a:Addr}{us:List Value}{xs:List V}{ds:List D}(ht:s.heap.IsList a us.toArray)(hv:Vals xs us)(hr:aH X.K F xs ds):Top X F H s (.ref a) (.lst ds)
theorem wz(I:_L.Inv X pins σ H s)(sm:aJ F H){g:Value}{d:D}(hd:jR 8 d=true)(h:dI X.K F H v d)(r:RelV v g):Top X F H s g d:=by cases d with|eN _=>simp[bJ,bD,bG,bH,bI,bK]at hd|dv _ _=>simp[bJ,bD,bG,bH,bI,bK]at hd|non=>rw[h.non]at r;cases r;exact .non|bl b=>rw[h.bl]at r;cases r;exact .bl b|int i=>rw[h.int]at r;obtain⟨t,rfl⟩:=r;exact .int i t|str x=>rw[h.str]at r;obtain⟨t,rfl⟩:=r;exact .str x t|tup ds=>obtain⟨a,xs,rfl,h1,c,_⟩:=h.tup sm;cases r;obtain⟨j,e,f,_⟩:=I.tuple h1;exact .tup f e c|lst ds=>obtain⟨a,xs,rfl,h1,c⟩:=h.lst sm;cases r;obtain⟨j,e,f,_⟩:=I.list h1;exact .lst f.isList e c
theorem ZQ(I:_L.Inv X pins σ H s)(sm:aJ F H){n:Nat}(hu:A.units+(n+1)<cLine){d e:D}(hd:jR (n+1) d=true)(he:jR (n+1) e=true){E:Value}(h1:Top X F H s E d)(r:Top X F H s u' e):RC A s E u' (mq d e):=by
 have c:A.units<cLine:=by omega
 have C:A.in1.units+n<cLine:=by show A.units+1+n<cLine;omega
 have p:∀{xs ys:List V}{o ws:List Value}{ds es:List D}{j:Nat}(k1:j<o.toArray.size)(k2:j<ws.toArray.size),ds.all (jR n)=true->es.all (jR n)=true->Vals xs o->Vals ys ws->aH X.K F xs ds->aH X.K F ys es->SeqAt.EqAt A.in1 s o.toArray[j] ws.toArray[j] (mq (ds.getD j .non) (es.getD j .non)):=λ{xs ys o ws ds es j}k1 k2 Q U G J L M=>by
  have k1:j<o.length:=by simpa using k1
  have k2:j<ws.length:=by simpa using k2
  have k:j<ds.length:=by rw[<-L.length,G.length];exact k1
  have l2:j<es.length:=by rw[<-M.length,J.length];exact k2
  obtain⟨x,W,Y⟩:=L.get (show ds[j]?=some ds[j]by simp[k]);obtain⟨y,Z,g4⟩:=M.get (show es[j]?=some es[j]by simp[l2]);obtain⟨N,g5,g6⟩:=G.get W;obtain⟨O,g7,g8⟩:=J.get Z;have e1:o.toArray[j]=N:=by have:=(eV g5).2;simpa using this
  have e2:ws.toArray[j]=O:=by have:=(eV g7).2;simpa using this
  have e3:ds.getD j .non=ds[j]:=by simp[List.getD,k]
  have e4:es.getD j .non=es[j]:=by simp[List.getD,l2]
  rw[e1,e2,e3,e4];exact aeK I sm n A.in1 C _ _ (all_eq_true.mp Q _ (getElem_mem k)) (all_eq_true.mp U _ (getElem_mem l2)) x y N O Y g4 g6 g8
 cases h1 with
 |non=>cases r with|non=>exact⟨SeqAt.RcAt.none_none,SeqAt.RcNeAt.none_none⟩|bl b=>exact⟨SeqAt.RcAt.none_bool _,SeqAt.RcNeAt.none_bool _⟩|int i t=>exact⟨SeqAt.RcAt.none_int _ _,none_int _ _⟩|str i t=>exact⟨SeqAt.RcAt.none_str _ _,none_str _ _⟩|tup ht _ _=>exact⟨SeqAt.RcAt.none_tuple ht c,SeqAt.RcNeAt.none_tuple ht c⟩|lst ht _ _=>exact⟨SeqAt.RcAt.none_list ht c,SeqAt.RcNeAt.none_list ht c⟩
 |bl b0=>cases r with|non=>exact⟨SeqAt.RcAt.bool_none _,SeqAt.RcNeAt.bool_none _⟩|bl b=>exact⟨SeqAt.RcAt.bool_bool _ _,SeqAt.RcNeAt.bool_bool _ _⟩|int i t=>exact⟨SeqAt.RcAt.bool_int _ _ _,bool_int _ _ _⟩|str i t=>exact⟨SeqAt.RcAt.bool_str _ _ _,bool_str _ _ _⟩|tup ht _ _=>exact⟨SeqAt.RcAt.bool_tuple _ ht c,SeqAt.RcNeAt.bool_tuple _ ht c⟩|lst ht _ _=>exact⟨SeqAt.RcAt.bool_list _ ht c,SeqAt.RcNeAt.bool_list _ ht c⟩
 |int i0 t0=>cases r with|non=>exact⟨SeqAt.RcAt.int_none _ _,int_none _ _⟩|bl b=>exact⟨SeqAt.RcAt.int_bool _ _ _,int_bool _ _ _⟩|int i t=>exact⟨SeqAt.RcAt.int_int _ _ _ _,int_int _ _ _ _⟩|str i t=>exact⟨SeqAt.RcAt.int_str _ _ _ _,SeqAt.RcNeAt.int_str _ _ _ _⟩|tup ht _ _=>exact⟨SeqAt.RcAt.int_tuple _ _ ht c,SeqAt.RcNeAt.int_tuple _ _ ht c⟩|lst ht _ _=>exact⟨SeqAt.RcAt.int_list _ _ ht c,int_list _ _ ht c⟩
 |str i0 t0=>cases r with|non=>exact⟨SeqAt.RcAt.str_none _ _,str_none _ _⟩|bl b=>exact⟨SeqAt.RcAt.str_bool _ _ _,str_bool _ _ _⟩|int i t=>exact⟨SeqAt.RcAt.str_int _ _ _ _,SeqAt.RcNeAt.str_int _ _ _ _⟩|str i t=>exact⟨SeqAt.RcAt.str_str _ _ _ _,str_str _ _ _ _⟩|tup ht _ _=>exact⟨SeqAt.RcAt.str_tuple _ _ ht c,SeqAt.RcNeAt.str_tuple _ _ ht c⟩|lst ht _ _=>exact⟨SeqAt.RcAt.str_list _ _ ht c,str_list _ _ ht c⟩
 |@tup a o xs ds ht q hr=>
   have u:ds.all (jR n)=true:=by simpa[bJ,bD,bG,bH,bI,bK]using hd
   cases r with|non=>exact⟨SeqAt.RcAt.tuple_none ht c,SeqAt.RcNeAt.tuple_none ht c⟩|bl b=>exact⟨SeqAt.RcAt.tuple_bool _ ht c,SeqAt.RcNeAt.tuple_bool _ ht c⟩|int i t=>exact⟨SeqAt.RcAt.tuple_int _ _ ht c,SeqAt.RcNeAt.tuple_int _ _ ht c⟩|str i t=>exact⟨SeqAt.RcAt.tuple_str _ _ ht c,SeqAt.RcNeAt.tuple_str _ _ ht c⟩|lst h _ _=>exact⟨SeqAt.RcAt.tuple_list ht h c,SeqAt.RcNeAt.tuple_list ht h c⟩|@tup b ws ys es h f g=>
     have w:es.all (jR n)=true:=by simpa[bJ,bD,bG,bH,bI,bK]using he
     have k:o.toArray.size=ds.length:=by rw[size_toArray,<-q.length,hr.length]
     have l2:ws.toArray.size=es.length:=by rw[size_toArray,<-f.length,g.length]
     have z:=SeqAt.RcAt.tuples (A:=A) (e:=λj=>mq (ds.getD j .non) (es.getD j .non)) ht h c λj k1 k2=>p k1 k2 u w q f hr g;have B:=SeqAt.RcNeAt.tuples (A:=A) (e:=λj=>mq (ds.getD j .non) (es.getD j .non)) ht h c λj k1 k2=>p k1 k2 u w q f hr g;rw[k,l2]at z B;have e0:mq (.tup ds) (.tup es)=((List.range (min ds.length es.length)).all (λj=>mq (ds.getD j .non) (es.getD j .non))&&ds.length==es.length):=by
      rw[pqt];by_cases l:ds.length=es.length;.rw[gV l,l];simp
      . rw[kI l];have:(ds.length==es.length)=false:=by simpa using l
        rw[this,Bool.and_false]
     rw[e0];exact⟨z,B⟩
 |@lst a o xs ds ht q hr=>
   have u:ds.all (jR n)=true:=by simpa[bJ,bD,bG,bH,bI,bK]using hd
   cases r with|non=>exact⟨SeqAt.RcAt.list_none ht c,SeqAt.RcNeAt.list_none ht c⟩|bl b=>exact⟨SeqAt.RcAt.list_bool _ ht c,SeqAt.RcNeAt.list_bool _ ht c⟩|int i t=>exact⟨SeqAt.RcAt.list_int _ _ ht c,list_int _ _ ht c⟩|str i t=>exact⟨SeqAt.RcAt.list_str _ _ ht c,list_str _ _ ht c⟩|tup h _ _=>exact⟨SeqAt.RcAt.list_tuple ht h c,SeqAt.RcNeAt.list_tuple ht h c⟩|@lst b ws ys es h f g=>
     have w:es.all (jR n)=true:=by simpa[bJ,bD,bG,bH,bI,bK]using he
     have k:o.toArray.size=ds.length:=by rw[size_toArray,<-q.length,hr.length]
     have l2:ws.toArray.size=es.length:=by rw[size_toArray,<-f.length,g.length]
     rw[pql];by_cases l:ds.length=es.length;.have z:=SeqAt.RcAt.lists (A:=A) (e:=λj=>mq (ds.getD j .non) (es.getD j .non)) ht h (by rw[k,l2,l]) c λj k1 k2=>p k1 k2 u w q f hr g;have B:=SeqAt.RcNeAt.lists (A:=A) (e:=λj=>mq (ds.getD j .non) (es.getD j .non)) ht h (by rw[k,l2,l]) c λj k1 k2=>p k1 k2 u w q f hr g;rw[k]at z B;rw[gV l];exact⟨z,B⟩
     .rw[kI l];exact⟨lists_lengths ht h (by rw[k,l2];simpa using l) c,SeqAt.RcNeAt.lists_lengths ht h (by rw[k,l2];simpa using l) c⟩
theorem dR(b:X.A.units+8<cLine):gq X (compareOp .Eq) (rD X.K (oX .eq)):=by rintro pins s σ H x y v u Q I c f⟨F,d,e,r,sm,g,h,he,k⟩;obtain⟨t,a,j⟩:=map_some (show(zX d e).map _=some r from he);subst j;unfold zX at a;obtain⟨hd,a⟩:=bN a;rw[and_eq_true]at hd;subst a;exact(ZQ I sm (n:=7) b hd.1 hd.2 (wz I sm hd.1 g c) (wz I sm hd.2 h f)).1 _ _ _ _ ⟨.bl _,H,I,rfl,cG.dB sm (fO _) k⟩
theorem Jp(b:X.A.units+8<cLine):gq X (compareOp .NotEq) (rD X.K (oX .ne)):=by rintro pins s σ H x y v u Q I c f⟨F,d,e,r,sm,g,h,he,k⟩;obtain⟨t,a,j⟩:=map_some (show(Jx d e).map _=some r from he);subst j;unfold Jx at a;obtain⟨hd,a⟩:=bN a;rw[and_eq_true]at hd;subst a;exact(ZQ I sm (n:=7) b hd.1 hd.2 (wz I sm hd.1 g c) (wz I sm hd.2 h f)).2 _ _ _ _ ⟨.bl _,H,I,rfl,cG.dB sm (fO _) k⟩
end
section
variable{Pg:Program}{w:World}{K:PySem.W.Frag}{mg:Str->Option Value}{base:Heap}
theorem ZP{qual:Str}{st:Stmt}{f:Addr}{fd:FuncData}{N ps:List Str}{k n:Nat}{c:Call}{d:Fd}(u:ig K x qual st f fd)(S:aM N ps (aA st))(h1:d.np=ps.length)(l:d.nn=N.length)(y:∀(cdv:Value)(A:Around)(outer:List Env)(s:Shared)(H:Hp)(E:XK),gM k (A.deeper (envOfC qual (aA st) s.heap.objs.size f cdv))->SB (m9 Jv Pg w K mg base N qual (aA st) f cdv A outer s H E).nox c n (dY st) d.body):iT Pg w K mg base Jv (k+1) f fd ps (Ql K ps.length (λargs=>enter c n d args)):=by
 refine u.ok S (λvs H Q E h=>h.1) λcdv A outer s H vs Q E hr h=>?_;obtain⟨o,F,args,r,b,g,e,q⟩:=h;refine⟨_,y cdv A outer s H E hr,?_⟩;replace e:enter c n d args=.ok r b:=e;unfold enter at e;split at e
 . rename_i hc;obtain⟨c1,c2⟩:=hc;have B:=g.more (n:=d.nn-d.np) (τ:=replicate (N.length-vs.length) none) (by simp[h1,l,o]);have j:args.length=d.np:=c1;have go:∀{fl:Fl}{a:List Sl},eO c n d.body (args++replicate (d.nn-d.np) .aQ)=.ok fl a->(∀F' σ' H',aC K F (args++replicate (d.nn-d.np) .aQ) (start N vs) H F' a σ' H'->(match fl with|.next=>Q .non H'|.brk=>False|.cont=>False|.ret r=>∀v,cV K F' a σ' H' (args++replicate (d.nn-d.np) .aQ) (start N vs) H v r->Q v H'))->tEx K (eO c n d.body) {nx:=λ_ H'=>Q .non H',rt:=Q} (start N vs) H:=λ{fl a}z k=>⟨F,_,fl,a,B,z,λF' σ' H' s=>by have:=k F' σ' H' s;cases fl<;>exact this⟩;split at e;.rename_i a z;cases e;refine go z λF' σ' H' s=>?_;obtain⟨p,t⟩:=aC.less (m:=d.np) j.symm g (by simp[h1,l,o]) s;exact q .non F' _ H' p (show Rep K F' _ _ from Vh)
   .rename_i G a z;cases e;refine go z λF' σ' H' s v C=>?_;obtain⟨p,t⟩:=aC.less (m:=d.np) j.symm g (by simp[h1,l,o]) s;exact q v F' _ H' p (t v r C)
   .split at e<;>cases e
 .cases e
structure aW(Pg:Program)(w:World)(K:PySem.W.Frag)(mg:Str->Option Value)(base:Heap)(k:Nat)(c:Call)(i:Nat)(x:Str)(np:Nat):Prop where ex:∃fa fd qs,iT Pg w K mg base Jv k fa fd qs (Ql K qs.length (c i))/\mg x=some (.ref fa)/\keepIn K (.ref fa)=true/\Binds K fd qs []/\qs.length=np
end
section
variable{X:Cx}{c:Call}{n k:Nat}{e a b:Expr}{es:List Expr}{p pa pb:P}{ps:List P}{pos:Pos}
theorem sv(i:Nat)(g:X.N[i]?=some x:=by rfl)(h:vC X.env.scope x:=by first|exact Or.inl rfl|exact Or.inr (Or.inl rfl)|exact Or.inr (Or.inr rfl))(hd:(x==("__debug__":Str))=false:=by rfl)(f:(x==("__classdict__":Str))=false:=by rfl):SX X c (.Name x pos) (.var i):=Sw g h hd f
theorem cN{np:Nat}(C:aW X.prog X.w X.K X.mg X.base k c i x np)(hr:gM k X.A)(h:SG X c (e::es) ps)(j:Gl X x:=by rfl)(l:(e::es).length=np:=by rfl)(f:(x==("__debug__":Str))=false:=by rfl)(he:starEach (e::es) X.env=(false,eval e X.env)::starEach es X.env:=by rfl)(hpl:(backTo pos (starEach es X.env)).any (·.1)=false:=by rfl)(g:ps.length=(e::es).length:=by rfl):SX X c (.Call (.Name x p') (e::es) [] pos) (.call i ps):=by obtain⟨u,fd,y,h1,o,q,r,t⟩:=C.ex;exact Nv h1 hr j o q r h (l.trans t.symm) f he hpl g
noncomputable def Q6(names outer:List (Str×NameKind))(N N':List Str)(n:Nat):Bool:=(names.all λy=>names.lookup y.1==some y.2)&&(names.all λy=>y.2!=.local||names.lookup y.1==some .local)&&(names.all λy=>y.2!=.free||outer.lookup y.1==some .cell||outer.lookup y.1==some .free)&&N'.length==N.length+n&&((N.zip N').all λp=>(p.1==p.2&&names.lookup p.2==some .free)||(names.lookup p.2!=some .local&&names.lookup p.2!=some .cell&&names.lookup p.2!=some .free))
theorem Mx{scope:Scope}{N':List Str}(g:scope.kind=.function)(h:Q6 scope.names X.env.scope.names X.N N' n=true):gA X scope N' n:=by
 unfold Q6 at h;simp only[and_eq_true]at h;obtain⟨⟨⟨⟨h1,j⟩,l⟩,o⟩,q⟩:=h;refine⟨g,λy f=>eq_of_beq (all_eq_true.mp h1 y f),λy f e=>?_,λy f e=>?_,by simpa using o,q⟩;.have:=all_eq_true.mp j y f;rw[e]at this;simpa using this
 . have:=all_eq_true.mp l y f;rw[e]at this;simp only[or_eq_true]at this;rcases this with(z|z)|z;.cases z
   .exact .inl (eq_of_beq z)
   .exact .inr (eq_of_beq z)
theorem aX(h:gM k A):A.units+8<cLine:=by have:=h.un;omega
end
end _H
namespace PySem
open AutoSeq1(wpAny_loadPart')
section
variable{prog:Program}{w:World}{A:Around}{E:Value->Shared->Prop}{s:Shared}
theorem nH{it l:Addr}{i:Nat}{items:Array Value}{x:Value}{Q:Value->Shared->Prop}(a:s.heap.IsTupleIter it l i)(e:s.heap.IsTuple l items)(f:items[i]?=some x)(g:∀h',h'.IsTupleIter it l (i+1)->SameBut it s.heap h'->Q x {s with heap:=h'}):wpAny (model prog w) A (nextOf (.ref it)) Q E s:=by obtain⟨o,ho,hc,hd⟩:=id a;obtain⟨h,b,_,nl,c⟩:=e;unfold nextOf;refine wpAny_bind (wpAny_callSpecial?_slot (name:=Str.ofString "__next__") a.typeIs F.slot_tuple_iterator_next (wpAny_call_entry F.slot_tuple_iterator_next a.typeIs F.entry_tuple_iterator_next ?_ (F.args_tuple_iterator_next_1 _)));show wpAny _ _ (field (.ref it) 0>>=_) _ _ s;refine wpAny_bind (wpAny_field ho hd (x:=.ref l) rfl ?_);show wpAny _ _ (if(Value.ref l==Value.none)=true then _ else _) _ _ s;rw[if_neg (show ¬((Value.ref l==Value.none)=true)from Bool.false_ne_true)];show wpAny _ _ (field (.ref it) 1>>=_) _ _ s;refine wpAny_bind (wpAny_field ho hd (x:=.int i 0) rfl ?_);show wpAny _ _ (seqItems? (.ref l)>>=_) _ _ s;refine wpAny_bind (wpAny_seqItems b c ?_);simp only[Int.toNat_natCast,f];refine wpAny_bind (wpAny_setField ho hd (by simp) (wpAny_pure ⟨x,rfl,wpAny_pure (g _ ?_ (Heap.SameBut.update ..))⟩));exact⟨_,get?_update_self _ ho (Obj.isFreed_of_fields (Obj.data_mapFields hd _)),(Obj.cls_mapFields ..).trans hc,by rw[Obj.data_mapFields hd];simp[rawInt]⟩
theorem jk{it l:Addr}{i:Nat}{items:Array Value}{Q:Value->Shared->Prop}(g:A.handled=none)(b:s.heap.IsTupleIter it l i)(h:s.heap.IsTuple l items)(j:items[i]?=none)(k:∀h' e,Heap.ExtBut it s.heap h'->(∃o,h'.get? e=some o/\o.cls=.type "StopIteration")->E (.ref e) {s with heap:=h'}):wpAny (model prog w) A (nextOf (.ref it)) Q E s:=by
 obtain⟨o,ho,hc,hd⟩:=id b;obtain⟨n,c,_,nl,f⟩:=h;unfold nextOf;refine wpAny_bind (wpAny_callSpecial?_slot (name:=Str.ofString "__next__") b.typeIs F.slot_tuple_iterator_next (wpAny_call_entry F.slot_tuple_iterator_next b.typeIs F.entry_tuple_iterator_next ?_ (F.args_tuple_iterator_next_1 _)));show wpAny _ _ (field (.ref it) 0>>=_) _ _ s;refine wpAny_bind (wpAny_field ho hd (x:=.ref l) rfl ?_);show wpAny _ _ (if(Value.ref l==Value.none)=true then _ else _) _ _ s;rw[if_neg (show ¬((Value.ref l==Value.none)=true)from Bool.false_ne_true)];show wpAny _ _ (field (.ref it) 1>>=_) _ _ s;refine wpAny_bind (wpAny_field ho hd (x:=.int i 0) rfl ?_);show wpAny _ _ (seqItems? (.ref l)>>=_) _ _ s;refine wpAny_bind (wpAny_seqItems c f ?_);simp only[Int.toNat_natCast,j];refine wpAny_bind (wpAny_rule (wpAny_bind (wpAny_setField ho hd (by simp) ?_)));show wpAny _ _ (newExc (.type "StopIteration") []>>=_) _ _ _;refine wpAny_bind ?_;simp only[newExc,newTuple];refine wpAny_bind (wpAny_newObj_type ?_ (by size_fits));refine wpAny_bind (m:=firstArgMember _ _) (wpAny_of_eq (a:=Value.none) (by first|rfl|(simp only[firstArgMember];rfl)) ?_);refine wpAny_newObj_type ?_ (by size_fits);simp only[raiseNew];refine wpAny_bind (wpAny_handled ?_);first|rw[show A.in1.handled=none from g]|rw[g]
 refine wpAny_bind (wpAny_pure (wpAny_throw ?_));exact k _ _ (((Heap.SameBut.update ..).extBut.push _).push _) ⟨_,get?_push_size _ rfl,rfl⟩
end
theorem j4(l:Addr)(items:Array Value)(n:Nat)(b:Option Addr)(sl:Array (Option Value)):Meets (Builtin.«enumerate.__new__» ⟨[.type "enumerate",.ref l],[]⟩) (λ_ R s=>s.heap.get? l=some {cls:=.type "tuple",dict:=b,data:=.seq items n,slots:=sl}/\R (.ok (.ret (.ref (s.heap.push {cls:=.type "tuple_iterator",data:=.fields #[.ref l,.int 0 0]}).objs.size))) {s with heap:=(s.heap.push {cls:=.type "tuple_iterator",data:=.fields #[.ref l,.int 0 0]}).push {cls:=.type "enumerate",data:=.fields #[.none,.bool false,.ref s.heap.objs.size,rawInt 0,.none,.none]}}):=.of_wp λprog w A R s h=>by
  obtain⟨i,g,d,j,os⟩:=s;obtain⟨a,h⟩:=h;have f:=sub_enumerate;have e:Heap.IsTuple (Shared.heap ⟨i,g,d,j,os⟩) l items:=⟨_,a,rfl,n,rfl⟩;wp_walk using wpAny_loadPart' a;refine wpAny_stack_any λst=>wpAny_pure ?_;split
  . rename_i c _ _ _ _ _;cases(c==Value.type "enumerate");.wp_walk using wpAny_loadPart' a,wpAny_pyIter_tuple e;exact⟨_,rfl,h⟩
    .wp_walk using wpAny_loadPart' a,wpAny_pyIter_tuple e;exact⟨_,rfl,h⟩
  .wp_walk using wpAny_loadPart' a,wpAny_pyIter_tuple e;exact⟨_,rfl,h⟩
section
variable{prog:Program}{w:World}{A:Around}{E:Value->Shared->Prop}{s:Shared}
theorem kh{l:Addr}{items:Array Value}{Q:Value->Shared->Prop}(e:s.heap.IsTuple l items)(h:∀ h',IsEnum h' (s.heap.objs.size+1) s.heap.objs.size 0 .none->h'.IsTupleIter s.heap.objs.size l 0->h'.objs.size=s.heap.objs.size+2->(∀b o,s.heap.get? b=some o->h'.get? b=some o)->Q (.ref (s.heap.objs.size+1)) {s with heap:=h'}):wpAny (model prog w) A (call (.type "enumerate") [.ref l]) Q E s:=by
 obtain⟨⟨c,a,dt,sl⟩,f,hc,n,hd⟩:=e;replace hc:c=.type "tuple":=hc;replace hd:dt=.seq items n:=hd;subst hc hd;refine callType_new F.called_enumerate (by decide) (F.typeCall_enumerate_1 _) (F.newCall_enumerate_1 _) (λobj=>F.args_object_init_2 obj _) F.entry_enumerate_new (j4 l items n a sl) ⟨f,?_⟩;have hz:(s.heap.push {cls:=.type "tuple_iterator",data:=.fields #[.ref l,.int 0 0]}).objs.size=s.heap.objs.size+1:=size_push ..;show _/\_;rw[hz];have he:IsEnum ((s.heap.push {cls:=.type "tuple_iterator",data:=.fields #[.ref l,.int 0 0]}).push {cls:=.type "enumerate",data:=.fields #[.none,.bool false,.ref s.heap.objs.size,rawInt 0,.none,.none]}) (s.heap.objs.size+1) s.heap.objs.size 0 .none:=by have:=get?_push_size (s.heap.push {cls:=.type "tuple_iterator",data:=.fields #[.ref l,.int 0 0]}) (o:={cls:=.type "enumerate",data:=.fields #[.none,.bool false,.ref s.heap.objs.size,rawInt 0,.none,.none]}) rfl;rw[hz]at this;exact this
 refine⟨⟨_,he,rfl⟩,h _ he ⟨_,gY (get?_push_size _ rfl),rfl,rfl⟩ (by rw[size_push,hz]) λb o x=>gY (gY x)⟩
end
end PySem
namespace _L
open PySem Spec PyProof.Rows
variable{prog:Program}{w:World}{A:Around}
section
variable{X:Cx}{pins:List (Addr×Obj)}{σ:_L.St}{H:Hp}{s:Shared}
theorem Inv.Jg{ch:List Addr}{h':Heap}{o:HO}{t':Nat}(I:Inv X pins σ H s)(k:∀b u,b∉ch->s.heap.get? b=some u->h'.get? b=some u)(j:∀b∈ch,∃u,h'.get? b=some u)(g:∀b∈ch,qw X pins H b)(new:bA X.prog X.w (upd H s.heap.objs.size o) h' s.heap.objs.size o):Inv X pins σ (upd H s.heap.objs.size o) {s with heap:=h',toks:=t'}:=by
 have fr:H s.heap.objs.size=none:=I.hok.fresh (eG);have i:∀b u,H b=some u->b∉ch:=λb u e a=>by rw[(g b a).1]at e;cases e
 have h:∀b u,H b=some u->upd H s.heap.objs.size o b=some u:=λb u e=>by
  have:b≠s.heap.objs.size:=by rintro rfl;rw[fr]at e;cases e
  rw[aB this];exact e
 refine I.call (g':=s.gens) (d':=s.drawn) (ch:=ch) ⟨λb u e n _ f=>k b u f e,λb u e n _ f=>⟨u.slots,k b u f e⟩,λb u e n f=>?_,λb u e f=>⟨u,k b u f e⟩,λb xs e=>h b _ e,λb l u e=>h b _ e,λb ps e=>⟨#[],by rw[h b _ e];simp⟩⟩ ?_ I.bare λb a=>⟨(g b a).2.2.2.1,(g b a).2.1,(g b a).2.2.2.2.1,(g b a).2.2.2.2.2⟩;.have:b≠s.heap.objs.size:=ne_of_lt (lt_size e);rw[aB this];exact n
 . intro b u e;by_cases a:b=s.heap.objs.size;.subst a;rw[aL]at e;cases e;exact new
   . rw[aB a]at e;refine(I.hok b u e).stay (λc v hc q=>k c v ?_ q) (λc q=>h c _ q) λc xs q=>h c _ q;rcases hc with rfl|hc;.exact i _ _ e
     .exact i _ _ hc
end
noncomputable def zW(K:PySem.W.Frag)(a:Addr):It:=⟨λi H=>∃xs x,fM K H a xs/\xs[i]?=some x,λi H x H'=>∃T v,H T=none/\x=.ref T/\H'=upd H T (.tup [.int (i:Int),v])/\∀xs,fM K H a xs->xs[i]?=some v,λi H=>∃xs,fM K H a xs/\xs.length<=i⟩
theorem Ut(f:A.handled=none)(it l:Addr)(c:l≠it)(items:Array Value):Draws prog w A it [it,l] items.size (λi v=>items[i]?=some v) (λi h=>h.IsListIter it l i/\h.IsList l items)where
 live:=λ_ _ st=>let⟨o,ho,_⟩:=st.1;⟨o,ho⟩;frame:=λ_ _ _ st e=>⟨(let⟨o,ho,r⟩:=st.1;⟨o,e it (by simp) o ho,r⟩),(let⟨o,ho,r⟩:=st.2;⟨o,e l (by simp) o ho,r⟩)⟩;item:=λi s Q E hi st g=>by refine wpAny_nextOf_list_item st.1 st.2 (x:=items[i]) (by simp[hi]) λh' a b=>?_;exact g _ h' s.toks (by simp[hi]) ⟨a,(let⟨o,ho,r⟩:=st.2;⟨o,b.extBut l o c ho,r⟩)⟩ b
 done:=λs Q E st j=>wpAny_nextOf_list_end f st.1 st.2 (by simp) j
theorem Fq(b:A.handled=none)(it l:Addr)(items:Array Value)(n:Nat)(c:items.size<=n):Draws prog w A it [it,l] n (λ_ _=>True) (λi h=>i=n/\h.IsListIter it l i/\h.IsList l items)where live:=λ_ _ st=>let⟨o,ho,_⟩:=st.2.1;⟨o,ho⟩;frame:=λ_ _ _ st a=>⟨st.1,(let⟨o,ho,r⟩:=st.2.1;⟨o,a it (by simp) o ho,r⟩),(let⟨o,ho,r⟩:=st.2.2;⟨o,a l (by simp) o ho,r⟩)⟩;item:=λi s Q E hi st f=>absurd st.1 (ne_of_lt hi);done:=λs Q E st e=>wpAny_nextOf_list_end b st.2.1 st.2.2 (by simp;exact c) e
theorem Gh{P:Program}{K:PySem.W.Frag}{p:List Expr}{x1}{tp:Pos}(a it e:Addr)(m:e≠it):Turn P w K (.Tuple p x1 tp) (zW K a) [e,it] e (λi h=>(∃g,IsEnum h e it (i:Int) g)/\h.IsListIter it a i)where
 mem:=by simp
 obj:=λi h st b hb=>by
  obtain⟨⟨g,h1⟩,o,j,G,h4⟩:=st;rcases mem_cons.mp hb with rfl|hb;.exact⟨_,h1,λv z=>by cases z⟩
  . have:b=it:=by simpa using hb
    subst this;exact⟨o,j,λv z=>by rw[h4]at z;cases z⟩
 keep:=λi h h' st k=>by obtain⟨⟨g,h1⟩,o,j,G⟩:=st;exact⟨⟨g,k e (by simp) _ h1⟩,o,k it (by simp) _ j,G⟩
 item:=λX Z hw hK hc i t s σ H E I J st go=>by
  subst Z hw hK;obtain⟨⟨g,he⟩,l⟩:=st;obtain⟨xs,x,L,B⟩:=go;obtain⟨c,M,pl,hz⟩:=I.list L;have N:s.heap.IsList a c.toArray:=pl.isList;obtain⟨oa,O,n,_⟩:=id N;have ac:e≠a:=by rintro rfl;rw[he]at O;cases O;exact absurd (show Value.type "enumerate"=Value.type _ from n) (by decide)
  have ae:a≠it:=by rintro rfl;obtain⟨o,j,G,_⟩:=id l;rw[j]at O;cases O;rw[G]at n;exact absurd n (by decide)
  have af:i<c.toArray.size:=by rw[size_toArray,<-M.length];exact(eV B).1
  refine wpAny_pyNext_enum_itemD (Ut (show X.A.in1.handled=none from I.ok.hd hc) it a ae c.toArray) he ⟨l,N⟩ af m (by simp[m,ac]) λy h' tk U ag hst ht hsz kp=>?_;refine⟨_,rfl,wpAny_letOwnedTupleGo_enum ag λC Ln Y=>?_⟩;obtain⟨u,ah,ai⟩:=M.get B;have al:y=u:=by
   have U:c[i]?=some y:=by simpa using U
   rw[ah]at U;cases U;rfl
  subst al;have hT:∀b∈[e,it],b≠s.heap.objs.size:=λb hb=>by
   rcases mem_cons.mp hb with rfl|hb;.exact ne_of_lt (lt_size he)
   . have:b=it:=by simpa using hb
     subst this;obtain⟨o,j,_⟩:=id l;exact ne_of_lt (lt_size j)
  have am:s.heap.objs.size≠e:=(hT e (by simp)).symm;have ap:∀b o,b∉[e,it]->s.heap.get? b=some o->C.get? b=some o:=λb o hb q=>by have h1:b≠e:=λz=>hb (by simp[z]);have j:b≠it:=λz=>hb (by simp[z]);exact Y.extBut b o h1 (kp b o h1 j q)
  have zu:C.get? s.heap.objs.size=some {cls:=.type "tuple",data:=.seq #[.int i tk,y]}:=Y.extBut _ _ am ht;refine⟨.ref s.heap.objs.size,upd H s.heap.objs.size (.tup [.int (i:Int),x]),?_,rfl,⟨_,x,I.fresh,rfl,rfl,λys ar=>?_⟩,⟨⟨_,Ln⟩,?_⟩,λb hb=>?_⟩
  . refine I.Jg (ch:=[e,it]) (t':=tk+1) ap (λb hb=>?_) (λb hb=>(J b hb)) ⟨(by show 2<=sizeLine;decide),[.int i tk,y],.cons ⟨_,rfl⟩ (.cons ai .nil),⟨_,zu,rfl,_,rfl⟩⟩;rcases mem_cons.mp hb with rfl|hb;.exact⟨_,Ln⟩
    . have:b=it:=by simpa using hb
      subst this;obtain⟨o,j,_⟩:=id hst.1;exact⟨o,Y.extBut _ _ (Ne.symm m) j⟩
  .rw[I.t8 ar L];exact B
  .obtain⟨o,j,r⟩:=hst.1;exact⟨o,Y.extBut _ _ (Ne.symm m) j,r⟩
  .rw[aB (hT b hb)];exact(J b hb).1
 done:=λX Z hw hK hc i t s σ H E I J st stop=>by subst Z hw hK;obtain⟨⟨g,he⟩,l⟩:=st;obtain⟨xs,L,B⟩:=stop;obtain⟨c,M,pl,hz⟩:=I.list L;have N:s.heap.IsList a c.toArray:=pl.isList;refine wpAny_pyNext_enum_endD (Fq (show X.A.in1.handled=none from I.ok.hd hc) it a c.toArray i (by rw[size_toArray,<-M.length];exact B)) he ⟨rfl,l,N⟩ λh' hs=>⟨rfl,?_⟩;have f:=J it (by simp);exact I.turned (t':=s.toks) (λb o hb q=>hs b o hb q) f.1 f.2.1 f.2.2.2.1 f.2.2.2.2.1 f.2.2.2.2.2
 self:=λA i s Q E st q=>wpAny_pyIter_enum st.1.choose_spec q
noncomputable def Ar(K:PySem.W.Frag)(a:Addr):It:=⟨λi H=>∃xs x,jw K H a xs/\xs[i]?=some x,λi H x H'=>∃T v,H T=none/\x=.ref T/\H'=upd H T (.tup [.int (i:Int),v])/\∀xs,jw K H a xs->xs[i]?=some v,λi H=>∃xs,jw K H a xs/\xs.length<=i⟩
theorem S5(f:A.handled=none)(it l:Addr)(c:l≠it)(items:Array Value):Draws prog w A it [it,l] items.size (λi v=>items[i]?=some v) (λi h=>h.IsTupleIter it l i/\h.IsTuple l items)where
 live:=λ_ _ st=>let⟨o,ho,_⟩:=st.1;⟨o,ho⟩;frame:=λ_ _ _ st e=>⟨(let⟨o,ho,r⟩:=st.1;⟨o,e it (by simp) o ho,r⟩),(let⟨o,ho,r⟩:=st.2;⟨o,e l (by simp) o ho,r⟩)⟩;item:=λi s Q E hi st g=>by refine nH st.1 st.2 (x:=items[i]) (by simp[hi]) λh' a b=>?_;exact g _ h' s.toks (by simp[hi]) ⟨a,(let⟨o,ho,r⟩:=st.2;⟨o,b.extBut l o c ho,r⟩)⟩ b
 done:=λs Q E st j=>jk f st.1 st.2 (by simp) j
theorem FJ(b:A.handled=none)(it l:Addr)(items:Array Value)(n:Nat)(c:items.size<=n):Draws prog w A it [it,l] n (λ_ _=>True) (λi h=>i=n/\h.IsTupleIter it l i/\h.IsTuple l items)where live:=λ_ _ st=>let⟨o,ho,_⟩:=st.2.1;⟨o,ho⟩;frame:=λ_ _ _ st a=>⟨st.1,(let⟨o,ho,r⟩:=st.2.1;⟨o,a it (by simp) o ho,r⟩),(let⟨o,ho,r⟩:=st.2.2;⟨o,a l (by simp) o ho,r⟩)⟩;item:=λi s Q E hi st f=>absurd st.1 (ne_of_lt hi);done:=λs Q E st e=>jk b st.2.1 st.2.2 (by simp;exact c) e
theorem FW{P:Program}{K:PySem.W.Frag}{p:List Expr}{x1}{tp:Pos}(a it e:Addr)(m:e≠it):Turn P w K (.Tuple p x1 tp) (Ar K a) [e,it] e (λi h=>(∃g,IsEnum h e it (i:Int) g)/\h.IsTupleIter it a i)where
 mem:=by simp
 obj:=λi h st b hb=>by
  obtain⟨⟨g,h1⟩,o,j,G,h4⟩:=st;rcases mem_cons.mp hb with rfl|hb;.exact⟨_,h1,λv z=>by cases z⟩
  . have:b=it:=by simpa using hb
    subst this;exact⟨o,j,λv z=>by rw[h4]at z;cases z⟩
 keep:=λi h h' st k=>by obtain⟨⟨g,h1⟩,o,j,G⟩:=st;exact⟨⟨g,k e (by simp) _ h1⟩,o,k it (by simp) _ j,G⟩
 item:=λX Z hw hK hc i t s σ H E I J st go=>by
  subst Z hw hK;obtain⟨⟨g,he⟩,l⟩:=st;obtain⟨xs,x,L,B⟩:=go;obtain⟨c,M,pl,hz⟩:=I.tuple L;have N:s.heap.IsTuple a c.toArray:=pl;obtain⟨oa,O,n,_⟩:=id N;have ac:e≠a:=by rintro rfl;rw[he]at O;cases O;exact absurd (show Value.type "enumerate"=Value.type _ from n) (by decide)
  have ae:a≠it:=by rintro rfl;obtain⟨o,j,G,_⟩:=id l;rw[j]at O;cases O;rw[G]at n;exact absurd n (by decide)
  have af:i<c.toArray.size:=by rw[size_toArray,<-M.length];exact(eV B).1
  refine wpAny_pyNext_enum_itemD (S5 (show X.A.in1.handled=none from I.ok.hd hc) it a ae c.toArray) he ⟨l,N⟩ af m (by simp[m,ac]) λy h' tk U ag hst ht hsz kp=>?_;refine⟨_,rfl,wpAny_letOwnedTupleGo_enum ag λC Ln Y=>?_⟩;obtain⟨u,ah,ai⟩:=M.get B;have al:y=u:=by
   have U:c[i]?=some y:=by simpa using U
   rw[ah]at U;cases U;rfl
  subst al;have hT:∀b∈[e,it],b≠s.heap.objs.size:=λb hb=>by
   rcases mem_cons.mp hb with rfl|hb;.exact ne_of_lt (lt_size he)
   . have:b=it:=by simpa using hb
     subst this;obtain⟨o,j,_⟩:=id l;exact ne_of_lt (lt_size j)
  have am:s.heap.objs.size≠e:=(hT e (by simp)).symm;have ap:∀b o,b∉[e,it]->s.heap.get? b=some o->C.get? b=some o:=λb o hb q=>by have h1:b≠e:=λz=>hb (by simp[z]);have j:b≠it:=λz=>hb (by simp[z]);exact Y.extBut b o h1 (kp b o h1 j q)
  have zu:C.get? s.heap.objs.size=some {cls:=.type "tuple",data:=.seq #[.int i tk,y]}:=Y.extBut _ _ am ht;refine⟨.ref s.heap.objs.size,upd H s.heap.objs.size (.tup [.int (i:Int),x]),?_,rfl,⟨_,x,I.fresh,rfl,rfl,λys ar=>?_⟩,⟨⟨_,Ln⟩,?_⟩,λb hb=>?_⟩
  . refine I.Jg (ch:=[e,it]) (t':=tk+1) ap (λb hb=>?_) (λb hb=>(J b hb)) ⟨(by show 2<=sizeLine;decide),[.int i tk,y],.cons ⟨_,rfl⟩ (.cons ai .nil),⟨_,zu,rfl,_,rfl⟩⟩;rcases mem_cons.mp hb with rfl|hb;.exact⟨_,Ln⟩
    . have:b=it:=by simpa using hb
      subst this;obtain⟨o,j,_⟩:=id hst.1;exact⟨o,Y.extBut _ _ (Ne.symm m) j⟩
  .rw[I.o5 ar L];exact B
  .obtain⟨o,j,r⟩:=hst.1;exact⟨o,Y.extBut _ _ (Ne.symm m) j,r⟩
  .rw[aB (hT b hb)];exact(J b hb).1
 done:=λX Z hw hK hc i t s σ H E I J st stop=>by subst Z hw hK;obtain⟨⟨g,he⟩,l⟩:=st;obtain⟨xs,L,B⟩:=stop;obtain⟨c,M,pl,hz⟩:=I.tuple L;have N:s.heap.IsTuple a c.toArray:=pl;refine wpAny_pyNext_enum_endD (FJ (show X.A.in1.handled=none from I.ok.hd hc) it a c.toArray i (by rw[size_toArray,<-M.length];exact B)) he ⟨rfl,l,N⟩ λh' hs=>⟨rfl,?_⟩;have f:=J it (by simp);exact I.turned (t':=s.toks) (λb o hb q=>hs b o hb q) f.1 f.2.1 f.2.2.2.1 f.2.2.2.2.1 f.2.2.2.2.2
 self:=λA i s Q E st q=>wpAny_pyIter_enum st.1.choose_spec q
section
variable{X:Cx}{elts:List Expr}{x1:Nat}{tp:Pos}
noncomputable def adF(K:PySem.W.Frag)(c:TE):TI:=λσ H R=>c σ H λx b=>∃a,x=.ref a/\(((∃xs,fM K b a xs)/\R (zW K a) b)\/((∃xs,jw K b a xs)/\R (Ar K a) b))
theorem boot_enumerate:bootBuiltins "enumerate"=some (.type "enumerate"):=by decide+kernel
theorem T5{a:Expr}{t:TE}{p pos:Pos}(v:Gl X "enumerate")(y:X.mg "enumerate"=none)(z:PE X a t)(hs:starEach [a] X.env=[(false,eval a X.env)]:=by rfl):PI X (.Tuple elts x1 tp) (.Call (.Name "enumerate" p) [a] [] pos) (adF X.K t):=by
 intro e s σ H R I h;refine Call_ (mQ I v y boot_enumerate (PyProof.Rows.callWith_type1 (bU ((bz z cZ hs) pos e s σ H (λvs c=>match vs with|[x]=>∃a,x=.ref a/\(((∃xs,fM X.K c a xs)/\R (zW X.K a) c)\/((∃xs,jw X.K c a xs)/\R (Ar X.K a) c))|_=>False) I h) ?_) hs rfl));rintro E s1⟨vs,c,f,r1,j⟩
 . obtain⟨ad,q,k⟩:∃ad,(((∃xs,fM X.K c ad xs)/\R (zW X.K ad) c)\/((∃xs,jw X.K c ad xs)/\R (Ar X.K ad) c))/\vs=[.ref ad]:=by cases vs with|nil=>cases j|cons x r=>cases r with|nil=>obtain⟨ad,rfl,q⟩:=j;exact⟨ad,q,rfl⟩|cons _ _=>cases j
   subst k;obtain⟨u,rfl,B⟩:=r1.one;cases B;have fin:∀(h':Heap)(i:Nat->Heap->Prop)(J:It),Turn X.prog X.w X.K (.Tuple elts x1 tp) J [s1.heap.objs.size+1,s1.heap.objs.size] (s1.heap.objs.size+1) i->i 0 h'->IsEnum h' (s1.heap.objs.size+1) s1.heap.objs.size 0 .none->(∀b o,s1.heap.get? b=some o->h'.get? b=some o)->R J c->wpAny (model X.prog X.w) X.A (pyIter (.ref (s1.heap.objs.size+1))) (PIE X e σ (.Tuple elts x1 tp) R) X.xe {s1 with heap:=h'}:=λh' i J T t0 he kp q=>by
    refine wpAny_pyIter_enum he ⟨_,_,i,J,c,rfl,f.kept (t':=s1.toks) kp,T,t0,λb hb=>?_,q⟩;have g:s1.heap.objs.size<=b:=by
     rcases mem_cons.mp hb with rfl|hb;.exact le_succ _
     . have:b=s1.heap.objs.size:=by simpa using hb
       rw[this];exact eG
    exact f.Es g (f.hok.fresh g)
   rcases q with⟨⟨xs,l⟩,q⟩|⟨⟨xs,l⟩,q⟩;.obtain⟨m,C,n,hz⟩:=f.list l;exact call_enumerate_list n.isList λh' he hi hsz kp=>fin h' _ _ (Gh ad s1.heap.objs.size (s1.heap.objs.size+1) (Nat.succ_ne_self _)) ⟨⟨_,he⟩,hi⟩ he kp q
   .obtain⟨m,C,n,hz⟩:=f.tuple l;exact kh n λh' he hi hsz kp=>fin h' _ _ (FW ad s1.heap.objs.size (s1.heap.objs.size+1) (Nat.succ_ne_self _)) ⟨⟨_,he⟩,hi⟩ he kp q
end
end _L
namespace _H
open PySem _L Spec PyProof.Rows
section
variable{K:PySem.W.Frag}{F F1 H H1:Hp}{ρ ρ1:List Sl}{σ:_L.St}{ds:List D}{a:Addr}
theorem yf{F' H':Hp}{T:Addr}{v w:V}{d1 d2:D}(sm:aJ F' H')(e:H' T=none)(r1:Rep K F' v d1)(f:Rep K F' w d2):∃b,Ext F' H' b (upd H' T (.tup [v,w]))/\Rep K b (.ref T) (.tup [d1,d2]):=zL (Q:=λv c=>∃b,Ext F' H' b c/\Rep K b v (.tup [d1,d2])) sm (.cons r1 (.cons f .nil)) e λv b c x g=>⟨b,x,g⟩
theorem Ie{xs:List V}{F' H':Hp}(c:fM K H' a xs)(r:aH K F' xs ds)(s:aJ F' H')(k:Nat):(∀d,(ds.mapIdx λi d=>D.tup [.int (i:Int),d])[k]?=some d->(zW K a).go k H'/\∀x e,(zW K a).Mm k H' x e->∃b,Ext F' H' b e/\Rep K b x d)/\((ds.mapIdx λi d=>D.tup [.int (i:Int),d]).length<=k->(zW K a).stop k H'):=by refine⟨λd hd=>?_,λh=>⟨xs,c,by rw[r.length];simpa using h⟩⟩;rw[List.getElem?_mapIdx]at hd;obtain⟨d0,f,g⟩:=map_some hd;subst g;obtain⟨w,h1,j⟩:=r.get f;refine⟨⟨xs,w,c,h1⟩,?_⟩;rintro x e⟨T,v,l,m,n,y⟩;subst m;subst n;have:=y xs c;rw[h1]at this;cases this;exact yf s l (bY _) j
theorem Ke{xs:List V}{F' H':Hp}(c:jw K H' a xs)(r:aH K F' xs ds)(s:aJ F' H')(k:Nat):(∀d,(ds.mapIdx λi d=>D.tup [.int (i:Int),d])[k]?=some d->(Ar K a).go k H'/\∀x e,(Ar K a).Mm k H' x e->∃b,Ext F' H' b e/\Rep K b x d)/\((ds.mapIdx λi d=>D.tup [.int (i:Int),d]).length<=k->(Ar K a).stop k H'):=by refine⟨λd hd=>?_,λh=>⟨xs,c,by rw[r.length];simpa using h⟩⟩;rw[List.getElem?_mapIdx]at hd;obtain⟨d0,f,g⟩:=map_some hd;subst g;obtain⟨w,h1,j⟩:=r.get f;refine⟨⟨xs,w,c,h1⟩,?_⟩;rintro x e⟨T,v,l,m,n,y⟩;subst m;subst n;have:=y xs c;rw[h1]at this;cases this;exact yf s l (bY _) j
end
section
variable{X:Cx}{c:Call}{e a:Expr}{pa:P}{pos:Pos}{elts:List Expr}{x1:Nat}{tp:Pos}
theorem UW{x:Str}{p':Pos}(w:x="enumerate")(y:Gl X x)(z:X.mg x=none)(A:SX X c a pa)(hs:starEach [a] X.env=[(false,eval a X.env)]:=by rfl):SI X c (.Tuple elts x1 tp) (.Call (.Name x p') [a] [] pos) (.enm pa):=by subst w;refine sU (T5 y z A.ev hs) ?_;rintro σ H R⟨F,ρ,M,B,g,e,k⟩;obtain⟨r,C,u,j⟩:=aj e;have m:=aD j;clear j;obtain⟨j,E⟩:=m;subst E;rw[_H.E22]at u;obtain⟨r0,h,G,l⟩:=aj u;have m:=aD l;clear l;obtain⟨l,I⟩:=m;subst I;obtain⟨es,f1,f2⟩:=map_some l;subst f2;cases j;refine⟨F,ρ,r0,_,g,G,λv F' H' s i=>?_⟩;obtain⟨N,s2,_,f⟩:=s.dz i;cases hd:r0.d with|tup o=>rw[hd]at f1 f;cases f1;rw[Rep]at f;obtain⟨ad,xs,rfl,h1,p⟩:=f;exact⟨ad,rfl,.inr ⟨⟨xs,aJ.iG s2.gs.sub h1⟩,k _ _ _ ⟨s2.gs,λn k F' q σ' H' b=>Ke (aJ.iG b.gs.sub (aJ.iG b.cF h1)) (p.mono b.cF) b.gs.sub k,λJ h t L s3=>⟨s2.trans s3,λv r i=>i.later s2⟩⟩⟩⟩|lst o=>rw[hd]at f1 f;cases f1;rw[Rep]at f;obtain⟨ad,xs,rfl,h1,p⟩:=f;exact⟨ad,rfl,.inl ⟨⟨xs,s2.gs.sub.seq h1⟩,k _ _ _ ⟨s2.gs,λn k F' q σ' H' b=>Ie (b.gs.sub.seq (b.cF.seq h1)) (p.mono b.cF) b.gs.sub k,λJ h t L s3=>⟨s2.trans s3,λv r i=>i.later s2⟩⟩⟩⟩|_=>rw[hd]at f1;cases f1
end
end _H
namespace _H
open PySem _L Spec PyProof.Rows
structure bM(K:PySem.W.Frag)(x:Str)(st:Stmt):Prop where ex:∃f fd,PySem.W.nsIn K mainGlobals x=some (some (.ref f))/\ig K x x st f fd
section
variable{Pg:Program}{w:World}{K:PySem.W.Frag}{mg:Str->Option Value}{base h:Heap}
theorem T7{x:Str}{st:Stmt}{f:Addr}{oc:Value}{od g:Option Addr}{b:Array (Option Value)}{kV e i cdv ct:Value}(a:PySem.W.nsIn K mainGlobals x=some (some (.ref f)))(l:K.lookup f=some ⟨oc,od,.func (PySem.W.fnOf x x (gK st) (dY st) (aA st) .none kV e i g cdv ct),b⟩)(c:PySem.W.codeIn K cdv x=true)(k:keepIn K (.ref f)=true):bM K x st:=⟨_,_,a,Wc l c k⟩
theorem bZ{Γ:Tab}{wl i np:Nat}{x:Str}{st:Stmt}{ps:List Str}(X:K.In h)(G:h.Ns mainGlobals mg)(D:bM K x st)(j:ps.length=np)(k:∀(kV g l:Value)(m:Option Addr)(cdv ct:Value)(c:List Value),c.length=ps.length->bindArgs (PySem.W.fnOf x x (gK st) (dY st) (aA st) .none kV g l m cdv ct) ⟨c,[]⟩=pure (ps.zip c)):aW Pg w K mg base 0 (run Γ wl 0) i x np:=by obtain⟨f,fd,a,F⟩:=D.ex;exact⟨f,fd,ps,⟨λvs H Q E s=>s.1,λA outer s H args c vs Q E hr e b v sp=>by obtain⟨_,F,as,r,n,_,z,_⟩:=sp;cases z⟩,mg_of X G a,F.kp,F.binds k,j⟩
theorem cg{Γ:Tab}{wl n i np:Nat}{x:Str}{st:Stmt}{ps:List Str}{d:Fd}(X:K.In h)(G:h.Ns mainGlobals mg)(D:bM K x st)(j:ps.length=np)(b:Γ i=some d)(k:∀(kV c l:Value)(m:Option Addr)(cdv ct:Value)(g:List Value),g.length=ps.length->bindArgs (PySem.W.fnOf x x (gK st) (dY st) (aA st) .none kV c l m cdv ct) ⟨g,[]⟩=pure (ps.zip g))(ok:∀f fd,ig K x x st f fd->iT Pg w K mg base Jv (n+1) f fd ps (Ql K np (λargs=>enter (run Γ wl n) wl d args))):aW Pg w K mg base (n+1) (run Γ wl (n+1)) i x np:=by
 obtain⟨f,fd,a,F⟩:=D.ex;refine⟨f,fd,ps,?_,mg_of X G a,F.kp,F.binds k,j⟩;have e:run Γ wl (n+1) i=λargs=>enter (run Γ wl n) wl d args:=by funext args;show(match Γ i with|some d=>enter (run Γ wl n) wl d args|none=>.stuck)=_;rw[b]
 rw[e,j];exact ok f fd F
theorem vd{F:Hp}:∀ns:List Int,aH K F (ns.map V.int) (ns.map D.int)|[]=>.nil|n::ns=>.cons (bY n) (vd ns)
theorem Fp{H:Hp}{a:Addr}{ns:List Int}{g:List Sl->Res R}{as:List Sl}(l:fM K H a (ns.map V.int))(hr:g [.val false (.lst (ns.map D.int))]=.ok (.val (.bl true)) as):Ql K 1 g [.ref a] H (λv _=>v=.bl true) λ_ _ _=>False:=by
 refine⟨rfl,H,_,_,as,⟨.refl _,rfl,λi b d e=>?_,λi s m e k=>?_,λi j c h=>?_⟩,hr,λv F' σ' H' s f=>?_⟩;.match i,e with|0,e=>cases e;refine⟨.ref a,rfl,?_⟩;rw[Rep];exact⟨a,_,rfl,l,vd ns⟩|i+1,e=>simp at e
 .match i,e with|0,e=>cases e;cases k|i+1,e=>simp at e
 .obtain⟨⟨s,m,e,k⟩,_⟩:=h;match i,e with|0,e=>cases e;cases k|i+1,e=>simp at e
 .have f:Rep K F' v (.bl true):=f;rw[Rep]at f;exact f
end
end _H
namespace _H
open PySem
variable{n:Nat}{c:Call}{ρ:List Sl}{is:List Nat}{ds:List D}
noncomputable def Res.sat{b:Type}(Q:b->List Sl->Prop)(x:Res b):Prop:=match x with|.ok a ρ=>Q a ρ|.exc _ _=>False|.stuck=>False
section
variable{α β:Type}{Q Q':α->List Sl->Prop}
@[simp]theorem Vv{a:α}{ρ:List Sl}:(Res.ok a ρ).sat Q=Q a ρ:=rfl
@[simp]theorem acn{k:Nat}{ρ:List Sl}:(Res.exc k ρ:Res α).sat Q=False:=rfl
@[simp]theorem XH:(Res.stuck:Res α).sat Q=False:=rfl
theorem cB{x:Res β}{f:β->List Sl->Res α}:(x.bind f).sat Q=x.sat λa ρ=>(f a ρ).sat Q:=by cases x<;>rfl
@[simp]theorem abP{p:Prop}[Decidable p]{x y:Res α}:(if p then x else y).sat Q=((p->x.sat Q)/\(¬ p->y.sat Q)):=by by_cases h:p<;>simp[h]
@[simp]theorem LC{a:α}{ρ:List Sl}:(lift (some a) ρ).sat Q=Q a ρ:=rfl
@[simp]theorem Mi{ρ:List Sl}:(lift (none:Option α) ρ).sat Q=False:=rfl
@[simp]theorem Ov{p:Prop}[Decidable p]{a:α}{ρ:List Sl}:(lift (if p then some a else none) ρ).sat Q=(p/\Q a ρ):=by by_cases h:p<;>simp[h]
theorem Res.sat.imp{x:Res α}(h:x.sat Q)(k:∀a ρ,Q a ρ->Q' a ρ):x.sat Q':=by cases x with|ok a ρ=>exact k a ρ h|exc _ _=>exact h|stuck=>exact h
theorem sat_iff{x:Res α}:x.sat Q↔∃a ρ,x=.ok a ρ/\Q a ρ:=by cases x with|ok a ρ=>exact⟨λh=>⟨a,ρ,rfl,h⟩,λ⟨_,_,e,h⟩=>by cases e;exact h⟩|exc _ _=>exact⟨λh=>h.elim,λ⟨_,_,e,_⟩=>by cases e⟩|stuck=>exact⟨λh=>h.elim,λ⟨_,_,e,_⟩=>by cases e⟩
end
noncomputable def fr:Sl->Bool|.aQ=>true|.val b _=>!b|.own b _=>!b|.lent _=>false|.iC _=>false|.dC _=>false|.hold _=>false
@[simp]theorem adQ:fr .aQ=true:=rfl
@[simp]theorem aeR{b:Bool}{d:D}:fr (.val b d)=!b:=rfl
@[simp]theorem adS{b:Bool}{d:List D}:fr (.own b d)=!b:=rfl
@[simp]theorem ab0{d:List D}:fr (.lent d)=false:=rfl
theorem UT(ρ:List Sl)(i:Nat)(s:Sl):put ρ i s=match ρ[i]?with|some t=>if fr t=true then some (ρ.set i s)else none|none=>none:=by unfold put;cases h:ρ[i]?with|none=>rfl|some t=>cases t with|aQ=>rfl|val b d=>cases b<;>rfl|own b d=>cases b<;>rfl|lent d=>rfl|iC m=>rfl|dC m=>rfl|hold m=>rfl
theorem j5{Γ:Tab}{w i:Nat}{d:Fd}{args:List Sl}(h:Γ i=some d):run Γ w (n+1) i args=enter (run Γ w n) w d args:=by rw[run,h]
noncomputable def fin(np:Nat):Fl->List Sl->Option (R×List Sl)|.next,ρ=>some (.val .non,ρ.take np)|.ret r,ρ=>some (r,ρ.take np)|_,_=>none
noncomputable def eQ(np:Nat)(Q:R->List Sl->Prop)(fl:Fl)(ρ:List Sl):Prop:=match fl with|.next=>Q (.val .non) (ρ.take np)|.ret r=>Q r (ρ.take np)|_=>False
noncomputable def sQ(c:Call)(n:Nat)(r:List S)(Q:Fl->List Sl->Prop)(fl:Fl)(ρ:List Sl):Prop:=match fl with|.next=>(eO c n r ρ).sat Q|fl=>Q fl ρ
noncomputable def fQ(J:List Sl->Prop)(Q:Fl->List Sl->Prop)(fl:Fl)(ρ:List Sl):Prop:=match fl with|.next=>J ρ|.cont=>J ρ|.brk=>Q .next ρ|.ret v=>Q (.ret v) ρ
section
variable{np:Nat}{Q:R->List Sl->Prop}{ρ:List Sl}{v:R}{c:Call}{n:Nat}{r:List S}{Q':Fl->List Sl->Prop}{J:List Sl->Prop}
@[simp]theorem acI:eQ np Q .next ρ=Q (.val .non) (ρ.take np):=rfl
@[simp]theorem aeM:eQ np Q (.ret v) ρ=Q v (ρ.take np):=rfl
@[simp]theorem ae9:eQ np Q .brk ρ=False:=rfl
@[simp]theorem abv:eQ np Q .cont ρ=False:=rfl
@[simp]theorem abq:sQ c n r Q' .next ρ=(eO c n r ρ).sat Q':=rfl
@[simp]theorem adp:sQ c n r Q' (.ret v) ρ=Q' (.ret v) ρ:=rfl
@[simp]theorem adY:sQ c n r Q' .brk ρ=Q' .brk ρ:=rfl
@[simp]theorem acA:sQ c n r Q' .cont ρ=Q' .cont ρ:=rfl
@[simp]theorem acp:fQ J Q' .next ρ=J ρ:=rfl
@[simp]theorem abU:fQ J Q' .cont ρ=J ρ:=rfl
@[simp]theorem aeQ:fQ J Q' .brk ρ=Q' .next ρ:=rfl
@[simp]theorem ae0:fQ J Q' (.ret v) ρ=Q' (.ret v) ρ:=rfl
end
theorem FN{d:Fd}{args:List Sl}{Q:R->List Sl->Prop}(a:args.length=d.np)(hd:d.np<=d.nn)(h:(eO c n d.body (args++replicate (d.nn-d.np) .aQ)).sat (eQ d.np Q)):(enter c n d args).sat Q:=by unfold enter;rw[if_pos ⟨a,hd⟩];revert h;cases eO c n d.body (args++replicate (d.nn-d.np) .aQ)with|stuck=>exact λh=>False.elim h|exc _ _=>exact λh=>False.elim h|ok fl ρ=>cases fl<;>first|exact id|exact λh=>False.elim h
theorem aO{Γ:Tab}{w i:Nat}{d:Fd}{args:List Sl}{Q:R->List Sl->Prop}(a:Γ i=some d)(b:args.length=d.np)(hd:d.np<=d.nn)(h:(eO (run Γ w n) w d.body (args++replicate (d.nn-d.np) .aQ)).sat (eQ d.np Q)):(run Γ w (n+1) i args).sat Q:=by rw[j5 a];exact FN b hd h
theorem ak{s:S}{r:List S}{Q:Fl->List Sl->Prop}(h:(ex c n s ρ).sat (sQ c n r Q)):(eO c n (s::r) ρ).sat Q:=by rw[QF,cB];refine h.imp λfl a q=>?_;cases fl<;>exact q
theorem Ge{s:S}{r:List S}{Q:Fl->List Sl->Prop}(h:(ex c n s ρ).sat (sQ c n r Q)):sQ c n (s::r) Q .next ρ:=ak h
@[simp]theorem abI{c:Call}{n:Nat}{ρ:List Sl}{Q:Fl->List Sl->Prop}:(eO c n [] ρ).sat Q=Q .next ρ:=by rw[xs0];rfl
theorem dJ{s:S}{r:List S}{Q:Fl->List Sl->Prop}(M:List Sl->Prop)(h:(ex c n s ρ).sat λfl a=>fl=.next/\M a)(k:∀a,M a->(eO c n r a).sat Q):(eO c n (s::r) ρ).sat Q:=ak (h.imp λfl a⟨e,q⟩=>by subst e;exact k a q)
theorem cA{is:List Nat}{one:Bool}{body:List Sl->Res Fl}(J:List D->List Sl->Prop){Q:Fl->List Sl->Prop}(b:∀d r ρ,J (d::r) ρ->∃a,cI ρ is one d=some a/\(body a).sat (fQ (J r) Q))(f:∀ρ,J [] ρ->Q .next ρ):∀{ds:List D}{ρ:List Sl},J ds ρ->(jB is one body ds ρ).sat Q|[],ρ,j=>f ρ j|d::r,ρ,j=>by obtain⟨a,e,h⟩:=b d r ρ j;rw[zV,e];show((body a).bind _).sat Q;rw[cB];refine h.imp λfl g q=>?_;cases fl with|next=>exact cA J b f q|cont=>exact cA J b f q|brk=>exact q|ret v=>exact q
theorem lY{is:List Nat}{one:Bool}{a:List Sl->Res Bool}{p:Ev}(J:List Sl->Prop)(g:D->Option D){Q:List D->List Sl->Prop}:∀{ds f:List D}{ρ:List Sl},J ρ->(∀ d,d ∈ ds->∀ ρ,J ρ->∃ i,cI ρ is one d=some i/\(a i).sat λb l=>if b=true then(p l).sat λr s=>g d=some r.d/\J s else g d=none/\J l)->(∀ ρ,J ρ->Q (f++ds.filterMap g) ρ)->(turns is one a p ds f ρ).sat Q|[],f,ρ,j,h,k=>by rw[IW];simpa using k ρ j|d::r,f,ρ,j,h,k=>by obtain⟨i,e,h1⟩:=h d (by simp) ρ j;rw[Kq,e];show((a i).bind _).sat Q;rw[cB];refine h1.imp λb l q=>?_;cases b with|true=>rw[if_pos rfl]at q;rw[if_pos rfl,cB];refine q.imp λx s⟨u,j3⟩=>?_;refine lY J g j3 (λd' m=>h d' (by simp[m])) λo t=>?_;have:=k o t;rw[filterMap_cons,u]at this;rw[append_assoc];exact this|false=>rw[if_neg (by simp)]at q;rw[if_neg (by simp)];refine lY J g q.2 (λd' m=>h d' (by simp[m])) λo t=>?_;have:=k o t;rw[filterMap_cons,q.1]at this;exact this
theorem Aq{one:Bool}{b:Ev}(J:List Sl->Prop)(g:D->D){Q:List D->List Sl->Prop}(j:J ρ)(h:∀d,d∈ds->∀ρ,J ρ->∃a,cI ρ is one d=some a/\(b a).sat λr f=>g d=r.d/\J f)(k:∀ρ,J ρ->Q (ds.map g) ρ):(turns is one (wO c none) b ds [] ρ).sat Q:=lY J (λd=>some (g d)) j (λd hd ρ j=>by obtain⟨a,e,h1⟩:=h d hd ρ j;refine⟨a,e,?_⟩;rw[wO,Vv,if_pos rfl];exact h1.imp λr f q=>⟨by rw[q.1],q.2⟩) λρ j=>by simpa using k ρ j
section
variable{ρ l:List Sl}{a:Sl}{i j:Int}{k m:Nat}{b b':Bool}{s:Str}{d:D}{ds es:List D}{e f:Ev}{x:Option Sl}{c:Call}
@[simp]theorem Tv:cH .int .non=false:=rfl
@[simp]theorem Xz:cH .int (.bl b)=true:=rfl
@[simp]theorem Uu:cH .int (.int i)=true:=rfl
@[simp]theorem VM:cH .int (.str s)=false:=rfl
@[simp]theorem Ws:cH .int (.tup ds)=false:=rfl
@[simp]theorem Tr:cH .int (.lst ds)=false:=rfl
@[simp]theorem QC:cH .bool .non=false:=rfl
@[simp]theorem Su:cH .bool (.bl b)=true:=rfl
@[simp]theorem Rz:cH .bool (.int i)=false:=rfl
@[simp]theorem QZ:cH .bool (.str s)=false:=rfl
@[simp]theorem Rw:cH .bool (.tup ds)=false:=rfl
@[simp]theorem Q4:cH .bool (.lst ds)=false:=rfl
@[simp]theorem Uj:cH .str .non=false:=rfl
@[simp]theorem Xo:cH .str (.bl b)=false:=rfl
@[simp]theorem Vk:cH .str (.int i)=false:=rfl
@[simp]theorem Tc:cH .str (.str s)=true:=rfl
@[simp]theorem U3:cH .str (.tup ds)=false:=rfl
@[simp]theorem Vt:cH .str (.lst ds)=false:=rfl
@[simp]theorem M5:cH .tuple .non=false:=rfl
@[simp]theorem Rm:cH .tuple (.bl b)=false:=rfl
@[simp]theorem O5:cH .tuple (.int i)=false:=rfl
@[simp]theorem MJ:cH .tuple (.str s)=false:=rfl
@[simp]theorem PJ:cH .tuple (.tup ds)=true:=rfl
@[simp]theorem MP:cH .tuple (.lst ds)=false:=rfl
@[simp]theorem QQ:cH .list .non=false:=rfl
@[simp]theorem Wg:cH .list (.bl b)=false:=rfl
@[simp]theorem Rc:cH .list (.int i)=false:=rfl
@[simp]theorem Ri:cH .list (.str s)=false:=rfl
@[simp]theorem QW:cH .list (.tup ds)=false:=rfl
@[simp]theorem QL:cH .list (.lst ds)=true:=rfl
@[simp]theorem Ry:cH .none .non=true:=rfl
@[simp]theorem Uk:cH .none (.bl b)=false:=rfl
@[simp]theorem Q0:cH .none (.int i)=false:=rfl
@[simp]theorem Q7:cH .none (.str s)=false:=rfl
@[simp]theorem Q9:cH .none (.tup ds)=false:=rfl
@[simp]theorem Ra:cH .none (.lst ds)=false:=rfl
@[simp]theorem W8:kJ .non=true:=rfl
@[simp]theorem Z0:kJ (.bl b)=false:=rfl
@[simp]theorem Yl:kJ (.int i)=false:=rfl
@[simp]theorem Yh:kJ (.str s)=false:=rfl
@[simp]theorem WR:kJ (.tup ds)=false:=rfl
@[simp]theorem WN:kJ (.lst ds)=false:=rfl
@[simp]theorem YJ:flat .non=true:=rfl
@[simp]theorem acd:flat (.bl b)=true:=rfl
@[simp]theorem YH:flat (.int i)=true:=rfl
@[simp]theorem YD:flat (.str s)=true:=rfl
@[simp]theorem Zr:flat (.tup ds)=false:=rfl
@[simp]theorem Zv:flat (.lst ds)=false:=rfl
@[simp]theorem aeG:(R.val d).d=d:=rfl
@[simp]theorem aec:(R.own ds).d=.lst ds:=rfl
@[simp]theorem ZS:Ba (.val d)=.val false d:=rfl
@[simp]theorem Zk:Ba (.own ds)=.own false ds:=rfl
@[simp]theorem Xi:vf (.val d)=.dat d:=rfl
@[simp]theorem XS:vf (.own ds)=.tmp ds:=rfl
@[simp]theorem abA:jc (.int i)=some i:=rfl
@[simp]theorem afx:Cj (.bl b)=some b:=rfl
@[simp]theorem Xj:items (.lst ds)=some ds:=rfl
@[simp]theorem W2:items (.tup ds)=some ds:=rfl
@[simp]theorem S7:We (.tup ds)=some ds:=rfl
@[simp]theorem U5:Af (.lst ds)=some ds:=rfl
@[simp]theorem acL:uG .add=tO:=rfl
@[simp]theorem acM:uG .sub=yS:=rfl
@[simp]theorem abp:uG .mul=nG:=rfl
@[simp]theorem Zz:uG .fdiv=tM:=rfl
@[simp]theorem abD:uG .mod=yR:=rfl
@[simp]theorem acC:uG .pow=yg:=rfl
@[simp]theorem W9:tO (.int i) (.int j)=some (.val (.int (i+j))):=rfl
@[simp]theorem WK:tO (.lst ds) (.lst es)=if ds.length+es.length<=lim then some (.own (ds++es))else none:=rfl
@[simp]theorem W0:tO (.tup ds) (.tup es)=if ds.length+es.length<=lim then some (.val (.tup (ds++es)))else none:=rfl
@[simp]theorem Xb:yS (.int i) (.int j)=some (.val (.int (i-j))):=rfl
@[simp]theorem XM:nG (.int i) (.int j)=if((-18446744073709551616<i/\i<18446744073709551616)\/(-18446744073709551616<j/\j<18446744073709551616))then some (.val (.int (i*j)))else none:=rfl
@[simp]theorem VF:tM (.int i) (.int j)=if 0<j/\j<1606938044258990275541962092341162602522202993782792835301376 then some (.val (.int (i/j)))else none:=rfl
@[simp]theorem Ye:yR (.int i) (.int j)=if 0<j then some (.val (.int (i%j)))else none:=rfl
@[simp]theorem XX:yg (.int i) (.int j)=if 0<=j/\j<=1000/\i.natAbs<18446744073709551616 then some (.val (.int (i^j.toNat)))else none:=rfl
@[simp]theorem abM:Ey (.lst ds) (.int i)=(at' ds i).map .val:=rfl
@[simp]theorem ach:Ey (.tup ds) (.int i)=(at' ds i).map .val:=rfl
@[simp]theorem Zb:Iv (.int i)=some (.val (.int (-i))):=rfl
@[simp]theorem XN:cm .eq (.int i) (.int j)=some (i==j):=rfl
@[simp]theorem W6:cm .ne (.int i) (.int j)=some (!(i==j)):=rfl
@[simp]theorem Zm:cm .eq (.bl b) (.bl b')=some (b==b'):=rfl
@[simp]theorem Zn:cm .ne (.bl b) (.bl b')=some (!(b==b')):=rfl
@[simp]theorem Xf:cm .lt (.int i) (.int j)=some (decide (i<j)):=rfl
@[simp]theorem Xd:cm .le (.int i) (.int j)=some (decide (i<=j)):=rfl
@[simp]theorem Xm:cm .gt (.int i) (.int j)=some (decide (j<i)):=rfl
@[simp]theorem WY:cm .ge (.int i) (.int j)=some (decide (j<=i)):=rfl
@[simp]theorem aeF:cm .isN d .non=some (kJ d):=rfl
@[simp]theorem abn:cm .Qu d .non=some (!kJ d):=rfl
@[simp]theorem Q8:blt .len [.lst ds]=some (.val (.int ds.length)):=rfl
@[simp]theorem RJ:blt .len [.tup ds]=some (.val (.int ds.length)):=rfl
@[simp]theorem OJ:blt .list [.lst ds]=some (.own ds):=rfl
@[simp]theorem Mq:blt .list [.tup ds]=some (.own ds):=rfl
@[simp]theorem LK:blt .tuple [.lst ds]=some (.val (.tup ds)):=rfl
@[simp]theorem LR:blt .tuple [.tup ds]=some (.val (.tup ds)):=rfl
@[simp]theorem aai:blt .min2 [.int i,.int j]=some (.val (.int (if j<i then j else i))):=rfl
@[simp]theorem ZV:blt .max2 [.int i,.int j]=some (.val (.int (if i<j then j else i))):=rfl
@[simp]theorem abF:blt .all [.lst ds]=(ds.mapM Cj).map λbs=>.val (.bl (bs.all id)):=rfl
@[simp]theorem XR:isVar (.var k)=some k:=rfl
@[simp]theorem ab6:pk (a::l) k=match(a::l)[k]?with|some (.val _ d)=>some d|some (.own _ ds)=>some (.lst ds)|some (.lent ds)=>some (.lst ds)|_=>none:=rfl
@[simp]theorem aat:Ad (a::l) k=match pk (a::l) k with|some (.lst ds)=>some ds|_=>none:=rfl
@[simp]theorem YL:cL (some k) e ρ=lift (pk ρ k) ρ:=rfl
@[simp]theorem Z6:cL none e ρ=(e ρ).bind λr ρ=>.ok r.d ρ:=rfl
@[simp]theorem W5{y:Option Nat}:jm (some k) e y f ρ=(lift (pk ρ k) ρ).bind λ_ ρ=>(cL y f ρ).bind λy ρ=>(lift (pk ρ k) ρ).bind λx ρ=>.ok (x,y) ρ:=rfl
@[simp]theorem Xa{y:Option Nat}:jm none e y f ρ=(cL none e ρ).bind λx ρ=>(cL y f ρ).bind λy ρ=>.ok (x,y) ρ:=rfl
@[simp]theorem Xg{es:List D}:dm (.own b ds) (some (.own b' es))=.own b es:=rfl
@[simp]theorem Yb:dm (.own b ds) (some (.val b' d))=.val b d:=rfl
@[simp]theorem Ii:dm a none=a:=by cases a<;>rfl
@[simp]theorem Fv:dm (.val b d) x=.val b d:=by cases x<;>rfl
@[simp]theorem WX:dm .aQ x=.aQ:=by cases x<;>rfl
@[simp]theorem Ae:dm (.lent ds) x=.lent ds:=by cases x<;>rfl
@[simp]theorem aaP:cI ρ [k] true d=put ρ k (.val false d):=rfl
@[simp]theorem WT{is:List Nat}:cI ρ is false (.tup ds)=putAll ρ is ds:=by cases is<;>rfl
@[simp]theorem VL:srcOf none e ρ=(e ρ).bind λr ρ=>lift (items r.d) ρ:=rfl
@[simp]theorem T6:srcOf (some k) e (a::l)=match(a::l)[k]?with|some (.val _ d)=>lift (items d) (a::l)|some (.own _ ds)=>.ok ds ((a::l).set k (.lent ds))|some (.lent ds)=>.ok ds (a::l)|_=>.stuck:=rfl
@[simp]theorem QX{g:List Sl}:bB g none ρ=ρ:=rfl
@[simp]theorem QJ:bB (a::l) (some k) ρ=match(a::l)[k]?with|some (.own b ds)=>ρ.set k (.own b ds)|_=>ρ:=rfl
@[simp]theorem Zf{s:Sl}:put (a::l) k s=match(a::l)[k]?with|some t=>if fr t=true then some ((a::l).set k s)else none|none=>none:=UT ..
@[simp]theorem Tf:putAll ρ [] []=some ρ:=rfl
@[simp]theorem Rj{is:List Nat}:putAll ρ (k::is) (d::ds)=(put ρ k (.val false d)).bind λρ=>putAll ρ is ds:=rfl
end
@[simp]theorem at_0{a:Type}{b:a}{l:List a}:at' (b::l) 0=some b:=by unfold at' j9;rw[if_pos (by decide),if_pos (by simp only[length_cons];omega)];rfl
@[simp]theorem at_1{a:Type}{e b:a}{l:List a}:at' (e::b::l) 1=some b:=by unfold at' j9;rw[if_pos (by decide),if_pos (by simp only[length_cons];omega)];rfl
@[simp]theorem at_2{a:Type}{e f b:a}{l:List a}:at' (e::f::b::l) 2=some b:=by unfold at' j9;rw[if_pos (by decide),if_pos (by simp only[length_cons];omega)];rfl
@[simp]theorem at_3{a:Type}{e f g b:a}{l:List a}:at' (e::f::g::b::l) 3=some b:=by unfold at' j9;rw[if_pos (by decide),if_pos (by simp only[length_cons];omega)];rfl
@[simp]theorem at_4{a:Type}{e f g h b:a}{l:List a}:at' (e::f::g::h::b::l) 4=some b:=by unfold at' j9;rw[if_pos (by decide),if_pos (by simp only[length_cons];omega)];rfl
@[simp]theorem at_5{a:Type}{e f g h i b:a}{l:List a}:at' (e::f::g::h::i::b::l) 5=some b:=by unfold at' j9;rw[if_pos (by decide),if_pos (by simp only[length_cons];omega)];rfl
@[simp]theorem at_6{a:Type}{e f g h i j b:a}{l:List a}:at' (e::f::g::h::i::j::b::l) 6=some b:=by unfold at' j9;rw[if_pos (by decide),if_pos (by simp only[length_cons];omega)];rfl
@[simp]theorem at_7{a:Type}{e f g h i j k b:a}{l:List a}:at' (e::f::g::h::i::j::k::b::l) 7=some b:=by unfold at' j9;rw[if_pos (by decide),if_pos (by simp only[length_cons];omega)];rfl
theorem o4{a:Type}{l:List a}{i:Int}(h:0<=i)(h':i<l.length):at' l i=l[i.toNat]?:=by unfold at' j9;rw[if_pos h,if_pos h'];rfl
theorem HF{a:Type}{l:List a}{k:Nat}(h':k<l.length):at' l (k:Int)=l[k]?:=by rw[o4 (by omega) (by omega)];simp
@[simp]theorem Xr{d:D}:isVar (.con d)=none:=rfl
@[simp]theorem U7{x:Str}{d:D}:isVar (.glob x d)=none:=rfl
@[simp]theorem Xl{o:Op}{p q:P}:isVar (.bin o p q)=none:=rfl
@[simp]theorem Yd{p:P}:isVar (.neg p)=none:=rfl
@[simp]theorem WM{p:P}:isVar (.not p)=none:=rfl
@[simp]theorem WQ{p q:P}:isVar (.and p q)=none:=rfl
@[simp]theorem YX{p q:P}:isVar (.or p q)=none:=rfl
@[simp]theorem Yk{o:Cm}{p q:P}:isVar (.cmp o p q)=none:=rfl
@[simp]theorem Rg{o a:Cm}{p q r:P}:isVar (.chain o a p q r)=none:=rfl
@[simp]theorem XC{p q r:P}:isVar (.RP p q r)=none:=rfl
@[simp]theorem Xe{as:List P}:isVar (.tup as)=none:=rfl
@[simp]theorem Xy{as:List P}:isVar (.lst as)=none:=rfl
@[simp]theorem Xu{p q:P}:isVar (.idx p q)=none:=rfl
@[simp]theorem Rv{p q r:P}:isVar (.slice p q r)=none:=rfl
@[simp]theorem UJ{f:Nat}{as:List P}:isVar (.call f as)=none:=rfl
@[simp]theorem W7{b:Blt}{as:List P}:isVar (.blt b as)=none:=rfl
@[simp]theorem Uv{a:List Ty}{p:P}:isVar (.inst a p)=none:=rfl
@[simp]theorem Ug{p e:P}{n:Nat}{is:List Nat}{one:Bool}{t:Option P}:isVar (.comp p n is one t e)=none:=rfl
@[simp]theorem Xq{p q:P}:isVar (.vO p q)=none:=rfl
@[simp]theorem Yc{p:P}:isVar (.enm p)=none:=rfl
@[simp]theorem WW{p q:P}:isVar (.zip p q)=none:=rfl
noncomputable def uz(c:Call)(is:List Nat)(one:Bool)(a:Option P)(b:P)(ds:List D)(ρ:List Sl):Res (List D):=turns is one (wO c a) (ev c b) ds [] ρ
@[simp]theorem acs{c:Call}{src f:P}{n:Nat}{is:List Nat}{one:Bool}{b:Option P}{ρ:List Sl}:ev c (.comp src n is one b f) ρ=(srcOf (isVar src) (ev c src) ρ).bind λds a=>if ds.length<=lim then(uz c is one b f ds (a++replicate n .aQ)).bind λxs e=>.ok (.own xs) (bB ρ (isVar src) (e.take a.length))else .stuck:=(rfl)
noncomputable def Jm(c:Call)(n:Nat)(t:P)(body:List S)(k:Nat)(ρ:List Sl):Res Fl:=rR (iB (ev c t)) (eO c n body) k ρ
@[simp]theorem afm{c:Call}{n:Nat}{t:P}{body:List S}{ρ:List Sl}:ex c n (.whl t body) ρ=Jm c n t body n ρ:=(rfl)
theorem xr{b e h:Type}{x:Res e}{f:e->List Sl->Res b}{g:b->List Sl->Res h}:(x.bind f).bind g=x.bind λa ρ=>(f a ρ).bind g:=by cases x<;>rfl
@[simp]theorem adD{Γ:Tab}{w n i:Nat}{args:List Sl}{b:Type}{f:R->List Sl->Res b}{Q:b->List Sl->Prop}:((run Γ w n i args).bind f).sat Q=(run Γ w n i args).sat λa ρ=>(f a ρ).sat Q:=cB
@[simp]theorem ad3{Γ:Tab}{w n i:Nat}{args:List Sl}{b e:Type}{f:R->List Sl->Res b}{g:b->List Sl->Res e}:((run Γ w n i args).bind f).bind g=(run Γ w n i args).bind λa ρ=>(f a ρ).bind g:=xr
@[simp]theorem acu{c:Call}{is:List Nat}{one:Bool}{b:Option P}{e:P}{ds:List D}{ρ:List Sl}{g:Type}{f:List D->List Sl->Res g}{Q:g->List Sl->Prop}:((uz c is one b e ds ρ).bind f).sat Q=(uz c is one b e ds ρ).sat λa ρ=>(f a ρ).sat Q:=cB
@[simp]theorem abC{c:Call}{is:List Nat}{one:Bool}{b:Option P}{e:P}{ds:List D}{ρ:List Sl}{h i:Type}{f:List D->List Sl->Res h}{g:h->List Sl->Res i}:((uz c is one b e ds ρ).bind f).bind g=(uz c is one b e ds ρ).bind λa ρ=>(f a ρ).bind g:=xr
@[simp]theorem aeJ{is:List Nat}{one:Bool}{b:List Sl->Res Fl}{ds:List D}{ρ:List Sl}{e:Type}{f:Fl->List Sl->Res e}{Q:e->List Sl->Prop}:((jB is one b ds ρ).bind f).sat Q=(jB is one b ds ρ).sat λa ρ=>(f a ρ).sat Q:=cB
@[simp]theorem abE{b e:Type}{p:Prop}[Decidable p]{a:e}{ρ:List Sl}{f:e->List Sl->Res b}{Q:b->List Sl->Prop}:((lift (if p then some a else none) ρ).bind f).sat Q=(p/\(f a ρ).sat Q):=by by_cases h:p<;>simp[h,lift,Res.bind]
@[simp]theorem acD{b e h:Type}{p:Prop}[Decidable p]{a:e}{ρ:List Sl}{f:e->List Sl->Res b}{g:b->List Sl->Res h}:((lift (if p then some a else none) ρ).bind f).bind g=(lift (if p then some a else none) ρ).bind λa ρ=>(f a ρ).bind g:=xr
@[simp]theorem bb_ite{b a:Type}{p:Prop}[Decidable p]{x y:Res a}{f:a->List Sl->Res b}:(if p then x else y).bind f=if p then x.bind f else y.bind f:=by by_cases h:p<;>simp[h]
@[simp]theorem adI{c:Call}{n k:Nat}{t:P}{b:List S}{ρ:List Sl}{e:Type}{f:Fl->List Sl->Res e}{Q:e->List Sl->Prop}:((Jm c n t b k ρ).bind f).sat Q=(Jm c n t b k ρ).sat λa ρ=>(f a ρ).sat Q:=cB
@[simp]theorem afn{b e:Type}{a:b}{ρ:List Sl}{f:b->List Sl->Res e}:(Res.ok a ρ).bind f=f a ρ:=rfl
@[simp]theorem Xn{a b:Type}{f:a->List Sl->Res b}:(Res.stuck:Res a).bind f=.stuck:=rfl
@[simp]theorem aaq{b:Type}{a:b}{ρ:List Sl}:lift (some a) ρ=.ok a ρ:=rfl
@[simp]theorem aaj{a:Type}{ρ:List Sl}:lift (none:Option a) ρ=.stuck:=rfl
noncomputable def GR:List Sl->Nat->Sl->List Sl|[],_,_=>[]|t::ρ,0,s=>dm t (some s)::ρ|t::ρ,k+1,s=>t::GR ρ k s
theorem uA{k:Nat}{s:Sl}:GR [] k s=[]:=rfl
theorem rQ{t:Sl}{ρ:List Sl}{s:Sl}:GR (t::ρ) 0 s=dm t (some s)::ρ:=rfl
theorem sZ{t:Sl}{ρ:List Sl}{k:Nat}{s:Sl}:GR (t::ρ) (k+1) s=t::GR ρ k s:=rfl
noncomputable def bk:List Arg->List Sl->List Sl->List Sl|.fY k::as,s::ss,ρ=>bk as ss (GR ρ k s)|.dat _::as,_::ss,ρ=>bk as ss ρ|.tmp _::as,_::ss,ρ=>bk as ss ρ|_,_,ρ=>ρ
section
variable{t s:Sl}{ρ ss:List Sl}{k:Nat}{as:List Arg}{d:D}{ds:List D}
@[simp]theorem agN:GR (t::ρ) 0 s=dm t (some s)::ρ:=rfl
@[simp]theorem agv:GR (t::ρ) (k+1) s=t::GR ρ k s:=rfl
@[simp]theorem R6:bk (.fY k::as) (s::ss) ρ=bk as ss (GR ρ k s):=rfl
@[simp]theorem Us:bk (.dat d::as) (s::ss) ρ=bk as ss ρ:=rfl
@[simp]theorem SJ:bk (.tmp ds::as) (s::ss) ρ=bk as ss ρ:=rfl
@[simp]theorem aeX:bk [] ss ρ=ρ:=rfl
end
theorem Ah{s:Sl}:∀{ρ:List Sl}{k j:Nat},(GR ρ k s)[j]?=(ρ[j]?).map λt=>if j=k then dm t (some s)else t|[],_,_=>by simp[uA,rQ,sZ]|t::ρ,0,0=>by simp[uA,rQ,sZ]|t::ρ,0,j+1=>by simp[uA,rQ,sZ]|t::ρ,k+1,0=>by simp[uA,rQ,sZ]|t::ρ,k+1,j+1=>by have:=Ah (s:=s) (ρ:=ρ) (k:=k) (j:=j);simp only[uA,rQ,sZ,List.getElem?_cons_succ,this];congr 1;funext t;simp
theorem xX{as:List Arg}{ss:List Sl}:∀{ρ:List Sl}{i j:Nat},(fC as ss i ρ)[j]?=(ρ[j]?).map λt=>dm t (aU (i+j) as ss)|[],_,_=>by simp[jE,gU]|t::ρ,i,0=>by simp[jE,gU]|t::ρ,i,j+1=>by have:=xX (as:=as) (ss:=ss) (ρ:=ρ) (i:=i+1) (j:=j);simp only[jE,gU,List.getElem?_cons_succ,this];rw[show i+1+j=i+(j+1)by omega]
noncomputable def stb(t:Sl):Prop:=∀x,dm t x=t
noncomputable def Uh(ρ:List Sl):List Arg->Prop|[]=>True|.fY k::as=>(Arg.fY k∈as->∀t,ρ[k]?=some t->stb t)/\Uh ρ as|_::as=>Uh ρ as
theorem rG{ρ:List Sl}:∀{as:List Arg}{a:List Sl},Uh ρ as->(∀k,Arg.fY k∈as->∀t,a[k]?=some t->ρ[k]?=some t\/stb t)->Uh a as
 |[],_,_,_=>trivial|.fY k::as,a,h,g=>⟨λf t ht=>by
  rcases g k (by simp) t ht with e|e;.exact h.1 f t e
  .exact e,rG h.2 λj b=>g j (by simp[b])⟩|.dat _::as,a,h,g=>rG (as:=as) h λj b=>g j (by simp[b])|.tmp _::as,a,h,g=>rG (as:=as) h λj b=>g j (by simp[b])
theorem nW{k:Nat}:∀{as:List Arg}{ss:List Sl},Arg.fY k∉as->aU k as ss=none|[],_,_=>by unfold aU;rfl|.fY j::as,[],_=>rfl|.dat _::as,[],_=>rfl|.tmp _::as,[],_=>rfl|.fY j::as,s::ss,h=>by simp only[mem_cons,Arg.fY.injEq,not_or]at h;rw[aU,if_neg (λe=>h.1 e.symm),nW h.2]|.dat _::as,s::ss,h=>by simp only[mem_cons,not_or]at h;rw[aU,nW h.2]|.tmp _::as,s::ss,h=>by simp only[mem_cons,not_or]at h;rw[aU,nW h.2]
theorem CP:∀{as:List Arg}{ss ρ:List Sl},Uh ρ as->∀j,(bk as ss ρ)[j]?=(ρ[j]?).map λt=>dm t (aU j as ss)
 |[],ss,ρ,_,j=>by cases ss<;>simp[aU]|.fY k::as,[],ρ,_,j=>by rw[show bk (.fY k::as) [] ρ=ρ from rfl];simp[aU]|.dat d::as,[],ρ,_,j=>by rw[show bk (.dat d::as) [] ρ=ρ from rfl];simp[aU]|.tmp d::as,[],ρ,_,j=>by rw[show bk (.tmp d::as) [] ρ=ρ from rfl];simp[aU]|.dat _::as,s::ss,ρ,h,j=>by rw[Us,aU];exact CP (as:=as) h j|.tmp _::as,s::ss,ρ,h,j=>by rw[SJ,aU];exact CP (as:=as) h j|.fY k::as,s::ss,ρ,h,j=>by
   have b:Uh (GR ρ k s) as:=rG h.2 λi hi t ht=>by rw[Ah]at ht;cases e:ρ[i]?with|none=>rw[e]at ht;cases ht|some t0=>
      rw[e]at ht;by_cases c:i=k;.subst c;have hs:=h.1 hi t0 e;simp[hs (some s)]at ht;exact .inl (by rw[ht])
      .simp[c]at ht;exact .inl (by rw[ht])
   rw[R6,CP b j,Ah,aU];cases e:ρ[j]?with|none=>rfl|some t0=>
     simp only[Option.map_some];by_cases c:j=k
     . subst c;rw[if_pos rfl,if_pos rfl];by_cases a:Arg.fY j∈as;.have hs:=h.1 a t0 e;rw[hs (some s),hs]
       .rw[nW a,Ii]
     .rw[if_neg c,if_neg (λz=>c z.symm)]
theorem gQ{ρ:List Sl}{k:Nat}{b:Bool}{ds:List D}(e:ρ[k]?=some (.own b ds)):∀{as:List Arg}{u:List Nat}{r:List Sl},k∈u->bW ρ as u=some r->Arg.fY k∉as
 |[],_,_,_,_=>by simp|.dat _::as,u,r,a,h=>by simp only[mR,mU,mK,jy,map_eq_some_iff]at h;obtain⟨f,h,_⟩:=h;simp[gQ e a h]|.tmp _::as,u,r,a,h=>by simp only[mR,mU,mK,jy,map_eq_some_iff]at h;obtain⟨f,h,_⟩:=h;simp[gQ e a h]|.fY i::as,u,r,a,h=>by
   rw[jy]at h;have hi:i≠k:=by rintro rfl;rw[e]at h;simp[a]at h
   have:Arg.fY k∉as:=by
    split at h;.obtain⟨f,h,_⟩:=map_eq_some_iff.mp h;exact gQ e a h
    . split at h;.cases h
      .obtain⟨f,h,_⟩:=map_eq_some_iff.mp h;exact gQ e (by simp[a]) h
    . split at h;.cases h
      .obtain⟨f,h,_⟩:=map_eq_some_iff.mp h;exact gQ e (by simp[a]) h
    .cases h
   simp[this];exact λz=>hi z.symm
theorem gR{ρ:List Sl}:∀{as:List Arg}{u:List Nat}{r:List Sl},bW ρ as u=some r->Uh ρ as
 |[],_,_,_=>trivial|.dat _::as,u,r,h=>by obtain⟨a,h,_⟩:=map_eq_some_iff.mp h;exact gR (as:=as) h|.tmp _::as,u,r,h=>by obtain⟨a,h,_⟩:=map_eq_some_iff.mp h;exact gR (as:=as) h|.fY i::as,u,r,h=>by
   rw[jy]at h;split at h;.rename_i b d q;obtain⟨a,h,_⟩:=map_eq_some_iff.mp h;exact⟨λ_ t ht=>by rw[q]at ht;cases ht;exact λx=>Fv,gR h⟩
   . rename_i b ds q;split at h;.cases h
     .obtain⟨a,h,_⟩:=map_eq_some_iff.mp h;exact⟨λe=>absurd e (gQ q (by simp) h),gR h⟩
   . rename_i ds q;split at h;.cases h
     .obtain⟨a,h,_⟩:=map_eq_some_iff.mp h;exact⟨λ_ t ht=>by rw[q]at ht;cases ht;exact λx=>Ae,gR h⟩
   .cases h
theorem Y5{as:List Arg}{ss r:List Sl}{u:List Nat}(h:bW ρ as u=some r):fC as ss 0 ρ=bk as ss ρ:=by apply List.ext_getElem?;intro j;rw[xX,CP (gR h),zero_add]
@[simp]theorem Xx{c:Call}{k:Nat}{as:List Arg}{ρ:List Sl}:jL c k as ρ=match bW ρ as []with|none=>.stuck|some args=>(c k args).bind λr a=>.ok r (bk as a ρ):=by unfold jL;cases e:bW ρ as []with|none=>rfl|some args=>simp only[<-Y5 (r:=args) e];cases c k args<;>rfl
theorem fU{one:Bool}{a:P}(J:List Sl->Prop)(g:D->D){Q:List D->List Sl->Prop}(j:J ρ)(h:∀d,d∈ds->∀ρ,J ρ->∃b,cI ρ is one d=some b/\(ev c a b).sat λr e=>g d=r.d/\J e)(k:∀ρ,J ρ->Q (ds.map g) ρ):(uz c is one none a ds ρ).sat Q:=Aq J g j h k
theorem Gi{one:Bool}{i t:P}(J:List Sl->Prop)(g:D->Option D){Q:List D->List Sl->Prop}(j:J ρ)(h:∀d,d∈ds->∀ρ,J ρ->∃a,cI ρ is one d=some a/\(ev c t a).sat λr f=>∃b,r.d=.bl b/\if b=true then(ev c i f).sat λr l=>g d=some r.d/\J l else g d=none/\J f)(k:∀ρ,J ρ->Q (ds.filterMap g) ρ):(uz c is one (some t) i ds ρ).sat Q:=lY J g j (λd hd ρ j=>by obtain⟨a,e,h1⟩:=h d hd ρ j;refine⟨a,e,?_⟩;rw[wO,iB,cB];refine h1.imp λr f⟨b,e,q⟩=>?_;rw[e];exact q) λρ j=>by simpa using k ρ j
theorem j7{c:Call}{n:Nat}{t:P}{body:List S}(J:Nat->List Sl->Prop){Q:Fl->List Sl->Prop}(h:∀m ρ,J m ρ->(ev c t ρ).sat λr a=>∃b,r.d=.bl b/\if b=true then(eO c n body a).sat (fQ (λf=>∃g,g<m/\J g f) Q)else Q .next a):∀{k m:Nat}{ρ:List Sl},m<k->J m ρ->(Jm c n t body k ρ).sat Q|0,m,ρ,i,_=>absurd i (Nat.not_lt_zero _)|k+1,m,ρ,i,j=>by unfold Jm;rw[JZ,cB,iB,cB];refine(h m ρ j).imp λr a⟨b,e,q⟩=>?_;rw[e];show(if b=true then _ else _:Res Fl).sat Q;cases b with|false=>rw[if_neg (by simp)]at q;rw[if_neg (by simp)];exact q|true=>rw[if_pos rfl]at q;rw[if_pos rfl,cB];refine q.imp λfl f q=>?_;cases fl with|next=>obtain⟨g,l,o⟩:=q;exact j7 J h (lt_of_lt_of_le l (Nat.lt_succ_iff.mp i)) o|cont=>obtain⟨g,l,o⟩:=q;exact j7 J h (lt_of_lt_of_le l (Nat.lt_succ_iff.mp i)) o|brk=>exact q|ret v=>exact q
@[simp]theorem agI:type_of%@_H.E1:=@_H.E1
@[simp]theorem ag6:type_of%@_H.E2:=@_H.E2
@[simp]theorem agS:type_of%@_H.E3:=@_H.E3
@[simp]theorem agD:type_of%@_H.E4:=@_H.E4
@[simp]theorem agG:type_of%@_H.E5:=@_H.E5
@[simp]theorem agx:type_of%@_H.E6:=@_H.E6
@[simp]theorem agt:type_of%@_H.E7:=@_H.E7
@[simp]theorem agQ:type_of%@_H.E8:=@_H.E8
@[simp]theorem agy:type_of%@_H.E9:=@_H.E9
@[simp]theorem afv:type_of%@_H.E10:=@_H.E10
@[simp]theorem aeO:type_of%@_H.E11:=@_H.E11
@[simp]theorem aeI:type_of%@_H.E12:=@_H.E12
@[simp]theorem adq:type_of%@_H.E13:=@_H.E13
@[simp]theorem adU:type_of%@_H.E14:=@_H.E14
@[simp]theorem afb:type_of%@_H.E15:=@_H.E15
@[simp]theorem afl:type_of%@_H.E16:=@_H.E16
@[simp]theorem adP:type_of%@_H.E17:=@_H.E17
@[simp]theorem aft:type_of%@_H.E18:=@_H.E18
@[simp]theorem acG:type_of%@_H.Zo:=@_H.Zo
@[simp]theorem adA:type_of%@_H.E19:=@_H.E19
@[simp]theorem aee:type_of%@_H.E20:=@_H.E20
@[simp]theorem aer:type_of%@_H.E21:=@_H.E21
@[simp]theorem afC:type_of%@_H.E22:=@_H.E22
@[simp]theorem ae7:type_of%@_H.E23:=@_H.E23
@[simp]theorem ag8:type_of%@_H.X1:=@_H.X1
@[simp]theorem agV:type_of%@_H.X2:=@_H.X2
@[simp]theorem ag3:type_of%@_H.X3:=@_H.X3
@[simp]theorem agM:type_of%@_H.X4:=@_H.X4
@[simp]theorem agC:type_of%@_H.X5:=@_H.X5
@[simp]theorem ag4:type_of%@_H.X6:=@_H.X6
@[simp]theorem agw:type_of%@_H.X7:=@_H.X7
@[simp]theorem ag5:type_of%@_H.X8:=@_H.X8
@[simp]theorem agH:type_of%@_H.X9:=@_H.X9
@[simp]theorem adn:type_of%@_H.X10:=@_H.X10
@[simp]theorem adV:type_of%@_H.X11:=@_H.X11
@[simp]theorem afk:type_of%@_H.X12:=@_H.X12
@[simp]theorem afd:type_of%@_H.X13:=@_H.X13
@[simp]theorem afz:type_of%@_H.X14:=@_H.X14
@[simp]theorem ad0:type_of%@_H.iB.eq_1:=@_H.iB.eq_1
@[simp]theorem adN:type_of%@_H.evs.eq_1:=@_H.evs.eq_1
@[simp]theorem aeD:type_of%@_H.evs.eq_2:=@_H.evs.eq_2
@[simp]theorem afg:type_of%@_H.zE.eq_1:=@_H.zE.eq_1
@[simp]theorem aea:type_of%@_H.zE.eq_2:=@_H.zE.eq_2
@[simp]theorem adf:type_of%@_H.wO.eq_1:=@_H.wO.eq_1
@[simp]theorem aey:type_of%@_H.wO.eq_2:=@_H.wO.eq_2
@[simp]theorem aeL:type_of%@_H.oX.eq_1:=@_H.oX.eq_1
@[simp]theorem Yv:type_of%@_H.bW.eq_1:=@_H.bW.eq_1
@[simp]theorem YQ:type_of%@_H.bW.eq_2:=@_H.bW.eq_2
@[simp]theorem aaR:type_of%@_H.bW.eq_3:=@_H.bW.eq_3
@[simp]theorem Yx:type_of%@_H.bW.eq_4:=@_H.bW.eq_4
@[simp]theorem Za:type_of%@_H.fC.eq_1:=@_H.fC.eq_1
@[simp]theorem ZZ:type_of%@_H.fC.eq_2:=@_H.fC.eq_2
@[simp]theorem Yw:type_of%@_H.aU.eq_1:=@_H.aU.eq_1
@[simp]theorem aaF:type_of%@_H.aU.eq_2:=@_H.aU.eq_2
@[simp]theorem ZL:type_of%@_H.aU.eq_3:=@_H.aU.eq_3
@[simp]theorem Zx:type_of%@_H.aU.eq_4:=@_H.aU.eq_4
end _H
namespace _H
open PySem _L Spec PyProof.Rows
section
variable{X:Cx}{c:Call}{a b:Expr}{pa pb:P}{pos:Pos}
theorem tE:∀{e:List D}{ns:List Int},e.mapM jc=some ns->e=ns.map D.int|[],ns,h=>by simp at h;subst h;rfl|d::e,ns,h=>by simp[List.mapM_cons,bind_eq_some_iff]at h;obtain⟨i,f,j,g,rfl⟩:=h;rw[dU f,tE g];rfl
theorem lg{K:PySem.W.Frag}{F:Hp}:∀{ns:List Int}{ys:List V},aH K F ys (ns.map D.int)->ys=ns.map V.int|[],ys,h=>by rw[h.gW];rfl|n::ns,ys,h=>by obtain⟨v,r,rfl,h1,t⟩:=h.cW;rw[Rep]at h1;rw[h1,lg t];rfl
theorem wF{ns:List Int}{f:List Value}(h:Vals (ns.map V.int) f){i:Nat}{v:Value}(e:f.toArray[i]?=some v):∃t,v=.int (ns.getD i 0) t:=by
 have e:f[i]?=some v:=by simpa using e
 have hi:i<f.length:=(eV e).1;have k:=h.length;rw[length_map]at k;have g:(ns.map V.int)[i]?=some (.int (ns.getD i 0)):=by rw[getElem?_map,List.getElem?_eq_getElem (by omega)];simp[List.getD,show i<ns.length by omega]
 obtain⟨w,j,l⟩:=h.get g;rw[e]at j;cases j;exact l
theorem walked{h:List (Addr×Obj)}{σ:_L.St}{H:Hp}{s:Shared}{p:Addr}{ys:List V}(I:_L.Inv X h σ H s)(hc:X.calm=true)(hq:fM X.K H p ys\/jw X.K H p ys){Q:Value->Shared->Prop}{E:Value->Shared->Prop}(k:∀(it:Addr)(g:List Value)(e:Shared)(St:Nat->Heap->Prop),Vals ys g->Walks X.prog X.w X.A.in1 it [it,p] [it] g.toArray.size (λi v=>g.toArray[i]?=some v) St->St 0 e.heap->(∀ b ∈[it,p],b<e.heap.objs.size)->(∀h' m,(∀b o,b∉[it]->e.heap.get? b=some o->h'.get? b=some o)->_L.Inv X h σ H {e with heap:=h',toks:=m})->Q (.ref it) e):wpAny (model X.prog X.w) X.A.in1 (pyIter (.ref p)) Q E s:=by
 have r:X.A.in1.handled=none:=I.ok.hd hc;rcases hq with hq|hq
 . obtain⟨g,n,f,hz⟩:=I.list hq;have f:=f.isList;have j:p<s.heap.objs.size:=by obtain⟨o,h1,_⟩:=f;exact lt_size h1
   refine wpAny_pyIter_list f (k s.heap.objs.size g _ _ n (Walks.list r s.heap.objs.size p (ne_of_lt j) g.toArray) ⟨⟨_,get?_push_size _ rfl,rfl,rfl⟩,?_⟩ ?_ λh' m kp=>?_);.obtain⟨o,h1,q⟩:=f;exact⟨o,gY h1,q⟩
   . intro b l;obtain⟨o,h1,_⟩:=f;simp at l;rcases l with rfl|rfl;.exact lt_size (get?_push_size _ rfl)
     .exact lt_size (gY h1)
   .exact I.kept (λb o z=>kp b o (by simp;exact ne_of_lt (lt_size z)) (gY z))
 . obtain⟨g,n,f,hz⟩:=I.tuple hq;have j:p<s.heap.objs.size:=by obtain⟨o,h1,_⟩:=f;exact lt_size h1
   refine wpAny_pyIter_tuple f (k s.heap.objs.size g _ _ n (Walks.tuple r s.heap.objs.size p (ne_of_lt j) g.toArray) ⟨⟨_,get?_push_size _ rfl,rfl,rfl⟩,?_⟩ ?_ λh' m kp=>?_);.obtain⟨o,h1,q⟩:=f;exact⟨o,gY h1,q⟩
   . intro b l;obtain⟨o,h1,_⟩:=f;simp at l;rcases l with rfl|rfl;.exact lt_size (get?_push_size _ rfl)
     .exact lt_size (gY h1)
   .exact I.kept (λb o z=>kp b o (by simp;exact ne_of_lt (lt_size z)) (gY z))
theorem p8(ns:List Int):∀k,k<=ns.length->preSum (λi=>ns.getD i 0) k=(ns.take k).sum|0,_=>by simp[preSum]|k+1,h=>by rw[preSum,p8 ns k (by omega),List.take_succ,List.sum_append];simp[List.getD,show k<ns.length by omega]
theorem Z9(hc:X.calm=true):du X (.builtin "sum") (Ox X.K λx=>blt .sum [x]):=by
 rintro g s σ H xs h Q I r⟨x,o,F,d,q,sm,t,he,k⟩;obtain⟨ns,w,he⟩:=map_some (show((items d).bind λj=>j.mapM jc).map _=some q from he);subst he;obtain⟨j,y,z⟩:=cU w;obtain⟨p,ys,rfl,A,l⟩:=t.items sm y;rw[tE z]at l;have B:=lg l;subst o;obtain⟨u,rfl,C⟩:=r.one;cases C;refine call_sum_walkG (walked I hc A λit h m St n W h0 E kp=>?_);subst B;have f:h.toArray.size=ns.length:=by rw[size_toArray,<-n.length,length_map]
 refine⟨it,_,_,_,_,St,λi=>ns.getD i 0,rfl,W,h0,E,λi v e=>wF n e,λh' G t' kk=>?_⟩;rw[f,p8 ns _ (eG),List.take_length];exact⟨.int _,H,kp h' G kk,⟨t',rfl⟩,cG.dB sm (bY _) k⟩
theorem Ju{ns:List Int}{m:Int}(k:ns.min?=some m):ns.getD (argBest (λi j=>decide (ns.getD i 0<ns.getD j 0)) (ns.length-1)) 0=m:=by
 have h:ns≠[]:=by rintro rfl;simp at k
 have r:0<ns.length:=List.length_pos_iff.mpr h;obtain⟨h1,n⟩:=argBest_lt (λi=>ns.getD i 0) (ns.length-1);have l:=List.min?_eq_some_iff.mp k;generalize argBest (λi j=>decide (ns.getD i 0<ns.getD j 0)) (ns.length-1)=j at*;have o:j<ns.length:=by omega
 have f:ns.getD j 0∈ns:=by simp[List.getD,o]
 obtain⟨q,p,e⟩:=List.getElem_of_mem l.1;have g:=n q (by omega);simp only[List.getD,List.getElem?_eq_getElem p,Option.getD_some]at g;rw[e]at g;have s:=l.2 _ f;have g:ns.getD j 0<=m:=g;omega
theorem Sg(hc:X.calm=true):du X (.builtin "min") (Ox X.K λx=>blt .Gx [x]):=by
 rintro j s σ H xs l Q I r⟨x,z,F,d,A,sm,B,he,k⟩;obtain⟨ns,C,he⟩:=cU (show((items d).bind λn=>n.mapM jc).bind _=some A from he);obtain⟨m,o,he⟩:=map_some he;subst he;obtain⟨n,E,G⟩:=cU C;obtain⟨p,ys,rfl,J,q⟩:=B.items sm E;rw[tE G]at q;have L:=lg q;subst z;obtain⟨u,rfl,M⟩:=r.one;cases M;refine call_min_walk (walked I hc J λit l w St h W h0 N kp=>?_);subst L;have f:l.toArray.size=ns.length:=by rw[size_toArray,<-h.length,length_map]
 have g:0<ns.length:=by cases ns with|nil=>simp at o|cons _ _=>simp
 refine⟨it,_,_,_,_,St,_,rfl,W,h0,N,by rw[f];exact g,CmpOf.ints_lt (λi=>ns.getD i 0) (λi v e=>wF h e),λv h' O y kk=>?_⟩;rw[f]at y;obtain⟨t,rfl⟩:=wF h y;rw[Ju o];exact⟨.int _,H,kp h' O kk,⟨t,rfl⟩,cG.dB sm (bY _) k⟩
theorem boot_sum:bootBuiltins "sum"=some (.builtin "sum"):=by decide+kernel
theorem Kw{x:Str}{p':Pos}(e:x="sum")(hc:X.calm=true)(f:Gl X x)(g:X.mg x=none)(i:SX X c a pa)(hs:starEach [a] X.env=(false,eval a X.env)::starEach [] X.env:=by rfl):SX X c (.Call (.Name x p') [a] [] pos) (.blt .sum [pa]):=by subst e;exact p6 (λh=>cX (Z9 hc) f g boot_sum h (he:=hs)) i (λρ=>rfl) rfl hs
theorem Cd{x:Str}{p':Pos}(e:x="min")(hc:X.calm=true)(f:Gl X x)(g:X.mg x=none)(i:SX X c a pa)(hs:starEach [a] X.env=(false,eval a X.env)::starEach [] X.env:=by rfl):SX X c (.Call (.Name x p') [a] [] pos) (.blt .Gx [pa]):=by subst e;exact p6 (λh=>cX (Sg hc) f g boot_min h (he:=hs)) i (λρ=>rfl) rfl hs
end
end _H
namespace _H
open PySem
section
variable{i j:Int}{ds es:List D}{d:D}{b b':Bool}
@[simp]theorem aby:uG .shl=Kr:=rfl
@[simp]theorem acb:uG .shr=Ik:=rfl
@[simp]theorem Y6:uG .band=zZ:=rfl
@[simp]theorem Xw:Kr (.int i) (.int j)=if 0<=j/\j<=1000/\i.natAbs<18446744073709551616 then some (.val (.int (i*2^j.toNat)))else none:=rfl
@[simp]theorem XD:Ik (.int i) (.int j)=if 0<=j then some (.val (.int (i/2^j.toNat)))else none:=rfl
@[simp]theorem Ux:zZ (.int i) (.int j)=some (.val (.int (Builtin.bitAnd i j))):=rfl
@[simp]theorem W4:nG (.lst ds) (.int i)=if 0<=i/\0<ds.length/\ds.length*i.toNat<=lim then some (.own (replicate i.toNat ds).flatten)else none:=rfl
@[simp]theorem XJ:nG (.tup ds) (.int i)=if 0<=i/\0<ds.length/\ds.length*i.toNat<=lim then some (.val (.tup (replicate i.toNat ds).flatten))else none:=rfl
@[simp]theorem ae6:cm .isT (.bl b) (.bl true)=some b:=rfl
@[simp]theorem acJ:cm .aaZ (.bl b) (.bl true)=some (!b):=rfl
@[simp]theorem abK:blt .sum [.lst ds]=(ds.mapM jc).map λns=>.val (.int ns.sum):=rfl
@[simp]theorem YK:blt .Gx [.lst ds]=(ds.mapM jc).bind λns=>ns.min?.map λi=>.val (.int i):=rfl
end
@[simp]theorem aex:type_of%@_H.X16:=@_H.X16
@[simp]theorem afA:type_of%@_H.X17:=@_H.X17
theorem km{ns:List Int}:(ns.map D.int).mapM jc=some ns:=by induction ns with|nil=>rfl|cons n ns a=>simp[a]
@[simp]theorem WL{ns:List Int}:ns.mapM (jc ∘ D.int)=some ns:=by rw[<-km (ns:=ns),List.mapM_map]
@[simp]theorem Y9{bs:List Bool}:bs.mapM (Cj ∘ D.bl)=some bs:=by induction bs with|nil=>rfl|cons b bs a=>simp[a]
theorem abo{S:List Int}{i:Int}:((S.map D.int).any λy=>mq y (.int i))=S.contains i:=by induction S with|nil=>rfl|cons s S a=>rw[map_cons,any_cons,List.contains_cons,a,pqi];rw[show(s==i)=(i==s)from Bool.eq_iff_iff.mpr ⟨λh=>by simp at h ⊢;exact h.symm,λh=>by simp at h ⊢;exact h.symm⟩]
theorem aaK{S:List Int}:(S.map D.int).all flat=true:=by rw[all_eq_true];intro d hd;obtain⟨i,_,rfl⟩:=mem_map.mp hd;rfl
theorem qY{n:Nat}{S:List Int}:jR (n+1) (.lst (S.map D.int))=true:=by rw[bD,all_eq_true];intro d hd;obtain⟨i,_,rfl⟩:=mem_map.mp hd;cases n<;>rfl
theorem rY:∀{S T:List Int},mz (S.map D.int) (T.map D.int)=(S==T)|[],[]=>by simp[lu,iR,oY,pP]|[],_::_=>by simp[lu,iR,oY,pP]|_::_,[]=>by simp[lu,iR,oY,pP]|s::S,t::T=>by rw[map_cons,map_cons,iR,rY,pqi];rfl
theorem MN{S T:List Int}:cm .eq (.lst (S.map D.int)) (.lst (T.map D.int))=some (S==T):=by show zX _ _=_;unfold zX;rw[qY,qY,pql,rY];rfl
theorem abB{S T:List Int}:cm .ne (.lst (S.map D.int)) (.lst (T.map D.int))=some (!(S==T)):=by show Jx _ _=_;unfold Jx;rw[qY,qY,pql,rY];rfl
theorem PL{S:List Int}:cm .eq (.lst (S.map D.int)) (.lst [])=some S.isEmpty:=by rw[show(.lst []:D)=.lst (([]:List Int).map D.int)from rfl,MN];cases S<;>rfl
theorem fB{a:Type}{l:List a}{f:a->D}{k:Nat}{x:a}(h:l[k]?=some x):at' (l.map f) (k:Int)=some (f x):=by have b:=(eV h).1;rw[HF (by simpa using b),getElem?_map,h];rfl
theorem V8{n k:Nat}(h:k<n):j9 n (k:Int)=some k:=by unfold j9;rw[if_pos (by omega),if_pos (by omega)];simp
theorem jl{is:List Nat}{one:Bool}{body:List Sl->Res Fl}{g:Nat->D}{N:Nat}(J:Nat->List Sl->Prop){Q:Fl->List Sl->Prop}(c:∀i ρ,i<N->J i ρ->∃a,cI ρ is one (g i)=some a/\(body a).sat (fQ (J (i+1)) Q))(f:∀ρ,J N ρ->Q .next ρ){ρ:List Sl}(h0:J 0 ρ):(jB is one body ((List.range N).map g) ρ).sat Q:=by
 refine cA (λr ρ=>∃i,i<=N/\r=((List.range N).map g).drop i/\J i ρ) ?_ ?_ ⟨0,wB,rfl,h0⟩
 . rintro d r ρ⟨i,hi,e,j⟩;have b:i<N:=by
    rcases Nat.lt_or_ge i N with h|h;.exact h
    .rw[List.drop_eq_nil_of_le (by simpa using h)]at e;cases e
   rw[drop_eq_getElem_cons (by simpa using b)]at e;injection e with e1 e2;simp at e1;subst e1;obtain⟨a,h1,k⟩:=c i ρ b j;refine⟨a,h1,k.imp λfl l q=>?_⟩;cases fl with|next=>exact⟨i+1,b,e2,q⟩|cont=>exact⟨i+1,b,e2,q⟩|brk=>exact q|ret v=>exact q
 . rintro ρ⟨i,hi,e,j⟩;have:i=N:=by have m:=congrArg List.length e;simp at m;omega
   subst this;exact f ρ j
inductive A3(a b c:Prop):Prop where|mk(ha:a)(hb:b)(hc:c)
inductive A4(a b c d:Prop):Prop where|mk(ha:a)(hb:b)(hc:c)(hd:d)
inductive A5(a b c d e:Prop):Prop where|mk(ha:a)(hb:b)(hc:c)(hd:d)(he:e)
inductive A6(a b c d e f:Prop):Prop where|mk(ha:a)(hb:b)(hc:c)(hd:d)(he:e)(hf:f)
inductive A7(a b c d e f g:Prop):Prop where|mk(ha:a)(hb:b)(hc:c)(hd:d)(he:e)(hf:f)(hg:g)
inductive A8(a b c d e f g h:Prop):Prop where|mk(ha:a)(hb:b)(hc:c)(hd:d)(he:e)(hf:f)(hg:g)(hh:h)
inductive A9(a b c d e f g h i:Prop):Prop where|mk(ha:a)(hb:b)(hc:c)(hd:d)(he:e)(hf:f)(hg:g)(hh:h)(hi:i)
end _H
namespace _H
open PySem _L Spec PyProof.Rows
section
variable{X:Cx}{c:Call}{n:Nat}{e a b d tg:Expr}{p pa pb pd:P}{pos:Pos}
theorem Js{g:TG}{is:List Nat}(he:SX X c e p)(q:PG X tg g)(i:Ji X.K (λρ d=>cI ρ is false d) g)(hs:swapsWithSole [tg] e pos.line X.env=pure false:=by rfl)(s:swappedStores [tg] e X.env=pure none:=by rfl)(h1:(assignEach [tg] X.env).map (·.2)=[assign tg X.env]:=by rfl):SS X c n (.Assign [tg] e pos) (.unp is p):=by
 refine cz (Hd he.ev q hs s h1) ?_;rintro D σ H⟨F,ρ,fl,t,u,e,k⟩;rw[_H.X8]at e;obtain⟨r,f,w,e⟩:=aj e;refine⟨F,ρ,r,f,u,w,λv F1 j s1 x=>?_⟩;obtain⟨l,s2,_,m⟩:=s1.dz x;split at e;.rename_i o hd;obtain⟨y,z,h,e⟩:=aj e;cases e;have A:=aD h;clear h;obtain⟨h,B⟩:=A;rw[hd]at m;exact i v (.tup o) l f _ σ j _ s2.gs m (by show cI f is false (.tup o)=_;cases is<;>exact h) λσ' s3=>k l σ' j (s2.trans s3)
 .cases e
end
end _H
namespace _U
open PySem Spec PyProof.Rows
section
variable{prog:Program}{w:World}{A:Around}{E:Value->Shared->Prop}{s:Shared}
theorem yE{t sl:Addr}{a:Array Value}{f g:Value}{lo hi:Option Int}{Q:Value->Shared->Prop}(ht:IsTup s.heap t a)(hs:s.heap.IsSliceOf sl f g .none)(i:IsPart f lo)(j:IsPart g hi)(h1:dH a.size 0 lo=0)(k:dH a.size a.size hi=a.size)(h:Q (.ref t) s):wpAny (model prog w) A (getItem (.ref t) (.ref sl)) Q E s:=by
 obtain⟨os,b,c,l⟩:=id hs;have m:s.TypeIs (.ref sl) "slice":=⟨os,b,c⟩;unfold getItem;try with_reducible refine wpAny_holding ?_
 first|refine wpAny_bind (wpAny_pure ?_)|skip
 refine wpAny_bind (wpAny_sequenceKey ht.typeIs (by decide) (wpAny_bind (wpAny_callSpecial?_slot (name:=Str.ofString "__getitem__") ht.typeIs slot_tuple_getitem (wpAny_call_entry slot_tuple_getitem ht.typeIs entry_tuple_getitem ?_ (args_tuple_getitem _ _)))));show wpAny _ _ (tupleItemsOf (.ref t)>>=_) _ _ s;refine wpAny_bind (tupleItemsOf_ ht (wpAny_bind (wpAny_typeOf m ?_)));rw[if_pos (by decide)];refine wpAny_bind (jq hs i j ?_);have e:((((dH a.size 0 lo:Nat):Int)==0&&(1:Int)==1&&(dH a.size a.size hi-dH a.size 0 lo)==a.size)=true):=by rw[h1,k];simp
 show wpAny _ _ (if(((dH a.size 0 lo:Nat):Int)==0&&(1:Int)==1&&(dH a.size a.size hi-dH a.size 0 lo)==a.size)=true then _ else _) _ _ s;rw[if_pos e];unfold Builtin.Tuple.tupleIsExact;refine wpAny_bind (wpAny_bind (wpAny_typeOf ht.typeIs (wpAny_pure ?_)));rw[if_pos (by decide)];exact wpAny_bind (wpAny_rule (wpAny_pure ⟨_,rfl,wpAny_pure h⟩))
end
end _U
namespace _H
open PySem _L Spec PyProof.Rows
noncomputable def nst:Expr->Bool|.Starred _ _=>false|_=>true
theorem aR{e:Expr}{es:List Expr}{env:Env}(h:nst e=true):starEach (e::es) env=(false,eval e env)::starEach es env:=by cases e with|Starred a b=>cases h|_=>rw[starEach];(intro e p z;cases z)
noncomputable def su:List Int->List Expr->Option (List Expr)|[],es=>some es|i::is,.Constant (.int j) _ _::es=>if i=j then su is es else none|_,_=>none
theorem Dl{X:_L.Cx}{c:Call}:∀(is:List Int){es a:List Expr}{b:List P},su is es=some a->SA X c a b->SA X c es (is.map (λi=>P.con (.int i))++b)|[],es,a,b,h,r=>by cases h;exact r|i::is,[],a,b,h,r=>by cases h|i::is,e::es,a,b,h,r=>by cases e with
   |Constant v k p=>cases v with
     |int j=>
       replace h:(if i=j then su is es else none)=some a:=h;split at h;.rename_i f;subst f;exact Cu aa (Dl is h r) (aR rfl)
       .cases h|_=>cases h
   |_=>cases h
theorem wA{n d:Nat}{o:Option Int}:_U.dH n d o=_H.dH n d o:=by cases o with|none=>rfl|some v=>
   show(if v<0 then(v+(n:Int)).toNat else min v.toNat n)=(if 0<=v then min v.toNat n else(v+n).toNat);by_cases h:0<=v;.rw[if_pos h,if_neg (by omega)]
   .rw[if_neg h,if_pos (by omega)]
theorem Jd{xs:List V}{lo hi:Option Int}:xZ xs lo hi=_H.cut xs lo hi:=by unfold xZ _H.cut;rw[wA,wA]
theorem aH.cut{K:PySem.W.Frag}{F:Hp}{a:List D}{vs:List V}{lo hi:Option Int}(h:aH K F vs a):aH K F (_H.cut vs lo hi) (_H.cut a lo hi):=by unfold _H.cut;rw[h.length];exact(h.drop _).take _
section
variable{X:Cx}{c:Call}{n:Nat}{e a b:Expr}{p pa pb pl ph:P}{pos p2:Pos}{lo hi:Option Expr}
noncomputable def afe(K:PySem.W.Frag):V->Option Int->Option Int->Hp->VK->Prop:=λx lo hi H Q=>∃F d r,aJ F H/\dI K F H x d/\PB d (some lo) (some hi)=some r/\∀v F' H',Ext F H F' H'->cG K F' H' H v r->Q v H'
theorem aaI:SlR X (afe X.K):=by
 rintro f s σ H x v u w lo hi sl Q I l hs pl m⟨F,d,r,sm,y,he,k⟩;cases d with|lst o=>cases he;obtain⟨a,xs,rfl,j,h⟩:=y.lst sm;refine Nz f s σ H _ v u w lo hi sl Q I l hs pl m ⟨a,xs,rfl,j,λp q=>?_⟩;rw[Jd];exact zN sm h.cut q k|tup o=>
   cases he;obtain⟨a,xs,rfl,j,h,rt⟩:=y.tup sm;by_cases i:_U.dH xs.length 0 lo=0/\_U.dH xs.length xs.length hi=xs.length
   . cases l;obtain⟨t,z,ht,hz⟩:=I.tuple j;have g:t.toArray.size=xs.length:=by rw[size_toArray];exact z.length.symm
     refine⟨"tuple",_,slot_tuple_getitem.lookup,ht.typeIs,_U.yE ht hs pl m (by rw[g];exact i.1) (by rw[g];exact i.2) ⟨.ref a,H,I,rfl,?_⟩⟩;have hc:_H.cut o lo hi=o:=by unfold _H.cut;rw[<-h.length,<-wA,<-wA,i.1,i.2];simp[h.length]
     rw[hc]at k;exact cG.dB sm rt k
   .refine TF f s σ H _ v u w lo hi sl Q I l hs pl m ⟨a,xs,rfl,j,i,λp q=>?_⟩;rw[Jd];exact zL sm h.cut q k|_=>cases he
noncomputable def SO(X:Cx)(c:Call)(o:Option Expr)(p:P):Prop:=∃t,PO X o t/\∀{σ:_L.St}{H F:Hp}{ρ f:List Sl}{d:D}{i:Option Int}{Q:Option Int->Hp->Prop},GS X.K F ρ σ H->cL (isVar p) (_H.ev c p) ρ=.ok d f->part p d=some i->(∀F' H',aC X.K F ρ σ H F' f σ H'->Q i H')->t σ H Q
theorem lL:SO X c none (.con .non):=by refine⟨_,Oh,λ{σ H F ρ f d i Q}g e h k=>?_⟩;cases(show some none=some i from h);have j:(_H.ev c (.con .non) ρ).bind (λr ρ=>.ok r.d ρ)=.ok d f:=e;clear e;rw[_H.E2]at j;cases j;exact k F H (.refl g)
theorem lR(h:SX X c e p)(l:Wo p=false:=by rfl):SO X c (some e) p:=by obtain⟨t,h1,m⟩:=h.cL;refine⟨_,Qj h1,λ{σ H F ρ o d i Q}g e f k=>?_⟩;unfold part at f;rw[l,if_neg (by decide)]at f;obtain⟨j,q,r⟩:=map_some f;cases dU q;subst r;exact m g e λv F' H' s u=>⟨j,u.int,k F' H' s⟩
theorem za{d:D}{x y:Option (Option Int)}{r:R}(h:PB d x y=some r):∃lo hi,x=some lo/\y=some hi:=by cases x with|none=>cases d<;>cases h|some lo=>cases y with|none=>cases d<;>cases h|some hi=>exact⟨lo,hi,rfl,rfl⟩
theorem jo(ha:SX X c a pa)(hl:SO X c lo pl)(hh:SO X c hi ph):SX X c (.Subscript a (.Slice lo hi none p2) pos) (.slice pa pl ph):=by obtain⟨tl,l1,l2⟩:=hl;obtain⟨th,h1,h2⟩:=hh;cases hv:isVar pa with|none=>refine⟨cP (ye aaI ha.ev l1 h1) ?_,λi h=>by cases h⟩;rintro σ H Q⟨F,ρ,r,B,g,e,k⟩;rw[_H.E15,hv]at e;obtain⟨x,C,f,j⟩:=aj e;clear e;have l:(_H.ev c pa ρ).bind (λr ρ=>.ok r.d ρ)=.ok x C:=f;clear f;obtain⟨rx,ac,e1,E⟩:=aj l;clear l;cases E;obtain⟨y,G,I,m⟩:=aj j;clear j;obtain⟨z,J,L,o⟩:=aj m;clear m;obtain⟨e,M⟩:=aD o;clear o;subst M;obtain⟨N,O,q,s⟩:=za e;rw[q,s]at e;refine⟨F,ρ,rx,_,g,e1,λv F1 H1 s1 rr=>?_⟩;obtain⟨F2,s2,_,rp⟩:=s1.dz rr;refine l2 s2.gs I q λF3 H3 s3=>h2 s3.gs L s λU H4 s4=>?_;have s5:=s2.trans (s3.trans s4);refine⟨U,_,r,s4.gs.sub,.inl ((rp.mono s3.cF).mono s4.cF),e,λv W Y x Z=>?_⟩;exact k v W Y (s5.trans (x.stp s5.gs)) (.later s5 (Z.o9 s5.gs))|some i=>refine⟨cP (ye aaI (ha.var i hv) l1 h1) ?_,λi h=>by cases h⟩;rintro σ H Q⟨F,ρ,r,B,g,e,k⟩;rw[_H.E15,hv]at e;obtain⟨x0,ae,t,j⟩:=aj e;clear e;obtain⟨E,GD⟩:=aD t;clear t;subst GD;obtain⟨y,G,I,m⟩:=aj j;clear j;obtain⟨z,J,L,o⟩:=aj m;clear m;obtain⟨x,af,u,ed⟩:=aj o;clear o;obtain⟨e5,e6⟩:=aD u;clear u;subst e6;obtain⟨e,M⟩:=aD ed;clear ed;subst M;obtain⟨N,O,q,s⟩:=za e;rw[q,s]at e;obtain⟨v,w,_⟩:=g.pk E;refine⟨v,w,l2 g I q λF3 H3 s3=>h2 s3.gs L s λU H4 s4=>?_⟩;have s5:=s3.trans s4;obtain⟨v',A,pv⟩:=s5.gs.pk e5;rw[w]at A;cases A;refine⟨U,_,r,s4.gs.sub,pv,e,λv W Y x Z=>?_⟩;exact k v W Y (s5.trans (x.stp s5.gs)) (.later s5 (Z.o9 s5.gs))
theorem Zi:du X (.builtin "abs") (Ox X.K λx=>blt .abs [x]):=by rintro f s σ H xs g Q I r⟨x,h,F,d,j,sm,l,he,k⟩;cases d with|int i=>cases(show some _=some j from he);exact JR f s σ H xs g Q I r ⟨i,by rw[h,l.int],cG.dB sm (bY _) k⟩|_=>cases he
theorem boot_abs:bootBuiltins "abs"=some (.builtin "abs"):=by decide+kernel
theorem Hm{x:Str}{p':Pos}(f:x="abs")(g:Gl X x)(i:X.mg x=none)(j:SX X c a pa)(hs:starEach [a] X.env=(false,eval a X.env)::starEach [] X.env:=by rfl):SX X c (.Call (.Name x p') [a] [] pos) (.blt .abs [pa]):=by subst f;exact p6 (λh=>cX Zi g i boot_abs h (he:=hs)) j (λρ=>rfl) rfl hs
theorem O7:PIp X .Add (ipI λi j=>if false then i-j else i+j):=T4
theorem U4{x:Str}{k:Nat}{j f cpos:Pos}(C:X.N[k]?=some x)(E:vC X.env.scope x)(he:SX X c e p)(h:(f.endLine==cpos.line)=true:=by rfl)(hs:starEach [e] X.env=(false,eval e X.env)::starEach [] X.env:=by rfl)(i:attributeBase (.Name x j) "extend" X.env (eval (.Name x j) X.env)=eval (.Name x j) X.env:=by rfl)(l:((backTo cpos (starEach [e] X.env)).all (λx=>!x.1)&&(backToKw cpos (keywordEach [] X.env)).all (λx=>x.1.isSome)&&decide ([e].length+([]:List Keyword).length+(if([]:List Keyword).isEmpty then 0 else 1)<30))=true:=by rfl)(s:swapsWith (.Call (.Attribute (.Name x j) "extend" f) [e] [] cpos) none pos.line X.env=pure false:=by rfl)(hd:(x==("__debug__":Str))=false:=by decide)(t:(x==("__classdict__":Str))=false:=by decide):SS X c n (.Expr (.Call (.Attribute (.Name x j) "extend" f) [e] [] cpos) pos) (.Lh k p):=by
 refine cz (nZ (Kg plainAttrs_list PySem.F.slot_list_extend PySem.F.type_list_extend Gb (dO C E hd t) (bz he.ev cZ hs) i l h hs) s) ?_;rintro D σ H⟨F,ρ,fl,G,g,e,kk⟩;rw[_H.X17]at e;obtain⟨d0,I,m,y⟩:=aj e;clear e;obtain⟨J,L⟩:=aD m;clear m;subst L;obtain⟨r,u,M,o⟩:=aj y;clear y;obtain⟨a,xs,h1,O⟩:=wg g J;refine⟨.ref a,h1,.inl ⟨rfl,xs,O⟩,F,ρ,r,u,g,M,λv F1 H1 s1 Q=>?_⟩;split at o
 . rename_i bb U es q;split at o;.rename_i w;cases o;obtain⟨b1,ys,rfl,W,w3,z,w5,w6⟩:=Q;obtain⟨ad,Y,A,Z,q3,B⟩:=s1.gs.uw k _ U q rfl;rw[h1]at A;cases A;exact⟨_,b1,Y,ys,rfl,rfl,Z,W,by rw[B.length,z.length];exact w,kk F1 σ _ (s1.trans (s1.gs.mut q h1 (B.append z)))⟩
   .cases o
 .cases o
end
end _H
namespace _L
open PySem Spec PyProof.Rows
section
variable{X:Cx}{tg:Expr}
theorem yl:bootBuiltins "tuple"=some (.type "tuple"):=by decide+kernel
theorem sH:bootBuiltins "reversed"=some (.type "reversed"):=by decide+kernel
end
end _L
namespace _H
open PySem _L Spec PyProof.Rows
section
variable{K:PySem.W.Frag}{F F1 H H1:Hp}{ρ ρ1:List Sl}{σ:_L.St}{ds:List D}{a:Addr}
theorem aH.rev:∀{ds:List D}{xs:List V},aH K F xs ds->aH K F xs.reverse ds.reverse|[],_,h=>by rw[h.gW];exact .nil|d::ds,_,h=>by obtain⟨v,r,rfl,h1,b⟩:=h.cW;rw[reverse_cons,reverse_cons];exact(aH.rev b).append (.cons h1 .nil)
end
section
variable{X:Cx}{c:Call}{a b d:Expr}{pa pb pd:P}{pos:Pos}
theorem tZ{o p:Cm}{op j:CmpOp}(ho:gq X (compareOp op) (rD X.K (oX o)))(y:gq X (compareOp j) (rD X.K (oX p)))(C:SX X c a pa)(E:SX X c b pb)(hd:SX X c d pd)(G:lastMarks [op,j] [b,d]=false:=by with_unfolding_all rfl):ST X c (.Compare a [op,j] [b,d] pos) (.chain o p pa pb pd):=by
 obtain⟨I,J,h1,L,M⟩:=C.jm E;obtain⟨N,O,U⟩:=hd.cL;refine uR (Jc ho y h1 L O G) λσ H Q q=>m5 (t:=zO (rD X.K (oX o)) (rD X.K (oX p)) I J N) (λQ z=>?_) q;obtain⟨F,ρ,r,W,g,e,k⟩:=z;rw[_H.E10]at e;obtain⟨l,Y,Z,e⟩:=aj e;obtain⟨t,ac,i,e⟩:=aj e;have zz:=aD i;clear i;obtain⟨i,A⟩:=zz;subst A;have f:flat l.2=true/\cm o l.1 l.2=some t:=by
  split at i;.rename_i hf;exact⟨hf,i⟩
  .cases i
 obtain⟨f,i⟩:=f;refine M g Z λv u F' H' s pv n=>⟨F',l.1,l.2,.val (.bl t),s.gs.sub,pv,n,by unfold oX;rw[i];rfl,λw B H2 x m=>?_⟩;have s2:=s.trans (x.stp s.gs);have m:Rep X.K B w (.bl t):=m;rw[Rep]at m;subst m;refine⟨t,rfl,?_⟩;cases t with|false=>rw[if_neg Bool.false_ne_true]at e ⊢;cases e;exact k _ B H2 s2 (show Rep X.K B _ _ from fO _)|true=>
   rw[if_pos rfl]at e ⊢;obtain⟨z,ae,A,e⟩:=aj e;obtain⟨e4,e5⟩:=aD e;subst e5;refine U s2.gs A λw F3 H3 s3 pw=>⟨F3,l.2,z,r,s3.gs.sub,?_,pw,e4,λw' F4 H4 x4 m=>?_⟩
   . have x1:=x.fs;have x2:=s3.cF;rcases n with n|⟨_,_,_,_,_,_,h⟩;.exact .inl ((n.mono x1).mono x2)
     .rw[h]at f;cases f
   .have s4:=s2.trans s3;exact k w' F4 H4 (s4.trans (x4.stp s4.gs)) (.later s4 (m.o9 s4.gs))
end
end _H
namespace _L
open PySem Spec PyProof.Rows
variable{ch:List Addr}{h h' base:Heap}{e C:Addr}{tb:Value}{outer:List Env}{w:World}{H:Hp}
noncomputable def mC(h:Heap)(e C:Addr)(tb:Value):Prop:=∃(o:Obj)(vs:Array Value),h.get? e=some o/\o.cls=.ref C/\o.data=.fields vs/\vs[1]?=some tb/\o.dict=none
theorem El{f:Array Value->Array Value}{o:Obj}:(Obj.mapFields f o).dict=o.dict:=by unfold Obj.mapFields;split<;>rfl
noncomputable def LQ(h:Heap)(T:Addr)(fl:Value):Prop:=∃(o:Obj)(a:Array Value),h.get? T=some o/\o.data=.fields a/\a[3]?=some fl
noncomputable def Qd:Value->List Addr|.ref T=>[T]|_=>[]
structure p7(fs ch:List Addr)(h h':Heap):Prop where
 keep:∀b o,h.get? b=some o->b∉ch->b∉fs->h'.get? b=some o
 slot:∀b o,h.get? b=some o->b∉ch->∃sl,h'.get? b=some {o with slots:=sl}
theorem p7.trans{fs:List Addr}{h1 f:Heap}(a:p7 fs ch h h1)(b:p7 fs ch h1 f):p7 fs ch h f:=⟨λx o e g i=>b.keep x o (a.keep x o e g i) g i,λx o e n=>by obtain⟨sl,q⟩:=a.slot x o e n;obtain⟨c,j⟩:=b.slot x _ q n;exact⟨c,j⟩⟩
theorem p7.more{fs c:List Addr}(a:p7 fs ch h h')(s:∀b∈ch,b∈c):p7 fs c h h':=⟨λx o e n=>a.keep x o e λz=>n (s x z),λx o e n=>a.slot x o e λz=>n (s x z)⟩
theorem p7.of_keep{fs:List Addr}(k:∀b o,h.get? b=some o->b∉ch->h'.get? b=some o):p7 fs ch h h':=⟨λb o e n _=>k b o e n,λb o e n=>⟨o.slots,k b o e n⟩⟩
theorem p7.set{fs:List Addr}(h:Heap)(a:Addr)(f:Obj->Obj):p7 fs [a] h (h.update a f):=.of_keep λb o e n=>(get?_update_other _ _ (by simpa using Ne.symm (by simpa using n))).trans e
section
variable{M:Model}{A:Around}{E:Value->Shared->Prop}{s:Shared}
theorem mC.Og{l:List Env}(b:mC s.heap e C tb)(c:s.heap.FunFrames base l):e∉frs l:=λf=>by obtain⟨o,vs,h1,_,g,_⟩:=b;obtain⟨_,j,a,i⟩:=c.mem f;rw[h1]at a;cases a;exact i vs g
theorem sJ{env:Env}{L:Addr}{head:Value}{f:Bool}{Q:Unit->Shared->Prop}(r:A.frames=some (env::outer))(z:s.heap.FunFrames base (env::outer))(I:env.frame=some L)(B:mC s.heap e C tb)(k:∀h' T,s.heap.objs.size<=T->T≠e->p7 (frs (env::outer)) [e] s.heap h'->mC h' e C (.ref T)->LQ h' T (rawInt L)->Q () {s with heap:=h'}):wpAny M A (do let a<-frameOf env;let m<-entryPlaceOf L f;let b<-EntryCells.newEntry head a .none (rawInt L) .none m;setField (.ref e) 1 b) Q E s:=by
 have t:=B.Og z;obtain⟨J,vs,he,u,hd,h1,v⟩:=B;have hsz:=(Array.getElem?_eq_some_iff.mp h1).1;refine wpAny_bind (wpAny_frameOf_fun r z I λc so=>wpAny_bind (wpAny_entryPlaceOf λm hpl=>?_));unfold EntryCells.newEntry newFields;refine wpAny_bind (wpAny_newObj_type ?_ (hpl.sizeOk5 _ _ _ _ _));have b1:p7 (frs (env::outer)) [e] s.heap c:=⟨λb o q _ n=>(so.2.1 b n).trans q,λb o q _=>so.2.2 b o q⟩;have g:c.get? e=some J:=(so.2.1 e t).trans he;generalize G:({cls:=.type "traceback",dict:=none,data:=.fields ([head,.ref L,.none,rawInt L,.none]++(if m.isEmpty then replicate 6 Value.none else m)).toArray}:Obj)=p;have i:=get?_push_of_some (h:=c) p g;refine wpAny_setField i hd hsz ?_;have j:c.objs.size≠e:=Nat.ne_of_gt (lt_size g);have l:=Obj.data_mapFields hd (·.setIfInBounds 1 (Value.ref c.objs.size));have x:=get?_update_self (Obj.mapFields (·.setIfInBounds 1 (Value.ref c.objs.size))) i (Obj.isFreed_of_fields l);have y:((c.push p).update e (Obj.mapFields (·.setIfInBounds 1 (Value.ref c.objs.size)))).get? c.objs.size=some p:=by rw[get?_update_other _ _ (Ne.symm j)];exact get?_push_size c (by rw[<-G];rfl)
 refine k _ c.objs.size ?_ j (b1.trans ((p7.of_keep λb o q _=>gY q).trans (p7.set _ _ _))) ⟨_,_,x,?_,l,by simp[hsz],El.trans v⟩ ⟨p,_,y,by rw[<-G],?_⟩;.exact Nat.le_of_eq so.1.symm
 .rw[Obj.cls_mapFields];exact u
 .first|(simp;done)|(rcases hpl with rfl|⟨_,_,_,_,_,_,_,rfl⟩<;>simp)
theorem uW{env:Env}{L:Addr}{Q:Unit->Shared->Prop}(m:A.frames=some (env::outer))(U:s.heap.FunFrames base (env::outer))(B:env.frame=some L)(W:mC s.heap e C tb)(ht:tb=.none\/∃T,tb=.ref T/\T≠e/\LQ s.heap T .none)(k:∀h' a,s.heap.objs.size<=a->a≠e->p7 (frs (env::outer)) (e::Qd tb) s.heap h'->mC h' e C (.ref a)->LQ h' a .none->Q () {s with heap:=h'}):wpAny M A (noteFrame (.ref e) env) (λ_ s2=>wpAny M A (setFlight (.ref e) none) Q E s2) E s:=by
 have fin:∀(p:Heap)(a:Addr),s.heap.objs.size<=a->a≠e->p7 (frs (env::outer)) (e::Qd tb) s.heap p->mC p e C (.ref a)->LQ p a (rawInt L)->wpAny M A (setFlight (.ref e) none) Q E {s with heap:=p}:=by
  intro p a X g b2 Z t2;have i:s.heap.get? a=none:=get?_none_of_le X;obtain⟨o,vs,r,G,u,v,I⟩:=Z;obtain⟨oT,Y,j,l,z⟩:=t2;unfold setFlight;refine wpAny_bind (wpAny_field r u v ?_);rw[if_pos (show(Value.ref a !=Value.none)=true from by simp)];have hsz:=(Array.getElem?_eq_some_iff.mp z).1;have hd:=Obj.data_mapFields l (·.setIfInBounds 3 ((none:Option Addr).elim Value.none λf=>rawInt f));refine wpAny_setField j l hsz (k _ a X g ⟨λb y c n f=>?_,λb y c n=>?_⟩ ⟨o,vs,?_,G,u,v,I⟩ ⟨_,_,get?_update_self _ j (Obj.isFreed_of_fields hd),hd,by simp[hsz]⟩)
  . have:a≠b:=by rintro rfl;rw[i]at c;cases c
    rw[get?_update_other _ _ this];exact b2.keep b y c n f
  . have:a≠b:=by rintro rfl;rw[i]at c;cases c
    obtain⟨sl,q⟩:=b2.slot b y c n;exact⟨sl,by rw[get?_update_other _ _ this];exact q⟩
  .rw[get?_update_other _ _ g];exact r
 obtain⟨o,vs,r,G,u,v,I⟩:=id W;unfold noteFrame;simp only[B];refine wpAny_bind (wpAny_field r u v ?_);rcases ht with rfl|⟨T,rfl,J,oT,Y,j,l,z⟩;.rw[if_neg (by decide)];exact sJ m U B W λh' a i g b x t=>fin h' a i g b x t
 . rw[if_pos (show(Value.ref T !=Value.none)=true from by simp)];refine wpAny_bind (wpAny_field j l z ?_);rw[if_neg (show ¬((Value.none==rawInt L)=true)from by simp[rawInt])];refine wpAny_bind (wpAny_setField j l (Array.getElem?_eq_some_iff.mp z).1 ?_);have b0:p7 (frs (env::outer)) [T] s.heap (s.heap.update T (Obj.mapFields (·.setIfInBounds 3 Value.none))):=p7.set _ _ _;have N:mC (s.heap.update T (Obj.mapFields (·.setIfInBounds 3 Value.none))) e C (.ref T):=⟨o,vs,by rw[get?_update_other _ _ J];exact r,G,u,v,I⟩;have O:(s.heap.update T (Obj.mapFields (·.setIfInBounds 3 Value.none))).FunFrames base (env::outer):=U.of_keeps λb y c nf=>by
    have:T≠b:=by rintro rfl;rw[j]at c;cases c;exact nf Y l
    exact⟨y,by rw[get?_update_other _ _ this];exact c,rfl⟩
   refine sJ (s:={s with heap:=s.heap.update T (Obj.mapFields (·.setIfInBounds 3 Value.none))}) m O B N λh' a i g b x t=>fin h' a ?_ g ((b0.more (by simp[Qd])).trans (b.more (by simp))) x t;exact le_trans (Nat.le_of_eq (Heap.size_update _ _ _).symm) i
end
structure Fly(old:Heap)(H:Hp)(C e:Addr)(h:Heap):Prop where
 free:H e=none
 new:old.get? e=none
 ex:∃tb,mC h e C tb/\(tb=.none\/∃T,tb=.ref T/\T≠e/\LQ h T .none/\H T=none/\old.get? T=none)
noncomputable def yO(P:Program)(w:World):GZ:=λouter H s E e a=>∃(H':Hp)(C b:Addr),e=.ref b/\a.os=s.os/\AllBare a.gens/\Un (frs outer) [] H H' s.heap a.heap/\jT P w H' a.heap/\Fly s.heap H' C b a.heap/\E e (some C) H'
theorem p7.hok{P:Program}{fs:List Addr}(b:p7 fs ch h h')(o:jT P w H h)(h1:∀c∈fs,H c=none)(f:∀c∈ch,H c=none):jT P w H h':=by
 intro a u e;refine(o a u e).stay (λc v hc q=>b.keep c v q (λz=>?_) λz=>?_) (λc q=>q) λc xs q=>q
 . have:=f c z;rcases hc with rfl|hc;.rw[e]at this;cases this
   .rw[hc]at this;cases this
 . have:=h1 c z;rcases hc with rfl|hc;.rw[e]at this;cases this
   .rw[hc]at this;cases this
section
variable{X:Cx}{pins:List (Addr×Obj)}{σ:St}{H:Hp}{s:Shared}
theorem gone{fs ex:List Addr}{H':Hp}(u:Un fs ex H H' h h'){b:Addr}(a:b∉ex)(n:h'.get? b=none):h.get? b=none:=by cases q:h.get? b with|none=>rfl|some o=>obtain⟨c,z⟩:=u.there b o q a;rw[n]at z;cases z
theorem xq{b:Addr}(h:b∈Qd tb):tb=.ref b:=by cases tb with|ref T=>simp[Qd]at h;rw[h]|_=>simp[Qd]at h
theorem vm{outer:List Env}{a:Addr}(I:Inv X pins σ H s)(k:X.ex=[])(t:X.stack=X.env::X.outer/\X.env.frame=some X.env.locals)(f:Fly X.s₀.heap H C e s.heap)(L:mC s.heap e C tb)(ht:tb=.none\/∃T,tb=.ref T/\T≠e/\LQ s.heap T .none/\H T=none/\X.s₀.heap.get? T=none)(v:s.heap.objs.size<=a)(y:a≠e)(b:p7 (frs X.stack) (e::Qd tb) s.heap h')(A:mC h' e C (.ref a))(t':LQ h' a .none):Un X.fs [] X.H₀ H X.s₀.heap h'/\jT X.prog X.w H h'/\Fly X.s₀.heap H C e h':=by
 have j:∀c∈e::Qd tb,H c=none/\X.s₀.heap.get? c=none:=λc hc=>by
  rcases mem_cons.mp hc with rfl|hc;.exact⟨f.free,f.new⟩
  . have:=xq hc;subst this;rcases ht with z|⟨T,z,_,_,B,E⟩;.cases z
    .cases z;exact⟨B,E⟩
 have l:frs X.stack=X.env.locals::X.fs:=by rw[t.1];simp[frs,t.2,Cx.fs]
 have i:X.s₀.heap.get? X.env.locals=none:=get?_none_of_le I.ok.above;have m:H a=none:=I.hok.fresh v;have G:s.heap.get? a=none:=get?_none_of_le v;have u:=I.base;rw[k]at u;refine⟨⟨λc o q n x _=>?_,λc o q n J _=>?_,λc o q n _=>u.free c o q n (by simp),λc o q _=>?_,u.tups,u.qI,u.uB⟩,b.hok I.hok I.qQ λc hc=>(j c hc).1,⟨f.free,f.new,_,A,.inr ⟨a,rfl,y,t',m,gone u (by simp) G⟩⟩⟩
 . refine b.keep c o (u.keep c o q n x (by simp)) (λz=>?_) (λz=>?_);.rw[(j c z).2]at q;cases q
   . rw[l]at z;rcases mem_cons.mp z with rfl|z;.rw[i]at q;cases q
     .exact x z
 . obtain⟨sl,p⟩:=u.slot c o q n J (by simp);obtain⟨r,g⟩:=b.slot c _ p λz=>by rw[(j c z).2]at q;cases q
   exact⟨r,g⟩
 . obtain⟨M,p⟩:=u.there c o q (by simp);obtain⟨sl,g⟩:=b.slot c _ p λz=>by rw[(j c z).2]at q;cases q
   exact⟨_,g⟩
theorem bA.there{P:Program}{a:Addr}{o:HO}(x:bA P w H h a o):∃u,h.get? a=some u:=by cases o with|lst xs=>obtain⟨_,_,_,_,e⟩:=x;exact⟨_,e⟩|tup xs=>obtain⟨_,_,_,_,e,_⟩:=x;exact⟨_,e⟩|dK kvs=>obtain⟨_,_,_,_,o,_,_,e,_⟩:=x;exact⟨_,e⟩|dT kvs=>obtain⟨_,_,_,_,o,_,_,e,_⟩:=x;exact⟨_,e⟩|set S n=>obtain⟨o,_,_,_,e,_⟩:=x;exact⟨_,e⟩|ins C b fs=>obtain⟨_,_,_,e,_⟩:=x;exact⟨_,e⟩|own y=>obtain⟨_,e⟩:=x;exact⟨_,e⟩|xd fs=>obtain⟨_,⟨_,_,_,e,_⟩,_⟩:=x;exact⟨_,e⟩|vO lo hi=>obtain⟨_,_,_,e⟩:=x;exact⟨_,e⟩|dz c u=>obtain⟨e,_⟩:=x;exact⟨_,e⟩|RL ps=>exact⟨_,x⟩|met f y=>exact⟨_,x⟩|ext g=>obtain⟨_,⟨_,e⟩,_⟩:=x;exact⟨_,e⟩
theorem jT.none{P:Program}{w:World}{H:Hp}{h:Heap}{a:Addr}(o:jT P w H h)(n:h.get? a=none):H a=none:=by cases q:H a with|none=>rfl|some u=>obtain⟨v,z⟩:=(o a u q).there;rw[n]at z;cases z
noncomputable def Off(pn:List (Addr×Obj))(e:Addr)(h:Heap):Prop:=∀p∈pn,p.1≠e/\∀C tb,mC h e C tb->tb≠.ref p.1
noncomputable def vN(X:Cx)(E:XK):Prop:=∀(pins:List (Addr×Obj))(σ:St)(H:Hp)(s:Shared)(C e:Addr),Inv X pins σ H s->Fly X.s₀.heap H C e s.heap->Off X.pn e s.heap->E (.ref e) (some C) H->X.xe (.ref e) s
theorem kY{P:Program}{K:PySem.W.Frag}{mg:Str->Option Value}{N:List Str}{qual:Str}{scope:Scope}{f:Addr}{g:Value}{A:Around}{s0:Shared}{k:Hp}{E:XK}:vN (m9 (yO P w) P w K mg base N qual scope f g A outer s0 k E) E:=by intro pins σ H s C e I fl _ q;obtain⟨tb,l,ht⟩:=fl.ex;show wpAny (model P w) (A.deeper (envOfC qual scope s0.heap.objs.size f g)) (leaving (envOfC qual scope s0.heap.objs.size f g) (.ref e)) (λ_ i=>yO P w outer k s0 E (.ref e) i) _ s;unfold leaving;refine wpAny_bind (uW (base:=base) I.ok.frames I.stack rfl l (ht.imp id λ⟨T,a,b,c,_⟩=>⟨T,a,b,c⟩) λh' p m n b o t'=>?_);obtain⟨u,ok,j⟩:=vm (outer:=outer) I rfl ⟨rfl,rfl⟩ fl l ht m n b o t';exact⟨H,C,e,rfl,I.os,I.bare,u,ok,j,q⟩
theorem Q5{E:XK}(i:X.ex=[])(x:vN X E):Passes (yO X.prog X.w) X E:=by
 rintro pins σ H s e y I⟨H',C,A,he,os,bare,un,ok,fl,q⟩;subst he;obtain⟨k,g,d,t,j⟩:=y;obtain rfl:j=s.os:=os;have B:Inv X pins σ H' ⟨k,g,d,t,s.os⟩:=I.call (h':=k) (g':=g) (d':=d) (t':=t) (ch:=[]) un ok bare (λb z=>absurd z (by simp));have l:∀b,s.heap.get? b=none->X.s₀.heap.get? b=none:=λb n=>by cases z:X.s₀.heap.get? b with|none=>rfl|some o=>obtain⟨U,m⟩:=I.base.there b o z (by rw[i];simp);rw[n]at m;cases m
 obtain⟨tb,r,ht⟩:=fl.ex;exact x pins σ H' _ C A B ⟨fl.free,l _ fl.new,tb,r,ht.imp id λ⟨T,a,b,c,d',n⟩=>⟨T,a,b,c,d',l _ n⟩⟩ (λp G=>by
  have f:=(I.pin p (mem_append_left _ G)).1;refine⟨λz=>?_,λW J L z=>?_⟩;.rw[z,fl.new]at f;cases f
  . obtain⟨o,vs,M,_,N,O,_⟩:=r;obtain⟨Y,Q,r1,_,u,v,_⟩:=L;rw[M]at r1;cases r1;rw[N]at u;cases u;rw[O]at v;cases v;rcases ht with t|⟨T,t,_,_,_,n⟩;.rw[t]at z;cases z
    .rw[t]at z;cases z;rw[n]at f;cases f) q
theorem Ir{x:Str}{B a b:String}{bm:List Value}{c:Str}{E:XK}{np cpos f pos:Pos}{ck}(hc:X.calm=true)(i:X.ex=[])(o:Gl X x)(O:OwnCls x C bm a X.mg X.base)(FB:ExcBaseFacts B a b bm)(r:vN X E)(hd:(x==("__debug__":Str))=false:=by decide)(he:starEach [.Constant (.str c) ck f] X.env=(false,eval (.Constant (.str c) ck f) X.env)::starEach [] X.env:=by rfl)(hpl:(backTo cpos (starEach [] X.env)).any (·.1)=false:=by rfl):PS X (.Raise (some (.Call (.Name x np) [.Constant (.str c) ck f] [] cpos)) none pos) (λ_ _ H=>∀e,E (.ref e) (some C) H):=by
 intro pins s σ H D I h;obtain⟨u,N,nm,q,bs,hdct,sn,sub,ab,col,dd,k0,k1,k2,k3,k5,mN,v,y,j,T⟩:=O.obj;refine wpAny_Raise_call_subT (C:=C) (nm:=nm) (q:=q) (N:=N) (bs:=bs) (bm:=u) (hdct:=hdct) (sn:=sn) (sub:=sub) (ab:=ab) (col:=col) (dd:=dd) (k0:=k0) (k1:=k1) (k2:=k2) (k3:=k3) (k5:=k5) FB (mN:=mN) (T.hasType FB.hasBase) (I.ok.hd hc) (by rw[he];exact hpl) j (rC I o O.bound ⟨rfl,?_⟩ hd);rw[he];have g:Inv X pins σ H {s with toks:=s.toks+1}:=I.tok _;refine Calls.evalArgs_plain (Calls.spliced_cons (Calls.Constant_str (k:=ck) (pos:=f) (Calls.spliced_nil ⟨rfl,by show 1<=sizeLine;decide,g.bk _ _ v,y.keeps g.bk,T.keeps g.bk,λh' e m=>?_⟩)));have A:Inv X pins σ H {s with heap:=h',toks:=s.toks+1}:=g.kept (t':=s.toks+1) m.keeps;obtain⟨t,ht,_⟩:=m.there;have G:X.s₀.heap.get? e=none:=gone I.base (by rw[i];simp) m.new;exact r pins σ H _ C e A ⟨jT.none I.hok m.new,G,.none,⟨_,_,ht,rfl,rfl,rfl,rfl⟩,.inl rfl⟩ (λp J=>by
  have l:=(I.pin p (mem_append_left _ J)).1;refine⟨λz=>?_,λW L M z=>?_⟩;.rw[z,show s.heap.get? e=none from m.new]at l;cases l
  .obtain⟨Y,Q,r1,_,U,n,_⟩:=M;rw[ht]at r1;cases r1;cases U;rw[z]at n;cases n) (h e)
end
section
variable{M:Model}{A:Around}{E:Value->Shared->Prop}
theorem uM{g:Array GenState}{d:Drawn}{t:Nat}{os:OsState}{j:Addr}{J:Obj}{Q:Bool->Shared->Prop}{nm q:Str}{N:Addr}{bs bm:List Value}{hdct:Bool}{sn:List Str}{sub:List Value}{ab:Bool}{col:Option Bool}{dd:Option Addr}{k0 k1 k2 k3 k5:Option Value}{b:String}{m L:Str}{N':Addr}{n c:List Value}{o:Bool}{p:List Str}{r:List Value}{s:Bool}{u:Option Bool}{O:Option Addr}{v x y z B:Option Value}{a:String}(U:h.get? C=some (excClassObj nm q C N bs bm hdct sn sub ab col dd k0 k1 k2 k3 k5 b))(k:h.get? j=some (excClassObj m L j N' n c o p r s u O v x y z B a))(he:h.get? e=some J)(l:J.cls=.ref C)(i:c.contains (.type "BaseException")=true)(G:(Value.ref C::bm).contains (.ref j)=true)(W:Q true ⟨h,g,d,t,os⟩):wpAny M A (excMatches (.ref e) (.ref j)) Q E ⟨h,g,d,t,os⟩:=by
 have I:(Value.ref j::c).contains (.type "BaseException")=true:=by rw[List.contains_cons,i,Bool.or_true]
 have f:=tc_notTuple;unfold excMatches;repeat(first|(with_reducible refine wpAny_loadPart_at he ?_;rw[l])|with_reducible refine wpAny_loadPart_at k ?_|(with_reducible refine wpAny_isSubtype_exc k ?_;rw[I])|(with_reducible refine wpAny_isSubtype_exc U ?_;rw[G])|wp_step)
 exact W
end
noncomputable def Under(h:Heap)(C b:Addr):Prop:=∃nm q N bs bm hdct sn sub ab col dd k0 k1 k2 k3 k5 a,h.get? C=some (excClassObj nm q C N bs bm hdct sn sub ab col dd k0 k1 k2 k3 k5 a)/\(Value.ref C::bm).contains (.ref b)=true
theorem Under.keeps{f:Addr}(u:Under h C f)(k:∀b o,h.get? b=some o->h'.get? b=some o):Under h' C f:=by obtain⟨nm,q,N,bs,bm,hdct,sn,sub,ab,col,dd,k0,k1,k2,k3,k5,a,g,c⟩:=u;exact⟨nm,q,N,bs,bm,hdct,sn,sub,ab,col,dd,k0,k1,k2,k3,k5,a,k _ _ g,c⟩
noncomputable def qy(X:Cx)(a:List (Addr×Obj))(b:Value->Shared->Prop):Cx:={X with pn:=X.pn++a,xe:=b}
noncomputable def Dd(X:Cx)(e:Addr):Cx:={X with A:=X.A.mark (some (.ref e)),calm:=false}
section
variable{X:Cx}{pins zp:List (Addr×Obj)}{σ:St}{H:Hp}{s:Shared}{oW:Value->Shared->Prop}{e:Addr}
theorem Jr:X.Ok↔(qy X pins oW).Ok:=⟨λo=>⟨o.mod,o.kind,o.glob,o.blt,o.above,o.inj,o.has,o.cab,o.hd,o.frames,o.RM,o.Ym,o.bs,o.G3,o.xH,o.zm,o.mW,o.Ml⟩,λo=>⟨o.mod,o.kind,o.glob,o.blt,o.above,o.inj,o.has,o.cab,o.hd,o.frames,o.RM,o.Ym,o.bs,o.G3,o.xH,o.zm,o.mW,o.Ml⟩⟩
theorem Ng:X.Ok->(Dd X e).Ok:=λo=>⟨o.mod,o.kind,o.glob,o.blt,o.above,o.inj,o.has,o.cab,(λz=>by cases z),o.frames,o.RM,o.Ym,o.bs,o.G3,o.xH,o.zm,o.mW,o.Ml⟩
theorem Nj(I:Inv X pins σ H s):Inv (qy X pins oW) [] σ H s:=⟨Jr.mp I.ok,I.os,I.bare,I.base,I.loc,I.cell,I.free,I.gk,λp a=>I.pin p (by simpa[qy]using a),I.hok,I.len⟩
theorem nP(I:Inv (qy X pins oW) zp σ H s):Inv X pins σ H s:=⟨Jr.mpr I.ok,I.os,I.bare,I.base,I.loc,I.cell,I.free,I.gk,λp a=>I.pin p (mem_append_left _ a),I.hok,I.len⟩
theorem Kc(I:Inv X pins σ H s):Inv (Dd X e) pins σ H s:=⟨Ng I.ok,I.os,I.bare,I.base,I.loc,I.cell,I.free,I.gk,I.pin,I.hok,I.len⟩
theorem Inv.but(I:Inv X pins σ H s)(b:p7 (frs X.stack) ch s.heap h')(un:Un X.fs X.ex X.H₀ H X.s₀.heap h')(ok:jT X.prog X.w H h')(nl:X.env.locals∉ch)(nc:∀x c,X.env.cells.lookup x=some c->c∉ch)(np:∀p∈X.pn++pins,p.1∉ch):Inv X pins σ H {s with heap:=h'}:=by
 have a:∀x c v,X.env.cells.lookup x=some c->s.heap.IsCell c v->h'.IsCell c v:=λx c v hc⟨o,ho,hd⟩=>by obtain⟨sl,q⟩:=b.slot c o ho (nc x c hc);exact⟨_,q,hd⟩
 refine⟨I.ok,I.os,I.bare,un,?_,λx c hc=>?_,I.free,I.gk,λp g=>?_,ok,I.len⟩;.obtain⟨m,⟨o,es,ep,ho,r⟩,f⟩:=I.loc;obtain⟨sl,n⟩:=b.slot _ o ho nl;refine⟨m,⟨_,es,ep,n,r⟩,λi x v h1 t y=>?_⟩;obtain⟨u,A,lk⟩:=f i x v h1 t y;exact⟨u,A,lk.imp id λ⟨k,c,hc,B⟩=>⟨k,c,hc,a x c _ hc B⟩⟩
 .obtain⟨v,f⟩:=I.cell x c hc;exact⟨v,a x c v hc f⟩
 .obtain⟨E,G,j,l,J⟩:=I.pin p g;exact⟨b.keep _ _ E (np p g) λz=>(mem_cons.mp (I.rN _ z)).elim j l,G,j,l,J⟩
theorem mC.nl(I:Inv X pins σ H s)(x:mC s.heap e C tb):X.env.locals≠e/\∀y c,X.env.cells.lookup y=some c->c≠e:=by
 obtain⟨o,vs,h1,_,a,_⟩:=x;refine⟨λz=>?_,λy c hc z=>?_⟩;.obtain⟨m,⟨b,es,ep,ho,r,_⟩,_⟩:=I.loc;rw[z,h1]at ho;cases ho;rw[a]at r;cases r
 .obtain⟨v,b,ho,r⟩:=I.cell y c hc;rw[z,h1]at ho;cases ho;rw[a]at r;cases r
theorem LQ.nl{T:Addr}{fl:Value}(I:Inv X pins σ H s)(x:LQ s.heap T fl):X.env.locals≠T/\∀y c,X.env.cells.lookup y=some c->c≠T:=by
 obtain⟨o,vs,h1,a,_⟩:=x;refine⟨λz=>?_,λy c hc z=>?_⟩;.obtain⟨m,⟨b,es,ep,ho,r,_⟩,_⟩:=I.loc;rw[z,h1]at ho;cases ho;rw[a]at r;cases r
 .obtain⟨v,b,ho,r⟩:=I.cell y c hc;rw[z,h1]at ho;cases ho;rw[a]at r;cases r
end
end _L
namespace _H
open PySem _L Spec PyProof.Rows
variable{x:Str}{cl:Nat->Addr}
noncomputable def tX(K:PySem.W.Frag)(W:Nat->Hp->Prop)(g:List Sl->Option (Nat×List Sl)):TS:=λ_ σ H=>∃F ρ k a,GS K F ρ σ H/\g ρ=some (k,a)/\∀F' σ' H',aC K F ρ σ H F' a σ' H'->W k H'
noncomputable def Rh(X:Cx)(c:Call)(n:Nat)(W:Nat->Hp->Prop)(st:Stmt)(s:S):Prop:=PS X st (tX X.K W (zy c n s))
noncomputable def RK(X:Cx)(c:Call)(n:Nat)(W:Nat->Hp->Prop)(st:List Stmt)(s:List S):Prop:=o8 X st (tX X.K W (jU c n s))
section
variable{X:Cx}{c:Call}{n:Nat}{W:Nat->Hp->Prop}{e a b tg iter:Expr}{p:P}{pos:Pos}{body:List Stmt}{ss:List S}
theorem aaa{st:Stmt}{t u:TS}(h:PS X st t)(h':PS X st u):PS X st (λD σ H=>t D σ H\/u D σ H):=λf s σ H D I q=>q.elim (h f s σ H D I) (h' f s σ H D I)
theorem R7{st:List Stmt}{t u:TS}(h:o8 X st t)(h':o8 X st u):o8 X st (λD σ H=>t D σ H\/u D σ H):=λf s σ H D I q=>q.elim (h f s σ H D I) (h' f s σ H D I)
theorem jY{st:Stmt}{s:S}(h:∀ρ,zy c n s ρ=none:=by intro _;rfl):Rh X c n W st s:=cz sE λD σ H⟨F,ρ,k,ρ',g,e,q⟩=>by rw[h]at e;cases e
theorem dw:RK X c n W [] []:=jJ wJ λD σ H⟨F,ρ,k,ρ',g,e,q⟩=>by rw[jU]at e;cases e
theorem bR{st:Stmt}{s:S}{f:List Stmt}{ss:List S}(h1:SS X c n st s)(j:Rh X c n W st s)(m:RK X c n W f ss):RK X c n W (st::f) (s::ss):=by refine jJ (je (aaa h1 j) m) ?_;rintro D σ H⟨F,ρ,k,h,g,e,q⟩;rw[jU]at e;cases hx:zy c n s ρ with|some x=>rw[hx]at e;cases e;exact .inr ⟨F,ρ,k,h,g,hx,q⟩|none=>rw[hx]at e;dsimp only at e;cases he:ex c n s ρ with|stuck=>rw[he]at e;cases e|exc _ _=>rw[he]at e;cases e|ok fl i=>rw[he]at e;cases fl with|next=>exact .inl ⟨F,ρ,.next,i,g,he,λF1 o u s1=>⟨F1,i,k,h,s1.gs,e,λr l t s2=>q r l t (s1.trans s2)⟩⟩|_=>cases e
theorem wu{m o:List Stmt}{r s:List S}(hc:ST X c e p)(t:RK X c n W m r)(u:RK X c n W o s):Rh X c n W (.If e m o pos) (.ifs p r s):=by
 refine cz (Ig hc t u) ?_;rintro D σ H⟨F,ρ,k,i,g,e,q⟩;rw[zy]at e;split at e;.rename_i x f v;refine⟨F,ρ,x,f,g,v,λF1 w s1=>?_⟩;cases x with|true=>exact⟨F1,f,k,i,s1.gs,by simpa using e,λj h l s2=>q j h l (s1.trans s2)⟩|false=>exact⟨F1,f,k,i,s1.gs,by simpa using e,λj h l s2=>q j h l (s1.trans s2)⟩
 .cases e
theorem Ka{C:Addr}{B f h:String}{bm:List Value}{i:Str}{E:XK}{np cpos l:Pos}{ck}{kk:Nat}(hc:X.calm=true)(j:X.ex=[])(m:Gl X x)(O:OwnCls x C bm f X.mg X.base)(FB:ExcBaseFacts B f h bm)(o:vN X E)(r:∀H,W kk H->∀e,E (.ref e) (some C) H)(hd:(x==("__debug__":Str))=false:=by rfl):Rh X c n W (.Raise (some (.Call (.Name x np) [.Constant (.str i) ck l] [] cpos)) none pos) (.zq kk):=by refine cz (Ir hc j m O FB o hd (aR rfl) rfl) ?_;rintro D σ H⟨F,ρ,k,s,g,e,q⟩;rw[zy]at e;cases e;exact r H (q F σ H (.refl g))
noncomputable def RX(K:PySem.W.Frag)(c:Call)(W:Nat->Hp->Prop)(p:P)(σ:_L.St)(H:Hp):Prop:=∃F ρ k f,GS K F ρ σ H/\ji c p ρ=some (k,f)/\∀F' σ' H',aC K F ρ σ H F' f σ' H'->W k H'
noncomputable def XE(X:Cx)(c:Call)(W:Nat->Hp->Prop)(e:Expr)(p:P):Prop:=PE X e (λσ H _=>RX X.K c W p σ H)
noncomputable def Ma(K:PySem.W.Frag)(cl:Nat->Addr)(np:Nat)(f:List Sl->Res R):Sp:=λvs H _ E=>vs.length=np/\∃F args k g,GS K F args (vs.map some) H/\f args=.exc k g/\∀F' σ' H' e,aC K F args (vs.map some) H F' g σ' H'->E (.ref e) (some (cl k)) H'
noncomputable def EW(cl:Nat->Addr)(W:Nat->Hp->Prop):XK:=λ_ C H=>∃k,C=some (cl k)/\W k H
structure fu(Pg:Program)(w:World)(K:PySem.W.Frag)(mg:Str->Option Value)(base:Heap)(cl:Nat->Addr)(k:Nat)(c:Call)(i:Nat)(x:Str)(np:Nat):Prop where ex:∃fa fd qs,iT Pg w K mg base (yO Pg w) k fa fd qs (Ma K cl qs.length (c i))/\mg x=some (.ref fa)/\keepIn K (.ref fa)=true/\Binds K fd qs []/\qs.length=np
theorem Dy{c:Call}:∀{ps:List P}{ρ f:List Sl}{as:List Arg},zE c ps ρ=.ok as f->as.length=ps.length:=by intro ps;induction ps with|nil=>intro ρ f as h;rw[Ag]at h;cases h;rfl|cons q k j=>
   intro ρ f as h;rw[vW]at h;split at h;.obtain⟨_,_,_,h⟩:=aj h;obtain⟨xs,g,i,h⟩:=aj h;cases h;simp[j i]
   .obtain⟨_,_,_,h⟩:=aj h;obtain⟨xs,g,i,h⟩:=aj h;cases h;simp[j i]
theorem O8{kk i o np:Nat}{y:Str}{p' h cpos:Pos}{es:List Expr}{ps:List P}(r:X.ex=[])(C:vN X (EW cl W))(G:fu X.prog X.w X.K X.mg X.base cl kk c o y np)(hr:gM kk X.A)(I:X.N.Nodup)(hi:X.N[i]?=some x)(J:Loc X.env.scope x)(L:SG X c (e::es) ps)(M:Gl X y:=by rfl)(O:(e::es).length=np:=by rfl)(t:(y==("__debug__":Str))=false:=by rfl)(he:starEach (e::es) X.env=(false,eval e X.env)::starEach es X.env:=by exact aR rfl)(hpl:(backTo cpos (starEach es X.env)).any (·.1)=false:=by rfl)(u:ps.length=(e::es).length:=by rfl)(hs:swapsWith (.Call (.Name y p') (e::es) [] cpos) (some (.Name x h)) pos.line X.env=pure false:=by rfl)(Q:X.fn x=true\/X.env.scope.names.lookup x=some .local:=by first|(left;rfl)|(right;rfl)|assumption):Rh X c n W (.Assign [.Name x h] (.Call (.Name y p') (e::es) [] cpos) pos) (.asg i (.call o ps)):=by
 obtain⟨fa,fd,z,h1,U,Y,Z,h5⟩:=G.ex;have pe:=qR (p:=p') (pos:=cpos) (E:=EW cl W) h1 hr M U Y Z .nil (Q5 r C) L t he hpl;refine cz (mV I hi J pe hs Q) ?_;rintro D σ H⟨F,ρ,k,ac,g,f,q⟩;rw[zy]at f;unfold ji mL at f;dsimp only at f;split at f
 . rename_i xs v B;split at f
   . rename_i args l;split at f
     . rename_i k' j hc;cases f;refine⟨F,ρ,xs,v,g,B,λvs F1 H1 s1 A=>?_⟩;have m:vs.length=z.length:=by rw[<-A.len,Dy B,u,O,h5]
       show Ma X.K cl z.length (c o) (vs++[]) H1 _ (EW cl W);rw[append_nil];refine⟨m,F1,args,k,j,args_gs s1.gs A l,hc,λF' σ' H' e2 s=>⟨k,rfl,?_⟩⟩;obtain⟨z1,_⟩:=uq s1 A l s;exact q F' σ H' z1
     .cases f
   .cases f
 .cases f
end
section
variable{Pg:Program}{w:World}{K:PySem.W.Frag}{mg:Str->Option Value}{base:Heap}
theorem ud{qual:Str}{st:Stmt}{f:Addr}{fd:FuncData}{N ps:List Str}{k n:Nat}{c:Call}{d:Fd}(r:ig K x qual st f fd)(S:aM N ps (aA st))(h1:d.np=ps.length)(l:d.nn=N.length)(t:∀(cdv:Value)(A:Around)(outer:List Env)(s:Shared)(H:Hp)(E:XK)(W:Nat->Hp->Prop),gM k (A.deeper (envOfC qual (aA st) s.heap.objs.size f cdv))->(∀k H,W k H->∀e,E (.ref e) (some (cl k)) H)->RK (m9 (yO Pg w) Pg w K mg base N qual (aA st) f cdv A outer s H E) c n W (dY st) d.body):iT Pg w K mg base (yO Pg w) (k+1) f fd ps (Ma K cl ps.length (λargs=>enter c n d args)):=by
 obtain⟨oc,od,kV,u,G,I,cdv,ct,v,rfl,lk,b⟩:=r.ex;refine QR lk b S (λvs H Q E h=>h.1) λA outer s H vs Q E hr h=>?_;obtain⟨o,F,args,p,a,g,e,q⟩:=h;refine⟨_,t cdv A outer s H E (λk H'=>∀e,E (.ref e) (some (cl k)) H') hr (λk H' h=>h),?_⟩;replace e:enter c n d args=.exc p a:=e;unfold enter at e;split at e
 . rename_i hc;obtain⟨c1,c2⟩:=hc;have y:=g.more (n:=d.nn-d.np) (τ:=replicate (N.length-vs.length) none) (by simp[h1,l,o]);have i:args.length=d.np:=c1;split at e;.cases e
   .cases e
   . split at e;.rename_i J j z;cases e;refine⟨F,_,p,j,y,z,λF' σ' H' s B=>?_⟩;obtain⟨C,_⟩:=aC.less (m:=d.np) i.symm g (by simp[h1,l,o]) s;exact q F' _ H' B C
     .cases e
 .cases e
end
section
variable{X:Cx}{c:Call}{n:Nat}
theorem rK{k:Nat}{st:Stmt}:SS X c n st (.zq k):=cz sE λD σ H⟨F,ρ,fl,ρ',g,e,q⟩=>by rw[_H.X20]at e;cases e
end
structure tQ(K:PySem.W.Frag)(x:Str)(C:Addr):Prop where nm:PySem.W.nsIn K mainGlobals x=some (some (.ref C))is:PySem.W.excIn K C [.type "ValueError",.type "Exception",.type "BaseException",.type "object"] "ValueError.__new__"=true
section
variable{Pg:Program}{w:World}{K:PySem.W.Frag}{mg:Str->Option Value}{base h:Heap}
theorem qZ{C:Addr}(k:K.In h)(ns:h.Ns mainGlobals mg)(z:tQ K x C):OwnCls x C [.type "ValueError",.type "Exception",.type "BaseException",.type "object"] "ValueError.__new__" mg h:=by
 have y:=z.is;unfold PySem.W.excIn at y;split at y<;>try cases y
 rename_i d1 c1 s1 c;split at y<;>try cases y
 rename_i D1 m1 r s t u b1 v b a;simp only[and_eq_true,beq_iff_eq,not_eq_true']at y;obtain⟨⟨⟨⟨⟨A,B⟩,o⟩,E⟩,e⟩,p⟩:=y;subst A;subst B;cases c1 with|mk G f q g H i j l m n I=>cases s1 with|mk J=>simp only at b a o e p;subst b;subst o;subst a;exact⟨mg_of k ns z.nm,m1,g,G,H,f,i,j,l,m,n,d1,r,s,t,u,v,_,k _ _ c,.of_isNs (PySem.W.isNs_of_in k e),PySem.W.nsMap_none_of_in k e p,PySem.W.tail_of_in k E⟩
theorem rO{Γ:Tab}{wl i np:Nat}{st:Stmt}{ps:List Str}(X:K.In h)(G:h.Ns mainGlobals mg)(D:bM K x st)(j:ps.length=np)(k:∀(kV g l:Value)(m:Option Addr)(cdv ct:Value)(c:List Value),c.length=ps.length->bindArgs (PySem.W.fnOf x x (gK st) (dY st) (aA st) .none kV g l m cdv ct) ⟨c,[]⟩=pure (ps.zip c)):fu Pg w K mg base cl 0 (run Γ wl 0) i x np:=by obtain⟨f,fd,a,F⟩:=D.ex;exact⟨f,fd,ps,⟨λvs H Q E s=>s.1,λA outer s H args c vs Q E hr e b v sp=>by obtain⟨_,F,as,r,n,_,z,_⟩:=sp;cases z⟩,mg_of X G a,F.kp,F.binds k,j⟩
theorem sI{Γ:Tab}{wl n i np:Nat}{st:Stmt}{ps:List Str}{d:Fd}(X:K.In h)(G:h.Ns mainGlobals mg)(D:bM K x st)(j:ps.length=np)(b:Γ i=some d)(k:∀(kV c l:Value)(m:Option Addr)(cdv ct:Value)(g:List Value),g.length=ps.length->bindArgs (PySem.W.fnOf x x (gK st) (dY st) (aA st) .none kV c l m cdv ct) ⟨g,[]⟩=pure (ps.zip g))(ok:∀f fd,ig K x x st f fd->iT Pg w K mg base (yO Pg w) (n+1) f fd ps (Ma K cl np (λargs=>enter (run Γ wl n) wl d args))):fu Pg w K mg base cl (n+1) (run Γ wl (n+1)) i x np:=by
 obtain⟨f,fd,a,F⟩:=D.ex;refine⟨f,fd,ps,?_,mg_of X G a,F.kp,F.binds k,j⟩;have e:run Γ wl (n+1) i=λargs=>enter (run Γ wl n) wl d args:=by funext args;show(match Γ i with|some d=>enter (run Γ wl n) wl d args|none=>.stuck)=_;rw[b]
 rw[e,j];exact ok f fd F
end
theorem Bo{K:PySem.W.Frag}{C:Addr}(a:PySem.W.nsIn K mainGlobals x=some (some (.ref C)))(q:PySem.W.excIn K C [.type "ValueError",.type "Exception",.type "BaseException",.type "object"] "ValueError.__new__"=true):∃C,tQ K x C:=⟨C,a,q⟩
end _H
namespace _L
open PySem Spec PyProof.Rows
section
variable{prog:Program}{w:World}{A:Around}{E:Value->Shared->Prop}{s:Shared}{env:Env}
theorem Gn{e C x:Addr}{M n:Str}{k:List Value}{U:String}{mg:Str->Option Value}{t:Expr}{i:Stmt}{b:List Stmt}{pos:Pos}{l:List ExceptHandler}{Q:Flow->Shared->Prop}(j:k.contains (.type "BaseException")=true)(h:wpAny (model prog w) (A.mark (some (.ref e))) (eval t env) (λc a=>c=.ref x/\OwnCls M x k U mg a.heap/\Under a.heap C x/\(∃ B,a.heap.get? e=some B/\B.cls=.ref C)/\wpAny (model prog w) (A.mark (some (.ref e))) (setFlight (.ref e) none) (λ_ m=>wpAny (model prog w) (A.mark (some (.ref e))) (storeName env n (.ref e)) (λ_ o=>wpAny (model prog w) (A.mark (some (.ref e))) (execs (i::b) env) (λf p=>wpAny (model prog w) A (do bindName env n .none;unbindBehindTheSuite env n pos) (λ_ r=>Q f r) E p) (λ_ _=>False) o) (λ_ _=>False) m) (λ_ _=>False) a) (notedBy (model prog w) (A.mark (some (.ref e))) env (cameBackBy (model prog w) A env E)) s):wpAny (model prog w) A (handleBy (.ref e) env (.ExceptHandler (some t) (some n) (i::b) pos::l)) Q E s:=by refine wpAny_handleBy_cons (codeAny_handlers_test (wpAny_mono h (λc a u=>?_) λ_ _ y=>y)) (by intro q;cases q);obtain⟨rfl,O,⟨nm,q,N,bs,bm,hdct,sn,sub,ab,col,dd,k0,k1,k2,k3,k5,G,W,H⟩,⟨B,he,v⟩,X⟩:=u;obtain⟨Y,N2,Z,q2,ac,ae,af,J,ag,L,ah,l0,l1,l2,l3,l5,mN,I,hN,hq,T⟩:=O.obj;obtain⟨hh,g,d,tk,os⟩:=a;exact uM W I he v (T.hasType j) H (codeAny_handlers_suite_as (wpAny_mono X (λ_ s2 h2=>wpAny_mono h2 (λ_ s3 h3=>wpAny_mono h3 (λf s4 h4=>h4) λ_ _ z=>z.elim) λ_ _ z=>z.elim) λ_ _ z=>z.elim))
end
noncomputable def bT(X:Cx)(e:Addr)(a:Obj):Cx:={X with A:=X.A.mark (some (.ref e)),calm:=false,pn:=X.pn++[(e,a)],xe:=λ_ _=>False}
structure OE(oe:Obj)(C:Addr):Prop where
 cls:oe.cls=.ref C
 dict:oe.dict=none
 data:∃vs,oe.data=.fields vs
section
variable{X:Cx}{pins:List (Addr×Obj)}{σ:St}{H:Hp}{s:Shared}{e:Addr}{oe:Obj}
theorem JD:X.Ok->(bT X e oe).Ok:=λo=>⟨o.mod,o.kind,o.glob,o.blt,o.above,o.inj,o.has,o.cab,(λz=>by cases z),o.frames,o.RM,o.Ym,o.bs,o.G3,o.xH,o.zm,o.mW,o.Ml⟩
theorem Ga{C:Addr}(I:Inv X pins σ H s)(h1:s.heap.get? e=some oe)(b:OE oe C)(c:H e=none)(f:e≠X.env.locals)(g:e∉X.fs):Inv (bT X e oe) pins σ H s:=⟨JD I.ok,I.os,I.bare,I.base,I.loc,I.cell,I.free,I.gk,λp h=>by
  have a:p∈(X.pn++[(e,oe)])++pins:=h;rw[append_assoc,mem_append,mem_append,mem_singleton]at a;rcases a with z|z|z;.exact I.pin p (mem_append_left _ z)
  .subst z;refine⟨h1,c,f,g,λv q=>?_⟩;obtain⟨vs,z⟩:=b.data;rw[show(e,oe).2.data=.fields vs from z]at q;cases q
  .exact I.pin p (mem_append_right _ z),I.hok,I.len⟩
theorem lX(o:X.Ok)(I:Inv (bT X e oe) pins σ H s):Inv X pins σ H s:=⟨o,I.os,I.bare,I.base,I.loc,I.cell,I.free,I.gk,λp a=>I.pin p (by
  show p∈(X.pn++[(e,oe)])++pins;rcases mem_append.mp a with z|z;.exact mem_append_left _ (mem_append_left _ z)
  .exact mem_append_right _ z),I.hok,I.len⟩
theorem qU{M:Model}{A:Around}{E:Value->Shared->Prop}{i:Nat}{x:Str}{pos:Pos}{Q:Unit->Shared->Prop}(I:Inv X pins σ H s)(L:X.N.Nodup)(hi:X.N[i]?=some x)(O:X.env.kindOf x=some .local)(h:∀C,Inv X pins (σ.set i none) H C->Q () C):wpAny M A (do bindName X.env x .none;unbindBehindTheSuite X.env x pos) Q E s:=by
 obtain⟨m,G,U⟩:=id I.loc;have g:(X.env.scope.kind==.class||(X.env.scope.kind==.module&&X.env.locals !=X.env.globals))=false:=by rw[I.ok.kind];rfl
 have Iz:=I.Iz;refine wpAny_nameGoes_keeps O G g λh' v t hs=>?_;obtain⟨oL,_,_,W,_⟩:=id G;have a:jT X.prog X.w H h':=λb Y e=>by
  refine(I.hok b Y e).stay (λc J hc q=>(hs.2 c ?_).trans q) (λ_ q=>q) λ_ _ q=>q;rintro rfl;rcases hc with rfl|hc;.rw[I.free]at e;cases e
  .rw[I.free]at hc;cases hc
 refine h _ (Inv.tok (s:={s with heap:=h'}) ⟨I.ok,I.os,I.bare,⟨λb o e n u l=>?_,λb o e n u l=>?_,I.base.free,λb o e l=>?_,I.base.tups,I.base.qI,I.base.uB⟩,⟨_,t,λj y Z f r e3=>?_⟩,λy c e=>?_,I.free,I.gk,λp hp=>?_,a,by simpa using I.len⟩ _);.exact(hs.2 b (ne_of_lt (lt_of_lt_of_le (lt_size e) I.ok.above))).trans (I.base.keep b o e n u l)
 .obtain⟨sl,f⟩:=I.base.slot b o e n u l;exact⟨sl,(hs.2 b (ne_of_lt (lt_of_lt_of_le (lt_size e) I.ok.above))).trans f⟩
 .obtain⟨o',f⟩:=I.base.there b o e l;exact⟨o',(hs.2 b (ne_of_lt (lt_of_lt_of_le (lt_size e) I.ok.above))).trans f⟩
 . by_cases B:j=i;.subst B;rw[getElem?_set]at r;simp at r
   . rw[fL B]at r;obtain⟨u',r',q⟩:=U j y Z f r e3;refine⟨u',r',?_⟩;rcases q with⟨k,e⟩|⟨k,c,e,z⟩;.refine .inl ⟨k,?_⟩;have:y≠x:=λe=>B (um L f (e▸hi));simp[this,e]
     .exact .inr ⟨k,c,e,z.sameBut hs (Iz y c e)⟩
 .obtain⟨J,z⟩:=I.cell y c e;exact⟨J,z.sameBut hs (Iz y c e)⟩
 .obtain⟨e,n,ne,nf,d⟩:=I.pin p hp;exact⟨(hs.2 p.1 ne).trans e,n,ne,nf,d⟩
noncomputable def Uq(i:Nat)(D:Ends):Ends:=⟨λσ H=>D.nx (σ.set i none) H,D.rt,λσ H=>D.bk (σ.set i none) H,λσ H=>D.ct (σ.set i none) H⟩
theorem Pn{x y:Str}{i:Nat}{C:Addr}{bm:List Value}{t:String}{E:XK}{body h:List Stmt}{b0:Stmt}{np m pos:Pos}{tb:TS}{th:Addr->Addr->TS}(hg:Gl X x)(O:OwnCls x C bm t X.mg X.base)(B:bm.contains (.type "BaseException")=true)(G:X.ex=[])(L:X.stack=X.env::X.outer/\X.env.frame=some X.env.locals)(Y:X.N.Nodup)(hi:X.N[i]?=some y)(W:X.env.kindOf y=some .local)(hb:∀pins r,PassesOwn (model X.prog X.w) X.A X.env r->vN (qy X pins r) E->o8 (qy X pins r) body tb)(hh:∀e oe k,OE oe k->o8 (bT X e oe) (b0::h) (th k e))(hd:(x==("__debug__":Str))=false:=by decide):PS X (.Try body [.ExceptHandler (some (.Name x np)) (some y) (b0::h) m] [] [] pos) (λD σ H=>tb D σ H/\∀(σ':St)(e k:Addr)(H':Hp),σ'.length=X.N.length->E (.ref e) (some k) H'->Under X.base k C/\th k e (Uq i D) (σ'.set i (some (.ref e))) H'):=by
 rintro pins s σ H D I⟨h1,h2⟩;refine wpAny_Try_except ?_;generalize Z:(λ(e:Value)(ac:Shared)=>wpAny (model X.prog X.w) X.A (noteFrame e X.env) (λ_ ae=>wpAny (model X.prog X.w) X.A (setFlight e none) (λ_ af=>wpAny (model X.prog X.w) X.A (handleBy e X.env [.ExceptHandler (some (.Name x np)) (some y) (b0::h) m]) (SP X pins D) X.xe af) X.xe ae) X.xe ac)=r;have hp:PassesOwn (model X.prog X.w) X.A X.env r:=by rw[<-Z];exact PassesOwn.looking
 have hX:vN (qy X pins r) E:=by
  intro zp σ' H' j k e I' fl ai q;obtain⟨un,ht⟩:=h2 σ' e k H' I'.len q;obtain⟨ag,hx,M⟩:=fl.ex;have J:Inv X pins σ' H' j:=nP I';show r (.ref e) j;rw[<-Z];show wpAny (model X.prog X.w) X.A (noteFrame (.ref e) X.env) _ X.xe j;refine uW (base:=X.base) (env:=X.env) (outer:=X.outer) (by rw[J.ok.frames,L.1]) (by rw[<-L.1];exact J.stack) L.2 hx (M.imp id λ⟨T,a,b,c,_⟩=>⟨T,a,b,c⟩) λh' l n1 n2 b x' t'=>?_;have b':p7 (frs X.stack) (e::Qd ag) j.heap h':=by rw[L.1];exact b
  obtain⟨u,ok,al⟩:=vm (X:=X) (outer:=X.outer) J G L fl hx M n1 n2 b' x' t';have nT:∀T,ag=.ref T->LQ j.heap T .none:=λT z=>by
   rcases M with y|⟨T2,y,_,q,_⟩;.rw[y]at z;cases z
   .rw[y]at z;cases z;exact q
  have g:Inv X pins σ' H' {j with heap:=h'}:=J.but b' (by rw[G];exact u) ok (λz=>by
   rcases mem_cons.mp z with z|z;.exact(hx.nl J).1 z
   .exact((nT _ (xq z)).nl J).1 rfl) (λy c hc z=>by
   rcases mem_cons.mp z with z|z;.exact(hx.nl J).2 y c hc z
   .exact((nT _ (xq z)).nl J).2 y c hc rfl) (λp hp z=>by
   have o:=ai p hp;rcases mem_cons.mp z with z|z;.exact o.1 z
   .exact o.2 _ _ hx (xq z));have I3:Inv (Dd X e) pins σ' H' {j with heap:=h'}:=Kc g;obtain⟨oe,vs,q1,q2,q3,q4,q5⟩:=id x';obtain⟨oT,ts,z1,z2,z3⟩:=id t';refine Gn B (rC (X:=Dd X e) I3 hg O.bound ⟨rfl,O.keeps g.bk,un.keeps g.bk,⟨oe,q1,q2⟩,?_⟩ hd);unfold setFlight;refine wpAny_bind (wpAny_field q1 q3 q4 ?_);rw[if_pos (show(Value.ref l !=Value.none)=true from by simp)];refine wpAny_setField z1 z2 (Array.getElem?_eq_some_iff.mp z3).1 ?_;have am:H' l=none:=J.hok.fresh n1;have ah:j.heap.get? l=none:=get?_none_of_le n1;have b2:p7 (frs X.stack) [l] h' (h'.update l (Obj.mapFields (·.setIfInBounds 3 ((none:Option Addr).elim Value.none λf=>rawInt f)))):=p7.set _ _ _;have Q:∀c o,X.s₀.heap.get? c=some o->c≠l:=λc o z y=>by obtain⟨o',w⟩:=J.base.there c o z (by rw[G];simp);rw[y,ah]at w;cases w
  have I4:Inv X pins σ' H' {j with heap:=h'.update l (Obj.mapFields (·.setIfInBounds 3 ((none:Option Addr).elim Value.none λf=>rawInt f)))}:=g.but b2 ⟨λc o q n nf ne=>by rw[get?_update_other _ _ (Ne.symm (Q c o q))];exact g.base.keep c o q n nf ne,λc o q n hf ne=>by rw[get?_update_other _ _ (Ne.symm (Q c o q))];exact g.base.slot c o q n hf ne,g.base.free,λc o q ne=>by rw[get?_update_other _ _ (Ne.symm (Q c o q))];exact g.base.there c o q ne,g.base.tups,g.base.qI,g.base.uB⟩ (b2.hok g.hok g.qQ λc hc=>by rw[mem_singleton.mp hc];exact am) (λz=>(t'.nl g).1 (mem_singleton.mp z)) (λy c hc z=>(t'.nl g).2 y c hc (mem_singleton.mp z)) (λp hp z=>by have w:=(J.pin p hp).1;rw[mem_singleton.mp z,ah]at w;cases w);have hO:OE oe k:=⟨q2,q5,vs,q3⟩;have ap:e∉frs X.stack:=mC.Og (s:={j with heap:=h'}) x' g.stack;have I5:Inv (bT X e oe) pins σ' H' {j with heap:=h'.update l (Obj.mapFields (·.setIfInBounds 3 ((none:Option Addr).elim Value.none λf=>rawInt f)))}:=Ga I4 (by show(h'.update l _).get? e=_;rw[get?_update_other _ _ n2];exact q1) hO al.free (Ne.symm (mC.nl (X:=X) g x').1) (λz=>ap (by rw[L.1];simp only[frs,filterMap_cons,L.2];exact mem_cons_of_mem _ z));refine kZ (X:=bT X e oe) I5 Y hi (.inl W) (v:=.ref e) rfl (λs6 I6=>?_) (.inr W);refine bU (hh e oe k hO pins s6 _ H' (Uq i D) I6 ht) λf s7 y=>?_;cases f with|next=>obtain⟨a,b,c,d⟩:=y;exact qU (lX J.ok c) Y hi W λs8 U=>⟨_,b,U,d⟩|brk=>obtain⟨a,b,c,d⟩:=y;exact qU (lX J.ok c) Y hi W λs8 U=>⟨_,b,U,d⟩|cont=>obtain⟨a,b,c,d⟩:=y;exact qU (lX J.ok c) Y hi W λs8 U=>⟨_,b,U,d⟩|ret u=>obtain⟨a,b,c,d,y⟩:=y;exact qU (lX J.ok d) Y hi W λs8 U=>⟨a,_,c,U,y⟩
 have w:=hb pins r hp hX [] s σ H D (Nj I) h1;refine wpAny_mono w (λf s5 y=>?_) λe s5 y=>?_;.cases f with|next=>obtain⟨a,b,c,d⟩:=y;show wpAny (model X.prog X.w) X.A (execs [] X.env) _ _ s5;exact wpAny_execs_nil ⟨a,b,nP c,d⟩|brk=>obtain⟨a,b,c,d⟩:=y;exact⟨a,b,nP c,d⟩|cont=>obtain⟨a,b,c,d⟩:=y;exact⟨a,b,nP c,d⟩|ret u=>obtain⟨a,b,c,d,y⟩:=y;exact⟨a,b,c,nP d,y⟩
 .exact y
end
structure Fg(K:PySem.W.Frag)(D:Addr):Prop where
 g:PySem.W.findIn K (.ref D) "__getattribute__"=some (some (.builtin "BaseException.__getattribute__"))h:PySem.W.findIn K (.ref D) "__getattr__"=some none
 b:PySem.W.mroIn K D (.type "BaseException")=some true
 c:(PySem.W.clsIn K D).isSome=true
 a:PySem.W.findIn K (.ref D) "__class__"=some (some (.builtin "object.__class__"))n:PySem.W.specialIn K (.builtin "object.__class__") "__get__"=some (some (.builtin "getset_descriptor.__get__"))t:PySem.W.takesIn K (.builtin "object.__class__")=some true
 m:PySem.W.mroIn K D (.type "object")=some true
theorem Fj{K:PySem.W.Frag}{x D:Addr}{ox:Obj}{prog:Program}{w:World}{A:Around}{E:Value->Shared->Prop}{s:Shared}{Q:Option Value->Shared->Prop}(Z:Fg K D)(X:K.In s.heap)(I:PySem.W.InstAt s.heap x ox D none)(h:Q (some (.ref D)) {s with toks:=s.toks+1}):wpAny (model prog w) A (getAttr? (.ref x) "__class__") Q E s:=by
 obtain⟨u,hc⟩:=Option.isSome_iff_exists.mp Z.c;have p:PySem.W.findObj K D none "__class__"=some (.bind (.builtin "getset_descriptor.__get__") (.builtin "object.__class__")):=by unfold PySem.W.findObj;rw[hc,bind_some,Z.a,bind_some];simp[Z.n,Z.t]
 obtain⟨j,g,d,t,os⟩:=s;have f:=I.type (M:=model prog w);have q:=PySem.W.looks_findIn (M:=model prog w) X Z.g;have L2:=PySem.W.looks_findIn (M:=model prog w) X Z.h;have k:=PySem.W.looks_find (M:=model prog w) X I p;have l:=PySem.W.looks_mroIn (M:=model prog w) X Z.b;have i:(Value.builtin "BaseException.__getattribute__"==Value.builtin "object.__getattribute__")=false:=by decide+kernel
 have f3:=F.excAttr_ValueError.ga.bind (.ref x);unfold getAttr? getAttrBy? getAttrBy;refine wpAny_bind (wpAny_mkText (wpAny_bind (wpAny_attempt (wpAny_holding (wpAny_bind (f.at (wpAny_bind (q.at ?_))))))));simp only[i,Bool.and_false,false_eq_true,if_false];unfold getAttrByItsOwn hookBefore;simp only[onTheHeap,if_true];refine wpAny_bind (L2.at (wpAny_bind (wpAny_attempt (wpAny_holding ?_))));unfold callGetattribute;simp only[Bool.false_and,false_eq_true,if_false];unfold boundAndCalled;refine wpAny_bind (wpAny_of_eq f3 ?_);refine wpAny_call (codeAny_call_builtin F.excAttr_ValueError.ga.plain F.entry_bexc_ga ?_);have r:builtinKind "BaseException.__getattribute__"=some .slot:=by decide+kernel
 have e:splitId "BaseException.__getattribute__"=some ("BaseException","__getattribute__"):=by decide+kernel
 have y:=F.args_bexc_ga (.ref x) (.str "__class__" t);simp only[checkBuiltinCall,r,e];refine wpAny_bind ?_;unfold isInstance;repeat(first|with_reducible refine wpAny_bind (f.at ?_)|with_reducible refine wpAny_bind (l.at ?_)|with_reducible refine l.at ?_|with_reducible refine f.at ?_|with_reducible refine wpAny_bind (k.at ?_)|with_reducible refine k.at ?_|wp_step)
 refine PySem.W.class_get (s:=⟨j,g,d,t+1,os⟩) (ox:=ox) (od:=none) X I Z.m ?_;refine wpAny_pure ?_;first
  |exact PySem.W.handed_on rfl (wpAny_pure h)|(refine wpAny_mono (PySem.W.handed_on (Q:=λv o=>v=.ref D/\o=⟨j,g,d,t+1,os⟩) rfl ⟨rfl,rfl⟩) (λv o z=>?_) (λ_ _ z=>z);obtain⟨rfl,rfl⟩:=z;exact wpAny_pure h)
  | (repeat(first|wp_step)
     exact h)
theorem yN{K:PySem.W.Frag}{x D:Addr}{ox:Obj}(Z:Fg K D):KitX K (.ref x) (.ref D) (λh=>PySem.W.InstAt h x ox D none)where
 ty:=λ_ _ _ I=>I.type;it:=λ_ _ X _=>by
  obtain⟨b,a⟩:=Option.isSome_iff_exists.mp Z.c;unfold PySem.W.clsIn at a;split at a;.rename_i j d' f g ho;intro o p r t k q;unfold isType loadHead;exact wpAny_bind (wpAny_loadPart (k _ _ (X _ _ ho)) (wpAny_pure q))
  .cases a
 ne:=λh l dd m n sl X i=>by
  obtain⟨b,a⟩:=Option.isSome_iff_exists.mp Z.c;refine Bool.eq_false_iff.mpr λq=>?_;have e:D=l:=Value.ref.inj (beq_iff_eq.mp q);subst e;unfold PySem.W.clsIn at a;split at a;.rename_i j d' f g ho;have z:=(X _ _ ho).symm.trans i;cases z
  .cases a
 ca:=λ{prog w A E Q s}X I h=>Fj Z X I h
section
variable{X:Cx}{e C:Addr}{oe:Obj}
theorem Kd{a:List (Addr×Obj)}{σ:St}{H:Hp}{s:Shared}(b:OE oe C)(I:Inv (bT X e oe) a σ H s):PySem.W.InstAt s.heap e oe C none:=by
 have h:=(I.pin (e,oe) (mem_append_left _ (mem_append_right _ (mem_singleton.mpr rfl)))).1;refine⟨h,b.cls,?_,?_⟩;.obtain⟨vs,z⟩:=b.data;unfold PySem.W.notCls;rw[z]
 .rw[b.dict];trivial
theorem aac{c:V}{a:Value}{b:Bool}(g:OE oe C)(Z:Fg X.K C)(hc:∀u,RelV c u->u=a)(h:kitOne X.K (.ref C) a=some b):du (bT X e oe) (.builtin "isinstance") (λxs H Q=>xs=[.ref e,c]/\Q (.bl b) H):=by rintro f s σ H xs l Q I r⟨i,q⟩;subst i;obtain⟨u,m,rfl,j,rt⟩:=r.two;cases(show u=Value.ref e from j);cases hc _ rt;exact kia_one (yN Z) I.Mh (Kd g I) h nofun λk=>⟨.bl _,H,I.tok k,rfl,q⟩
theorem Vl{cs:List V}{f:List Value}{b:Bool}(h:OE oe C)(Z:Fg X.K C)(hc:∀c,Vals cs c->c=f)(i:PySem.W.kitAny X.K (.ref C) f=some b):du (bT X e oe) (.builtin "isinstance") (λxs H Q=>∃q,xs=[.ref e,.ref q]/\H q=some (.tup cs)/\Q (.bl b) H):=by rintro g s σ H xs c Q I r⟨q,j,l,k⟩;subst j;obtain⟨u,m,rfl,o,rt⟩:=r.two;cases(show u=Value.ref e from o);cases(show m=Value.ref q from rt);obtain⟨_,p,t,⟨⟨cls,dd,data,sl⟩,ho,a,n,hd⟩⟩:=(show bA X.prog X.w H s.heap q (.tup _)from I.hok q _ l);simp only at a hd;subst a hd;cases hc _ t;exact PySem.W.kia_tup (yN Z) I.Mh (Kd h I) ho i nofun λv=>⟨.bl _,H,I.tok v,rfl,k⟩
end
end _L
namespace _H
open PySem _L Spec PyProof.Rows
variable{es:List Expr}{y:Str}{p':Pos}
section
variable{K:PySem.W.Frag}{F H F1 H1:Hp}{ρ ρ1:List Sl}{σ σ1:_L.St}
theorem Pz{s:Sl}(h:W3 s=true):uF s=false:=by cases s<;>simp_all[W3,uF]
theorem aC.clear(s:aC K F ρ σ H F1 ρ1 σ1 H1)(h:ρ.all W3=true){σ':_L.St}(e:σ'.length=ρ.length):aC K F ρ σ H F1 (replicate ρ.length .aQ) σ' H1:=by
 have un:∀{i:Nat}{x:Sl},(replicate ρ.length Sl.aQ)[i]?=some x->x=.aQ:=λ{i x}q=>by
  rw[getElem?_replicate]at q;split at q;.cases q;rfl
  .cases q
 refine⟨⟨s.gs.sub,by simp[e],λi b d q=>(by cases un q),λi x c q z=>(by cases un q;cases z),λi j a⟨⟨x,c,q,z⟩,_⟩_=>(by cases un q;cases z)⟩,s.cF,s.xK,s.keep,λb⟨i,⟨x,c,q,z⟩,_⟩=>(by cases un q;cases z),by simp,λi x q l=>?_⟩;have:=Pz (all_eq_true.mp h x (mem_of_getElem? q));rw[this]at l;cases l
theorem aC.forget(s:aC K F ρ σ H F1 ρ1 σ1 H1){i:Nat}(h:ρ1[i]?=some .aQ):aC K F ρ σ H F1 ρ1 (σ1.set i none) H1:=by
 have c:∀{j:Nat}{x:Sl},ρ1[j]?=some x->x≠.aQ->(σ1.set i none)[j]?=σ1[j]?:=λ{j x}q n=>by
  have:i≠j:=by rintro rfl;rw[h]at q;cases q;exact n rfl
  rw[getElem?_set_ne this]
 have own:∀{j:Nat}{a:Addr},aV ρ1 (σ1.set i none) j a->aV ρ1 σ1 j a:=λ{j a}⟨⟨x,g,q,z⟩,y⟩=>⟨⟨x,g,q,z⟩,by rwa[c q (by rintro rfl;cases z)]at y⟩;refine⟨⟨s.gs.sub,by simp[s.gs.len],λj b d q=>?_,λj x g q z=>?_,λj k a x y=>s.gs.dis j k a (own x) (own y)⟩,s.cF,s.xK,s.keep,λb⟨j,x⟩=>s.xM b ⟨j,own x⟩,s.len,λj x q l=>?_⟩;.obtain⟨v,f,e⟩:=s.gs.val j b d q;exact⟨v,by rw[c q (by intro z;cases z)];exact f,e⟩
 .obtain⟨a,xs,f,e⟩:=s.gs.own j x g q z;exact⟨a,xs,by rw[c q (by rintro rfl;cases z)];exact f,e⟩
 .obtain⟨f,o,e,m⟩:=s.lk j x q l;exact⟨by rw[c e (by rintro rfl;have:=m.uF l;cases this)];exact f,o,e,m⟩
end
noncomputable def Gd(i:Nat)(e:Addr)(σ:_L.St):Prop:=σ[i]?=some (some (V.ref e))
noncomputable def GB(X:Cx)(i:Nat)(e:Addr)(x:Expr)(b:Bool):Prop:=PE X x (λσ H Q=>Gd i e σ/\∀H',aJ H H'->Q (.bl b) H')
noncomputable def GC(X:Cx)(es:List Expr)(cs:List V):Prop:=PA X es (λ_ H Q=>Q cs H)
section
variable{X:Cx}{i:Nat}{e C:Addr}{oe:Obj}{pos:Pos}
theorem Ky:GC X [] []:=nM cZ λ_ _ _ h=>h
theorem lU{y:Expr}{v:V}{cs:List V}(h1:PE X y (tC v))(a:GC X es cs)(hs:starEach (y::es) X.env=(false,eval y X.env)::starEach es X.env:=by exact aR rfl):GC X (y::es) (v::cs):=nM (bz h1 a hs) λ_ _ _ h=>h
theorem v5{x:Str}{c:Pos}{a:Expr}{k:V}{l:Value}{b:Bool}(m:OE oe C)(Z:Fg X.K C)(n:x="isinstance")(o:Gl X x)(p:X.mg x=none)(r:X.N[i]?=some y)(s:vC X.env.scope y)(f:PE (bT X e oe) a (tC k))(hc:∀u,RelV k u->u=l)(t:kitOne X.K (.ref C) l=some b)(hs:starEach [.Name y c,a] (bT X e oe).env=(false,eval (.Name y c) (bT X e oe).env)::starEach [a] (bT X e oe).env:=by exact aR rfl)(h:starEach [a] (bT X e oe).env=(false,eval a (bT X e oe).env)::starEach [] (bT X e oe).env:=by exact aR rfl)(hpl:(backTo pos (starEach [a] (bT X e oe).env)).any (·.1)=false:=by rfl)(hd:(y==("__debug__":Str))=false:=by rfl)(j:(y==("__classdict__":Str))=false:=by rfl):GB (bT X e oe) i e (.Call (.Name x p') [.Name y c,a] [] pos) b:=by subst n;refine cP (cX (X:=bT X e oe) (aac m Z hc t) o p nJ (bz (dO (X:=bT X e oe) r s hd j) (bz f cZ h) hs) (he:=hs) (hpl:=hpl)) ?_;rintro σ H Q⟨g,q⟩;exact⟨_,g,rfl,q H (aJ.refl _)⟩
theorem Hl{x:Str}{f c:Pos}{k2}{cs:List V}{l:List Value}{b:Bool}(n:OE oe C)(Z:Fg X.K C)(o:x="isinstance")(p:Gl X x)(r:X.mg x=none)(s:X.N[i]?=some y)(t:vC X.env.scope y)(h:GC (bT X e oe) es cs)(hc:∀m,Vals cs m->m=l)(u:PySem.W.kitAny X.K (.ref C) l=some b)(hz:cs.length<=sizeLine:=by decide)(hs:starEach [.Name y f,.Tuple es k2 c] (bT X e oe).env=(false,eval (.Name y f) (bT X e oe).env)::starEach [.Tuple es k2 c] (bT X e oe).env:=by exact aR rfl)(j:starEach [.Tuple es k2 c] (bT X e oe).env=(false,eval (.Tuple es k2 c) (bT X e oe).env)::starEach [] (bT X e oe).env:=by exact aR rfl)(hpl:(backTo pos (starEach [.Tuple es k2 c] (bT X e oe).env)).any (·.1)=false:=by rfl)(hd:(y==("__debug__":Str))=false:=by rfl)(k:(y==("__classdict__":Str))=false:=by rfl):GB (bT X e oe) i e (.Call (.Name x p') [.Name y f,.Tuple es k2 c] [] pos) b:=by subst o;refine cP (cX (X:=bT X e oe) (Vl n Z hc u) p r nJ (bz (dO (X:=bT X e oe) s t hd k) (bz (zU h) cZ j) hs) (he:=hs) (hpl:=hpl)) ?_;rintro σ H Q⟨g,q⟩;exact⟨_,g,hz,λa v=>⟨a,rfl,aL,q _ (aJ.cu v)⟩⟩
variable{x:Expr}{b:Bool}
end
noncomputable def tN(K:PySem.W.Frag)(f:List Sl->Res Fl):TS:=λD σ H=>∃F ρ a,GS K F ρ σ H/\f ρ=.ok .next a/\∀F' σ' H',aC K F ρ σ H F' a σ' H'->D.nx σ' H'
noncomputable def HB(X:Cx)(c:Call)(n i:Nat)(e:Addr)(st:List Stmt)(ss:List S):Prop:=o8 X st (λD σ H=>Gd i e σ/\tN X.K (eO c n ss) D σ H)
theorem DW{c:Call}{n:Nat}{s:S}{ρ a:List Sl}{fl:Fl}(h:eO c n [s] ρ=.ok fl a):ex c n s ρ=.ok fl a:=by rw[eO]at h;cases hx:ex c n s ρ with|ok fl b=>rw[hx]at h;cases fl<;>simp[Res.bind,eO]at h<;>simp[h]|exc _ _=>rw[hx]at h;cases h|stuck=>rw[hx]at h;cases h
section
variable{X:Cx}{c:Call}{n i:Nat}{e C:Addr}{oe:Obj}{pos:Pos}
noncomputable def HS(X:Cx)(c:Call)(n:Nat)(cl:Nat->Addr)(kk i:Nat)(st:List Stmt)(k:Nat)(a:List S):Prop:=a=[.bad]\/(Under X.base (cl k) (cl kk)/\∀e oe,OE oe (cl k)->HB (bT X e oe) c n i e st a)
noncomputable def HSs(X:Cx)(c:Call)(n:Nat)(cl:Nat->Addr)(kk i:Nat)(st:List Stmt)(k0:Nat)(l:List (List S)):Prop:=∀j a,l[j]?=some a->HS X c n cl kk i st (k0+j) a
variable{cl:Nat->Addr}{kk:Nat}{st:List Stmt}
theorem Mu{k0:Nat}:HSs X c n cl kk i st k0 []:=λj a h=>by simp at h
theorem jf{k0:Nat}{a:List S}{l:List (List S)}(h:HS X c n cl kk i st k0 a)(b:HSs X c n cl kk i st (k0+1) l):HSs X c n cl kk i st k0 (a::l):=λj f q=>by cases j with|zero=>cases q;exact h|succ j=>have:=b j f (by simpa using q);rwa[show k0+(j+1)=k0+1+j by omega]
theorem Dw:∀{hs:List (List S)}{k:Nat}{ρ b:List Sl}{fl:Fl},Ru c n hs k ρ=.ok fl b->∃f,hs[k]?=some f/\eO c n f ρ=.ok fl b|[],_,_,_,_,h=>by rw[Ru]at h;cases h|a::_,0,_,_,_,h=>by rw[Ru]at h;exact⟨a,rfl,h⟩|_::r,k+1,_,_,_,h=>by rw[Ru]at h;obtain⟨f,h1,g⟩:=Dw h;exact⟨f,by simpa using h1,g⟩
theorem nD{x:Str}{C g:Addr}{bm:List Value}{f:String}{mg:Str->Option Value}{h:Heap}{K:PySem.W.Frag}(qX:K.In h)(O:OwnCls x C bm f mg h)(m:PySem.W.mroIn K C (.ref g)=some true):Under h C g:=by
 obtain⟨bm,N,nm,q,bs,hdct,sn,sub,ab,col,dd,k0,k1,k2,k3,k5,mN,j,_⟩:=O.obj;refine⟨nm,q,N,bs,bm,hdct,sn,sub,ab,col,dd,k0,k1,k2,k3,k5,_,j,?_⟩;unfold PySem.W.mroIn at m;obtain⟨o,a,b⟩:=bind_eq_some_iff.mp m;unfold PySem.W.clsIn at a;split at a
 . rename_i p d' k l ho;cases a;have z:=(qX _ _ ho).symm.trans j;cases z;split at b;.cases b
   .exact Option.some.inj b
 .cases a
variable{body:List Stmt}{ss:List S}
theorem Np{x:Str}{bm:List Value}{m:String}{np r:Pos}{b0:Stmt}{f:List Stmt}{hs:List (List S)}(hg:Gl X x)(O:OwnCls x (cl kk) bm m X.mg X.base)(o:bm.contains (.type "BaseException")=true)(M:X.ex=[])(qJ:X.stack=X.env::X.outer/\X.env.frame=some X.env.locals)(hN:X.N.Nodup)(hi:X.N[i]?=some y)(hk:X.env.kindOf y=some .local)(hb:∀a h,PassesOwn (model X.prog X.w) X.A X.env h->SB (qy X a h) c n body ss)(Q:∀a h W,PassesOwn (model X.prog X.w) X.A X.env h->vN (qy X a h) (EW cl W)->RK (qy X a h) c n W body ss)(hh:HSs X c n cl kk i (b0::f) 0 hs)(hd:(x==("__debug__":Str))=false:=by rfl):SS X c n (.Try body [.ExceptHandler (some (.Name x np)) (some y) (b0::f) r] [] [] pos) (.Qv ss i hs):=by
 rintro a s σ H D I⟨F,ρ,fl,t,g,e,q⟩;have U:i<X.N.length:=(eV hi).1;generalize hW:(λ(k:Nat)(H':Hp)=>∃b,hs[k]?=some b/\b≠[.bad]/\∀(σ':_L.St)(e:Addr),σ'.length=ρ.length->tN X.K (eO c n b) (Uq i D) (σ'.set i (some (V.ref e))) H')=W;have Y:∀a h,PassesOwn (model X.prog X.w) X.A X.env h->vN (qy X a h) (EW cl W)->o8 (qy X a h) body (λl σ H=>tEx X.K (eO c n ss) l σ H\/tX X.K W (jU c n ss) l σ H):=λa h hp hX=>by have z1:=hb a h hp;have G:=Q a h _ hp hX;unfold SB at z1;unfold RK at G;exact R7 z1 G
 have Z:∀e oe p,OE oe p->o8 (bT X e oe) (b0::f) (λl σ H=>∃k b,p=cl k/\hs[k]?=some b/\b≠[.bad]/\Gd i e σ/\tN X.K (eO c n b) l σ H):=by
  rintro e oe p hO a s σ H l I'⟨k,b,hC,h1,j,h3,h4⟩;subst hC;have:=hh k b h1;rw[zero_add]at this;rcases this with z|⟨_,z⟩;.exact absurd z j
  .exact z e oe hO a s σ H l I' ⟨h3,h4⟩
 refine Pn (E:=EW cl W) (th:=λp e l σ H=>∃k b,p=cl k/\hs[k]?=some b/\b≠[.bad]/\Gd i e σ/\tN X.K (eO c n b) l σ H) hg O o M qJ hN hi hk Y Z hd a s σ H D I ⟨?_,λσ' e' p H' J⟨k,hC,hk'⟩=>?_⟩
 . rw[ex]at e;split at e;.rename_i ac u z;cases e;exact .inl ⟨F,ρ,fl,t,g,z,q⟩
   . split at e
     . rename_i k u z;split at e
       . rename_i L;split at e
         . rename_i ae G;split at e
           . rename_i z3;cases e;refine .inr ⟨F,ρ,k,u,g,z,λF' af H' st=>?_⟩;rw[<-hW];obtain⟨b,h1,j⟩:=Dw G;refine⟨b,h1,λv=>?_,λσ' e' J=>?_⟩;.subst v;replace j:=DW j;rw[ex]at j;cases j
             .have c1:=st.clear L (σ':=σ'.set i (some (V.ref e'))) (by simpa using J);exact⟨F',_,t,c1.gs,j,λF2 ag H2 s2=>q F2 _ H2 ((c1.trans s2).forget z3)⟩
           .cases e
         .cases e
       .cases e
     .cases e
 . cases hC;rw[<-hW]at hk';obtain⟨b,h1,j,h3⟩:=hk';have L:=hh k b h1;rw[zero_add]at L;have B:σ'.length=ρ.length:=by rw[J,<-I.len,g.len]
   refine⟨L.elim (λz=>absurd z j) λz=>z.1,k,b,rfl,h1,j,?_,h3 σ' e' B⟩;exact getElem?_set_self (by rw[J];exact U)
end
section
variable{X:Cx}{c:Call}{n:Nat}{W:Nat->Hp->Prop}{e:Expr}{pos:Pos}
theorem sr{cl:Nat->Addr}{kk j np:Nat}{cpos:Pos}{ps:List P}(l:X.ex=[])(v:vN X (EW cl W))(x:fu X.prog X.w X.K X.mg X.base cl kk c j y np)(hr:gM kk X.A)(z:SG X c (e::es) ps)(B:Gl X y:=by rfl)(C:(e::es).length=np:=by rfl)(m:(y==("__debug__":Str))=false:=by rfl)(he:starEach (e::es) X.env=(false,eval e X.env)::starEach es X.env:=by exact aR rfl)(hpl:(backTo cpos (starEach es X.env)).any (·.1)=false:=by rfl)(o:ps.length=(e::es).length:=by rfl):∃te:TE,PE X (.Call (.Name y p') (e::es) [] cpos) te/\∀σ H Q,(∃F ρ k b,GS X.K F ρ σ H/\ji c (.call j ps) ρ=some (k,b)/\∀F' σ' H',aC X.K F ρ σ H F' b σ' H'->W k H')->te σ H Q:=by
 obtain⟨U,fd,t,h1,G,I,J,L⟩:=x.ex;have M:=qR (p:=p') (pos:=cpos) (E:=EW cl W) h1 hr B G I J .nil (Q5 l v) z m he hpl;refine⟨_,M,?_⟩;rintro σ H Q⟨F,ρ,k,b,g,a,q⟩;unfold ji mL at a;dsimp only at a;split at a
 . rename_i xs r u;split at a
   . rename_i args h;split at a
     . rename_i Y f hc;cases a;refine⟨F,ρ,xs,r,g,u,λvs F1 N s1 A=>?_⟩;have i:vs.length=t.length:=by rw[<-A.len,Dy u,o,C,L]
       show Ma X.K cl t.length (c j) (vs++[]) N _ (EW cl W);rw[append_nil];refine⟨i,F1,args,k,f,args_gs s1.gs A h,hc,λF' σ' H' Z s=>⟨k,rfl,?_⟩⟩;obtain⟨O,_⟩:=uq s1 A h s;exact q F' σ H' O
     .cases a
   .cases a
 .cases a
theorem tR{cl:Nat->Addr}{kk h np:Nat}{cpos:Pos}{ps:List P}(a:X.ex=[])(i:vN X (EW cl W))(j:fu X.prog X.w X.K X.mg X.base cl kk c h y np)(hr:gM kk X.A)(l:SG X c (e::es) ps)(m:Gl X y:=by rfl)(o:(e::es).length=np:=by rfl)(b:(y==("__debug__":Str))=false:=by rfl)(he:starEach (e::es) X.env=(false,eval e X.env)::starEach es X.env:=by exact aR rfl)(hpl:(backTo cpos (starEach es X.env)).any (·.1)=false:=by rfl)(f:ps.length=(e::es).length:=by rfl)(hs:swapsWith (.Call (.Name y p') (e::es) [] cpos) none pos.line X.env=pure false:=by rfl):Rh X c n W (.Expr (.Call (.Name y p') (e::es) [] cpos) pos) (.expr (.call h ps)):=by obtain⟨te,h1,p⟩:=sr (p':=p') (cpos:=cpos) a i j hr l m o b he hpl f;exact cz (nZ h1 hs) λD σ H⟨F,ρ,k,ρ',g,e0,q⟩=>p σ H _ ⟨F,ρ,k,ρ',g,(by rw[zy]at e0;exact e0),q⟩
theorem yI{cl:Nat->Addr}{kk i o np:Nat}{x:Str}{b cpos f a:Pos}{ps:List P}{z:Int}{ik}(h:X.ex=[])(p:vN X (EW cl W))(r:fu X.prog X.w X.K X.mg X.base cl kk c o y np)(hr:gM kk X.A)(s:X.N.Nodup)(hi:X.N[i]?=some x)(t:Loc X.env.scope x)(u:SG X c (e::es) ps)(v:Gl X y:=by rfl)(B:(e::es).length=np:=by rfl)(j:(y==("__debug__":Str))=false:=by rfl)(he:starEach (e::es) X.env=(false,eval e X.env)::starEach es X.env:=by exact aR rfl)(hpl:(backTo cpos (starEach es X.env)).any (·.1)=false:=by rfl)(l:ps.length=(e::es).length:=by rfl)(m:qP (.Constant (.int z) ik a):=by intro _ _;rfl)(hs:swapsWith (.Subscript (.Call (.Name y p') (e::es) [] cpos) (.Constant (.int z) ik a) f) (some (.Name x b)) pos.line X.env=pure false:=by rfl)(C:X.fn x=true\/X.env.scope.names.lookup x=some .local:=by first|(left;rfl)|(right;rfl)|assumption):Rh X c n W (.Assign [.Name x b] (.Subscript (.Call (.Name y p') (e::es) [] cpos) (.Constant (.int z) ik a) f) pos) (.asg i (.idx (.call o ps) (.con (.int z)))):=by obtain⟨te,h1,E⟩:=sr (p':=p') (cpos:=cpos) h p r hr u v B j he hpl l;exact cz (mV s hi t (KN ZG h1 wN m) hs C) λD σ H⟨F,ρ,k,ρ',g,e0,q⟩=>E σ H _ ⟨F,ρ,k,ρ',g,(by rw[zy]at e0;exact e0),q⟩
end
end _H
namespace _H
open PySem _L Spec PyProof.Rows
theorem iI{C:Addr}:∀u,RelV (V.ref C) u->u=Value.ref C:=λ_ r=>r
theorem K9{n:String}:∀u,RelV (V.ty n) u->u=Value.type n:=λ_ r=>r
theorem BK:∀a,Vals [] a->a=[]:=λa h=>h.zero
theorem jd{c:V}{b:Value}{cs:List V}{e:List Value}(h:∀u,RelV c u->u=b)(f:∀a,Vals cs a->a=e):∀a,Vals (c::cs) a->a=b::e:=λa v=>by cases v with|cons r g=>rw[h _ r,f _ g]
theorem Hz{K:PySem.W.Frag}{t:Value}:PySem.W.kitAny K t []=some false:=rfl
theorem Vn{K:PySem.W.Frag}{t c:Value}{r:List Value}(h:kitOne K t c=some true):PySem.W.kitAny K t (c::r)=some true:=by rw[PySem.W.kitAny,h]
theorem wK{K:PySem.W.Frag}{t c:Value}{r:List Value}{b:Bool}(h:kitOne K t c=some false)(a:PySem.W.kitAny K t r=some b):PySem.W.kitAny K t (c::r)=some b:=by rw[PySem.W.kitAny,h];exact a
theorem xF{X:Cx}{E:XK}{cl:Nat->Addr}{W:Nat->Hp->Prop}(h:vN X E)(b:∀k H,W k H->∀e,E (.ref e) (some (cl k)) H):vN X (EW cl W):=λa σ H s C e I f o⟨k,hC,hw⟩=>h a σ H s C e I f o (by cases hC;exact b k H hw e)
section
variable{K:PySem.W.Frag}{x y:Str}{C C2:Addr}{b:Bool}{T:String}
noncomputable def fj(K:PySem.W.Frag)(x:Str)(C:Addr):Prop:=PySem.W.nsIn K mainGlobals x=some (some (.ref C))
theorem fj.uniq(h:fj K x C)(a:fj K x C2):C=C2:=by have:=h.symm.trans a;cases this;rfl
theorem Jw(a:PySem.W.nsIn K mainGlobals x=some (some (.ref C))):∃C,fj K x C:=⟨C,a⟩
theorem Mr(h:∃C,tQ K x C)(n:fj K x C):tQ K x C:=by obtain⟨a,z⟩:=h;have e:a=C:=fj.uniq z.nm n;subst e;exact z
theorem ZK(a:PySem.W.nsIn K mainGlobals x=some (some (.ref C)))(g:PySem.W.findIn K (.ref C) "__getattribute__"=some (some (.builtin "BaseException.__getattribute__")))(h:PySem.W.findIn K (.ref C) "__getattr__"=some none)(c:PySem.W.mroIn K C (.type "BaseException")=some true)(f:PySem.W.findIn K (.ref C) "__class__"=some (some (.builtin "object.__class__")))(n:PySem.W.specialIn K (.builtin "object.__class__") "__get__"=some (some (.builtin "getset_descriptor.__get__")))(t:PySem.W.takesIn K (.builtin "object.__class__")=some true)(m:PySem.W.mroIn K C (.type "object")=some true):∃C,fj K x C/\Fg K C:=by refine⟨C,a,g,h,c,?_,f,n,t,m⟩;unfold PySem.W.mroIn at m;obtain⟨e,hc,_⟩:=bind_eq_some_iff.mp m;rw[hc];rfl
theorem ZR(h:∃C,fj K x C/\Fg K C)(n:fj K x C):Fg K C:=by obtain⟨a,z,q⟩:=h;have e:a=C:=fj.uniq z n;subst e;exact q
theorem aas(a:PySem.W.nsIn K mainGlobals x=some (some (.ref C)))(c:PySem.W.nsIn K mainGlobals y=some (some (.ref C2)))(m:PySem.W.mroIn K C (.ref C2)=some true):∃C C2,fj K x C/\fj K y C2/\PySem.W.mroIn K C (.ref C2)=some true:=⟨C,C2,a,c,m⟩
theorem Z2(h:∃C C2,fj K x C/\fj K y C2/\PySem.W.mroIn K C (.ref C2)=some true)(n:fj K x C)(c:fj K y C2):PySem.W.mroIn K C (.ref C2)=some true:=by obtain⟨f,a,z,g,q⟩:=h;have e:f=C:=fj.uniq z n;have i:a=C2:=fj.uniq g c;subst e i;exact q
theorem yX(a:PySem.W.nsIn K mainGlobals x=some (some (.ref C)))(c:PySem.W.nsIn K mainGlobals y=some (some (.ref C2)))(m:kitOne K (.ref C) (.ref C2)=some b):∃C C2,fj K x C/\fj K y C2/\kitOne K (.ref C) (.ref C2)=some b:=⟨C,C2,a,c,m⟩
theorem yZ(h:∃C C2,fj K x C/\fj K y C2/\kitOne K (.ref C) (.ref C2)=some b)(n:fj K x C)(c:fj K y C2):kitOne K (.ref C) (.ref C2)=some b:=by obtain⟨f,a,z,g,q⟩:=h;have e:f=C:=fj.uniq z n;have i:a=C2:=fj.uniq g c;subst e i;exact q
theorem Ze(a:PySem.W.nsIn K mainGlobals x=some (some (.ref C)))(m:kitOne K (.ref C) (.type T)=some b):∃C,fj K x C/\kitOne K (.ref C) (.type T)=some b:=⟨C,a,m⟩
theorem Yu(h:∃C,fj K x C/\kitOne K (.ref C) (.type T)=some b)(n:fj K x C):kitOne K (.ref C) (.type T)=some b:=by obtain⟨a,z,q⟩:=h;have e:a=C:=fj.uniq z n;subst e;exact q
end
end _H
namespace PySem
namespace F
theorem K6:typeLookup (.type "list_reverseiterator") "__len__"=pure none:=by rw[typeLookup_type,builtinLookup_eq_fast];kernel_rfl
theorem My:typeLookup (.type "list_reverseiterator") "__length_hint__"=pure (some (.builtin "list_reverseiterator.__length_hint__")):=by rw[typeLookup_type,builtinLookup_eq_fast];kernel_rfl
end F
section
variable{prog:Program}{w:World}{A:Around}{E:Value->Shared->Prop}{s:Shared}
theorem qH{it l:Addr}{items:Array Value}{Q:Bool->Shared->Prop}(e:s.heap.IsRevIter it l ((items.size:Int)-1))(m:s.heap.IsList l items)(i:items.size<=2^24)(h:∀b j,s.toks<=j->Q b {s with toks:=j}):wpAny (model prog w) A (listLengthHint (.ref it)) Q E s:=by
 have f:=e.typeIs;unfold listLengthHint;refine wpAny_bind (wpAny_specialOf f F.K6 ?_);show wpAny _ _ (specialOf (Value.ref it) (Str.ofString "__length_hint__")>>=_) _ _ _;refine wpAny_bind (wpAny_specialOf f F.My ?_);generalize a:("list_reverseiterator.__length_hint__":String)=c;(fail_if_success(clear a c));wp_delta;rw[show splitId c=some ("list_reverseiterator","__length_hint__")from by subst a;decide+kernel];subst a;refine wpAny_bind (wpAny_isInstance (b:=true) f (by rw[isSubtype_type];kernel_rfl) ?_);rw[if_neg (by decide)];dsimp only;split;.refine wpAny_ite_split (λg=>absurd g (by decide+kernel)) (λ_=>?_);exact wpAny_pure (h _ s.toks (eG))
 .rename_i k;exact absurd (by decide+kernel) k
theorem nQ{R:Result->Shared->Prop}{I l:Addr}{items:Array Value}(Q:A.handled=none)(j:s.heap.IsRevIter I l ((items.size:Int)-1))(G:s.heap.IsList l items)(H:l≠I)(u:items.size<=2^24)(S:Addr)(m:S≠I)(x:S≠l)(res:Value)(k:Nat)(J:s.heap.get? S=some {cls:=.type "list",data:=.seq #[] k})(U:∀ h' y a t,(∀ b o,b ≠ S->b ≠ I->s.heap.get? b=some o->h'.get? b=some o)->h'.get? S=some {cls:=.type "list",dict:=none,data:=.seq a t,slots:=#[]}->ItemsOf (λi v=>items[items.size-1-i]?=some v) a items.size->R (.ok (.ret res)) {s with heap:=h',toks:=y}):wpAny (model prog w) A.in1 (listExtendWith (.ref S) (.ref I) res) (λfin n=>match fin with|.done f=>R (.ok f) n|.again t=>t.quiet=true/\codeAny (model prog w) A t R n) (λe n=>R (.error e) n) s:=by
 have L:S∉[I,l]:=λhm=>by
  rcases mem_cons.mp hm with e|hm;.exact m e
  .exact x (mem_singleton.mp hm)
 have W:=(Walks.listRev (prog:=prog) (w:=w) (A:=A.in1) Q I l H items).toS;have X:s.TypeIs (.ref I) "list_reverseiterator":=j.typeIs;have key:∀(h:Heap)(c y:Nat),h.IsRevIter I l ((items.size:Int)-1-((0:Nat):Int))->h.IsList l items->(∀b o,b≠S->s.heap.get? b=some o->h.get? b=some o)->h.get? S=some {cls:=.type "list",data:=.seq #[] c}->codeAny (model prog w) A (.builtin "list.extend.loop" ⟨[.ref S,.ref I,res],[]⟩) R {s with heap:=h,toks:=y}:=by
  intro h c y hi M Y p;refine codeAny_extend_loopS W (by rw[sizeLine_eq];omega) S L res items.size 0 _ #[] c rfl (wB) ⟨wB,hi,M⟩ p (ItemsOf.nil _) λn a t hm N z=>?_;rw[Moved.eq_with hm];refine U n.heap n.toks a t (λb o B O e=>hm.heap b o (λhmem=>?_) (Y b o B e)) N z;rcases mem_cons.mp hmem with Z|hmem;.exact B Z
  .exact O (mem_singleton.mp hmem)
 unfold listExtendWith;refine wpAny_bind (wpAny_typeOf X ?_);have h1:listSameRef (.ref S) (.ref I)=false:=by simp[listSameRef,m]
 have h2:(Value.type "list_reverseiterator"==Value.type "list")=false:=by decide
 have h3:(Value.type "list_reverseiterator"==Value.type "tuple")=false:=by decide
 simp only[h1,h2,h3,Bool.or_false,false_eq_true,if_false];refine wpAny_bind (wpAny_pyIter_revIter j ?_);refine wpAny_bind (wpAny_holding (qH j G u λbb y ac=>?_));have C:s.heap.IsRevIter I l ((items.size:Int)-1-((0:Nat):Int)):=by simpa using j
 refine wpAny_ite_split (λ_=>?_) (λ_=>wpAny_pure ⟨plainId_quiet F.plain_extend_loop _,key _ k _ C G (λb o _ e=>e) J⟩);refine wpAny_bind (wpAny_rule ?_);refine wpAny_bind ?_;show wpAny _ _ (updateSeq S (·.push .none)>>=λ_=>updateSeq S (·.pop)) _ _ _;refine wpAny_bind (wpAny_updateSeq J rfl ?_);have g:=get?_update_self (Obj.mapSeq (·.push Value.none)) J rfl;refine wpAny_updateSeq (hz:=by seq_fits) g rfl ?_;have q:=get?_update_self (Obj.mapSeq (·.pop)) g rfl;have r:∀b o,b≠S->s.heap.get? b=some o->((s.heap.update S (Obj.mapSeq (·.push Value.none))).update S (Obj.mapSeq (·.pop))).get? b=some o:=λb o B e=>(get?_update_other _ _ (Ne.symm B)).trans ((get?_update_other _ _ (Ne.symm B)).trans e);exact wpAny_pure ⟨plainId_quiet F.plain_extend_loop _,key _ _ _ (C.at λo e=>r I o (Ne.symm m) e) (G.at λo e=>r l o (Ne.symm x) e) r q⟩
end
end PySem
namespace _H
open PySem
theorem ni:∀a b:List Int,bC a b=true->bC b a=false
 |[],[],h=>by simp[bC]at h|[],_::_,_=>by simp[bC]|_::_,[],h=>by simp[bC]at h|x::a,y::b,h=>by
   simp only[bC,or_eq_true,decide_eq_true_eq,and_eq_true]at h;simp only[bC,Bool.or_eq_false_iff,decide_eq_false_iff_not,Bool.and_eq_false_iff];rcases h with h|⟨h,h'⟩;.exact⟨by omega,.inl (by omega)⟩
   .exact⟨by omega,.inr (ni a b h')⟩
theorem Ai:∀a b c:List Int,bC b a=false->bC c b=false->bC c a=false
 |[],_,c,_,_=>by cases c<;>simp[bC]|_::_,[],_,h,_=>by simp[bC]at h|_::_,_::_,[],_,h=>by simp[bC]at h|x::a,y::b,z::c,h1,f=>by
   simp only[bC,Bool.or_eq_false_iff,decide_eq_false_iff_not,Bool.and_eq_false_iff]at h1 f ⊢;refine⟨by omega,?_⟩;by_cases e:z=x;.right;exact Ai a b c (h1.2.resolve_left (by omega)) (f.2.resolve_left (by omega))
   .exact .inl e
theorem yw:∀a b:List Int,bC a b=false->bC b a=false->a=b
 |[],[],_,_=>rfl|[],_::_,h,_=>by simp[bC]at h|_::_,[],_,h=>by simp[bC]at h|x::a,y::b,h1,c=>by
   simp only[bC,Bool.or_eq_false_iff,decide_eq_false_iff_not,Bool.and_eq_false_iff]at h1 c;have e:x=y:=by omega
   subst e;rw[yw a b (h1.2.resolve_left (by simp)) (c.2.resolve_left (by simp))]
theorem xV:∀{xs ys:List D},xs.all ir=true->ys.all ir=true->xs.map qt=ys.map qt->xs=ys
 |[],[],_,_,_=>rfl|[],_::_,_,_,h=>by simp at h|_::_,[],_,_,h=>by simp at h|x::xs,y::ys,h1,a,h=>by
   simp only[all_cons,and_eq_true]at h1 a;simp only[map_cons,List.cons.injEq]at h;obtain⟨i,rfl⟩:∃i,x=.int i:=by cases x<;>first|exact⟨_,rfl⟩|(have q:=h1.1;simp[ir]at q;done)
   obtain⟨j,rfl⟩:∃j,y=.int j:=by cases y<;>first|exact⟨_,rfl⟩|(have q:=a.1;simp[ir]at q;done)
   rw[xV h1.2 a.2 h.2,show i=j from h.1]
theorem DP{x y:D}(h:(ir x=true/\ir y=true)\/(yp x=true/\yp y=true))(e:cY x=cY y):x=y:=by
 rcases h with⟨h1,a⟩|⟨h1,a⟩
 . cases x<;>first|(simp[ir]at h1;done)|skip
   cases y<;>first|(simp[ir]at a;done)|skip
   simpa[cY]using e
 . cases x<;>first|(simp[yp]at h1;done)|skip
   cases y<;>first|(simp[yp]at a;done)|skip
   rename_i xs ys;cases xs<;>first|(simp[yp]at h1;done)|skip
   cases ys<;>first|(simp[yp]at a;done)|skip
   rw[xV h1 a e]
noncomputable def n6(a b:D):Bool:=!bC (cY b) (cY a)
theorem yd(a:List D):(RB a).Perm a:=List.mergeSort_perm ..
theorem P0(a b c:D)(h1:n6 a b=true)(e:n6 b c=true):n6 a c=true:=by simp only[n6,not_eq_true']at*;exact Ai _ _ _ h1 e
theorem JV(a b:D):(n6 a b||n6 b a)=true:=by simp only[n6,or_eq_true,not_eq_true'];cases h:bC (cY b) (cY a)with|false=>exact .inl rfl|true=>exact .inr (ni _ _ h)
theorem zM(c:List D):(RB c).Pairwise λa b=>n6 a b=true:=List.pairwise_mergeSort P0 JV c
theorem wV{a:List D}(h:sortable a=true):∀x∈a,∀y∈a,cY x=cY y->x=y:=by
 simp only[sortable,and_eq_true,or_eq_true,all_eq_true]at h;intro x b y c e;rcases h.2 with h|h;.exact DP (.inl ⟨h x b,h y c⟩) e
 .exact DP (.inr ⟨h x b,h y c⟩) e
theorem rZ{c l:List D}(h:sortable c=true)(p:l.Perm c)(s:l.Pairwise λa b=>n6 a b=true):l=RB c:=by refine List.Perm.eq_of_pairwise (le:=λa b=>n6 a b=true) (λa b f g h1 e=>?_) s (zM c) (p.trans (yd c).symm);simp only[n6,not_eq_true']at h1 e;exact wV h a (p.mem_iff.mp f) b ((yd c).mem_iff.mp g) (yw _ _ e h1)
end _H
namespace _H
open PySem PyProof.Rows
variable{xs:Array Keyed}{i:Nat}
structure Rk(M:Model)(A:Around)(E:Value->Shared->Prop)(s:Shared)(κ:SortKind)(ok:Keyed->Prop)(K:Keyed->Int):Prop where lt:∀{x y:Keyed}{Q:Option Bool->SortSt->Prop}{st:SortSt},ok x->ok y->kindOf st=κ->Q (some (decide (K x<K y))) st->wpS M A E s (lt' x y) Q st
section
variable{M:Model}{A:Around}{E:Value->Shared->Prop}{s:Shared}{κ:SortKind}{ok:Keyed->Prop}{K:Keyed->Int}
noncomputable def it(xs:Array Keyed)(i:Nat):Keyed:=xs.getD i (Value.none,Value.none)
theorem O3(h:i<xs.size):xs[i]?=some (it xs i):=by unfold it;simp[Array.getD,h]
theorem Hx(h:i<xs.size):it xs i∈xs.toList:=by
 have:it xs i=xs[i]:=by unfold it;simp[Array.getD,h]
 rw[this];simp
theorem Dj{Q:Keyed->SortSt->Prop}{st:SortSt}(h:i<xs.size)(q:Q (it xs i) st):wpS M A E s (elem' xs i) Q st:=by rw[elem'_eq,O3 h];exact wpS_pure q
end
section
variable{K:Keyed->Int}
noncomputable def Seg(K:Keyed->Int)(xs:Array Keyed)(lo hi:Nat):Prop:=∀i j,lo<=i->i<=j->j<hi->K (it xs i)<=K (it xs j)
theorem Pr:it xs i=xs.toList.getD i (Value.none,Value.none):=by
 unfold it;by_cases h:i<xs.size;.simp[Array.getD,h]
 .simp[Array.getD,h]
end
section
variable{M:Model}{A:Around}{E:Value->Shared->Prop}{s:Shared}{κ:SortKind}{ok:Keyed->Prop}{K:Keyed->Int}
structure Sx(κ:SortKind)(ok:Keyed->Prop)(st:SortSt)(xs:Array Keyed)(st':SortSt):Prop where
 kind:kindOf st'=κ
 arr:arrOf st'=xs
 pend:pendingOf st'=pendingOf st
 fail:failedOf st'=none
 ok:∀x∈xs.toList,ok x
theorem NZ(R:Rk M A E s κ ok K){st a:SortSt}{j:Nat}{Q:Option Bool->SortSt->Prop}(h:Sx κ ok st xs a)(hi:i<xs.size)(b:j<xs.size)(q:Q (some (decide (K (it xs i)<K (it xs j)))) a):wpS M A E s (ltAt' i j) Q a:=by rw[ltAt'_eq];refine wpS_bind (wpS_get ?_);show wpS M A E s (elem' (arrOf a) i>>=λx=>elem' (arrOf a) j>>=λy=>lt' x y) Q a;rw[h.arr];exact wpS_bind (Dj hi (wpS_bind (Dj b (R.lt (h.ok _ (Hx hi)) (h.ok _ (Hx b)) h.kind q))))
theorem Sv(R:Rk M A E s κ ok K){st g:SortSt}{lo a n:Nat}{Q:Option (Option Nat)×Nat->SortSt->Prop}(h:Sx κ ok st xs g)(u:lo+n<=xs.size)(v:1<=a)(l:a<=n)(hs:Seg K xs lo (lo+a))(q:∀m,a<=m->m<=n->Seg K xs lo (lo+m)->(m=n\/K (it xs (lo+m))<K (it xs (lo+m-1)))->Q (none,m) g):wpS M A E s (forIn [a:n] ((none,a):Option (Option Nat)×Nat) λ_ c=>ltAt' (lo+c.2) (lo+c.2-1)>>=λo=>match o with|some b=>if b=true then pure (.done (none,c.2))else pure (.yield (none,c.2+1))|_=>pure (.done (some none,c.2))) Q g:=by
 refine wpS_forRange (I:=λx c k=>k=g/\c=(none,x)/\Seg K xs lo (lo+x)) ?_ ?_ ⟨rfl,rfl,hs⟩
 . rintro x c k h1 w⟨rfl,rfl,f⟩;try dsimp only
   refine wpS_bind (NZ R h (by omega) (by omega) ?_);by_cases c:K (it xs (lo+x))<K (it xs (lo+x-1))
   . rw[decide_eq_true c];try dsimp only
     rw[if_pos rfl];exact wpS_pure (q x h1 (by omega) f (.inr c))
   . rw[decide_eq_false c];try dsimp only
     rw[if_neg (by simp)];refine wpS_pure ⟨rfl,rfl,λi j p r y=>?_⟩;by_cases t:j<lo+x;.exact f i j p r t
     . have:j=lo+x:=by omega
       subst this;by_cases e:i=lo+x;.rw[e];exact Int.le_refl _
       .have:=f i (lo+x-1) p (by omega) (by omega);omega
 .rintro c k⟨rfl,rfl,f⟩;rw[show max a n=n by omega]at f ⊢;exact q n l (eG) f (.inl rfl)
end
noncomputable abbrev Rn:=Nat×Nat×Nat
section
variable{K:Keyed->Int}{xs ys:Array Keyed}
noncomputable def Z4(K:Keyed->Int)(xs:Array Keyed):Nat->List Rn->Nat->Prop|a,[],b=>a=b|a,r::l,b=>r.1=a/\1<=r.2.1/\Seg K xs a (a+r.2.1)/\Z4 K xs (a+r.2.1) l b
theorem vV:∀{l k:List Rn}{a b:Nat},Z4 K xs a (l++k) b↔∃m,Z4 K xs a l m/\Z4 K xs m k b
 |[],k,a,b=>⟨λh=>⟨a,rfl,h⟩,λ⟨m,h1,c⟩=>by cases(show a=m from h1);exact c⟩|r::l,k,a,b=>by
   rw[cons_append];constructor;.rintro⟨h1,c,e,f⟩;obtain⟨m,g,j⟩:=vV.mp f;exact⟨m,⟨h1,c,e,g⟩,j⟩
   .rintro⟨m,⟨h1,c,e,f⟩,g⟩;exact⟨h1,c,e,vV.mpr ⟨m,f,g⟩⟩
end
section
variable{M:Model}{A:Around}{E:Value->Shared->Prop}{s:Shared}{κ:SortKind}{ok:Keyed->Prop}{K:Keyed->Int}
structure SR(κ:SortKind)(ok:Keyed->Prop)(K:Keyed->Int)(x0 ys:Array Keyed)(l:List Rn)(lo:Nat)(st:SortSt):Prop where
 kind:kindOf st=κ
 arr:arrOf st=ys
 fail:failedOf st=none
 pend:(pendingOf st).toList=l
 perm:ys.toList.Perm x0.toList
 ok:∀x∈ys.toList,ok x
 rns:Z4 K ys 0 l lo
 le:lo<=ys.size
theorem SR.sx{x0 ys:Array Keyed}{l:List Rn}{lo:Nat}{st:SortSt}(h:SR κ ok K x0 ys l lo st):Sx κ ok st ys st:=⟨h.kind,h.arr,rfl,h.fail,h.ok⟩
end
end _H
namespace _H
open PySem W PyProof.Rows Calls _L Spec
theorem M6(a:List Int):bC a a=false:=by cases h:bC a a with|false=>rfl|true=>rw[ni _ _ h]at h;cases h
theorem Ij{a b x:List Int}(h:bC b a=false)(c:bC x a=true):bC x b=true:=by cases e:bC x b with|true=>rfl|false=>rw[Ai _ _ _ h e]at c;cases c
theorem vL{a:Type}{p q:a->Bool}(h:∀x,p x=true->q x=true):∀{l:List a},(∃x,x∈l/\q x=true/\p x=false)->l.countP p<l.countP q
 |[],⟨x,hx,_⟩=>by cases hx|y::l,⟨x,hx,h1,b⟩=>by
   rw[List.countP_cons,List.countP_cons];have m:=List.countP_mono_left (l:=l) (p:=p) (q:=q) λx _=>h x;rcases mem_cons.mp hx with rfl|hx;.rw[h1,b,if_pos rfl,if_neg (by simp)];omega
   .have:=vL h ⟨x,hx,h1,b⟩;cases hp:p y with|true=>rw[h y hp];omega|false=>rw[if_neg (by simp)];omega
noncomputable def VP(a:List D)(d:D):Nat:=a.countP λe=>bC (cY e) (cY d)
theorem G7{a:List D}{d e:D}(hd:d∈a):decide ((VP a d:Int)<VP a e)=bC (cY d) (cY e):=by cases h:bC (cY d) (cY e)with|true=>have:=vL (l:=a) (p:=λx=>bC (cY x) (cY d)) (q:=λx=>bC (cY x) (cY e)) (λx b=>Ij (ni _ _ h) b) ⟨d,hd,h,M6 _⟩;rw[decide_eq_true_iff];unfold VP;omega|false=>have:=List.countP_mono_left (l:=a) (p:=λx=>bC (cY x) (cY e)) (q:=λx=>bC (cY x) (cY d)) λx _ b=>Ij h b;rw[decide_eq_false_iff_not];unfold VP;omega
open Classical in
noncomputable def rkK(P:Value->D->Prop)(a:List D)(x:Keyed):Int:=if h:∃d,d∈a/\P x.1 d then(VP a h.choose:Int)else 0
theorem Dh{P:Value->D->Prop}{a:List D}{x:Keyed}{d:D}(fn:∀u d e,P u d->P u e->cY d=cY e)(hd:d∈a)(b:P x.1 d):rkK P a x=VP a d:=by have h:∃d,d∈a/\P x.1 d:=⟨d,hd,b⟩;unfold rkK;rw[dif_pos h];unfold VP;rw[fn _ _ _ h.choose_spec.2 b]
noncomputable def pick{a:Type}(d:a)(p:List Nat)(l:List a):List a:=p.map λi=>l.getD i d
theorem oF{a:Type}(d:a)(l:List a):pick d (List.range l.length) l=l:=by refine ext_getElem (by simp[pick]) λi h1 b=>?_;simp[pick,b]
theorem rT{a:Type}{d:a}{p:List Nat}{l:List a}{n:Nat}(h:p.Perm (List.range n)):(pick d p l).length=n:=by rw[pick,length_map,h.length_eq,length_range]
theorem lQ{P:Value->D->Prop}:∀{b:List Value}{a:List D},Paired P b a->∀i,i<b.length->P (b.getD i .none) (a.getD i .non)/\a.getD i .non∈a|_,_,.cons r _,0,_=>⟨by simpa using r,by simp⟩|_,_,.cons _ t,i+1,hi=>by have:=lQ t i (by simpa using hi);exact⟨by simpa using this.1,by simpa using Or.inr this.2⟩
end _H
namespace _H
open PySem _L Spec PyProof.Rows Calls W
section
variable{prog:Program}{w:World}{A:Around}{E:Value->Shared->Prop}{s:Shared}{vs:List Value}{κ:SortKind}{P:Value->D->Prop}{ds:List D}
theorem pZ{b fin:Bool}{Q:Bool->Shared->Prop}:∀{xs ys:List Value}{is js:List Int}{i:Nat},IntsAre xs is->IntsAre ys js->fin=decide (is.length<js.length)->Q (bC is js) s->KatLex prog w A b fin Q (xs.zip ys) i s
 |_,_,_,_,_,.nil,.nil,e,h=>by subst e;exact kat_nil (by simpa[bC]using h)|_,_,_,_,_,.nil,.cons _ _ _,e,h=>by subst e;exact kat_nil (by simpa[bC]using h)|_,_,_,_,_,.cons _ _ _,.nil,e,h=>by subst e;exact kat_nil (by simpa[bC]using h)|_,_,_,_,i,.cons (ns:=is) x t r,.cons (ns:=js) y u r',e,h=>by
   refine kat_cons (wpAny_eqBool_int ?_);by_cases q:x=y;.subst q;rw[beq_self_eq_true];refine kat_yes (pZ r r' (by rw[e];simp) ?_);simpa[bC]using h
   . rw[beq_eq_false_iff_ne.mpr q];refine kat_no ?_;have a:Q (decide (x<y)) s:=by simpa[bC,q]using h
     cases(b&&i==0)with|true=>exact oneLt_int a|false=>exact kat_one _ _ (wpAny_lt_int a)
noncomputable def qz(h:Heap)(u:Value)(d:D):Prop:=∃a b is,u=.ref a/\IsTup h a (toArray b)/\IntsAre b is/\is≠[]/\cY d=is
theorem pG{h h':Heap}(k:∀b o,h.get? b=some o->h'.get? b=some o){u:Value}{d:D}(t:qz h u d):qz h' u d:=by obtain⟨a,c,is,e,⟨o,h1,f⟩,g⟩:=t;exact⟨a,c,is,e,⟨o,k _ _ h1,f⟩,g⟩
theorem u6{h h':Heap}(k:∀b o,h.get? b=some o->h'.get? b=some o):∀{a:List Value}{ds:List D},Paired (qz h) a ds->Paired (qz h') a ds|_,_,.nil=>.nil|_,_,.cons r t=>.cons (pG k r) (u6 k t)
theorem qm{h:Heap}:∀{b:List Value}{ds:List D},Paired (qz h) b ds->∃fs,KatTups h b fs/\fs.length=b.length/\∀f∈fs,∃n t,f=Value.int n t|_,_,.nil=>⟨[],trivial,rfl,by simp⟩|_,_,.cons r t=>by obtain⟨fs,h1,e,g⟩:=qm t;obtain⟨a,i,is,rfl,⟨o,j,k,n,l⟩,hi,c,_⟩:=r;cases hi with|nil=>exact absurd rfl c|cons x m p=>
     refine⟨.int x m::fs,KatTups.cons j k l (by simp) h1,by simp[e],λf hf=>?_⟩;rcases mem_cons.mp hf with rfl|hf;.exact⟨_,_,rfl⟩
     .exact g f hf
theorem Fw{ds:List D}(t:Paired (qz s.heap) vs ds)(e:2<=vs.length){C:SortKind->Shared->Prop}(a:C (tuples' (Value.type "int"!=Value.type "tuple")) s):wpAny (model prog w) A (keyKind' vs.toArray) C E s:=by obtain⟨fs,h1,f,b⟩:=qm t;refine kat_kind (T:=.type "int") h1 (by omega) (λv c=>?_) rfl a;obtain⟨n,t,rfl⟩:=b v c;exact Looks.now
theorem Ob{x y:Value}{d e:D}(h:qz s.heap x d)(i:qz s.heap y e){b:Bool}{C:Bool->Shared->Prop}(c:C (bC (cY d) (cY e)) s):wpAny (model prog w) A (keyLt' (tuples' b) x y) C E s:=by obtain⟨a,j,is,rfl,⟨o,k,u,n,l⟩,hi,m,p⟩:=h;obtain⟨v,its',js,rfl,⟨z,q,B,G,r⟩,f,g,t⟩:=i;refine kat_lt k l q r ?_;rw[p,t]at c;refine pZ (is:=is) (js:=js) (by simpa using hi) (by simpa using f) ?_ c;rw[size_toArray,size_toArray,IntsAre.length hi,IntsAre.length f]
end
theorem Eu{xs:List V}{a:List Value}(h:Vals xs a)(i:Nat):RelV (xs.getD i .non) (a.getD i .none):=by
 have f:=h.length;by_cases hi:i<xs.length
 . obtain⟨u,e,r⟩:=h.get (i:=i) (x:=xs[i]) (List.getElem?_eq_getElem hi);have b:xs.getD i .non=xs[i]:=by simp[hi]
   have c:a.getD i .none=u:=by simp[e]
   rw[b,c];exact r
 . have b:xs.getD i .non=.non:=by simp[Nat.le_of_not_lt hi]
   have c:a.getD i .none=.none:=by simp[show a.length<=i by omega]
   rw[b,c];rfl
theorem yQ{f:Nat->V}{g:Nat->Value}(h:∀i,RelV (f i) (g i)):∀l:List Nat,Vals (l.map f) (l.map g)|[]=>.nil|i::l=>.cons (h i) (yQ h l)
theorem G9{p:List Nat}{xs:List V}{a:List Value}(h:Vals xs a):Vals (pick .non p xs) (pick .none p a):=yQ (Eu h) _
theorem yC{K:PySem.W.Frag}{F:Hp}{f:Nat->V}{g:Nat->D}(h:∀i,Rep K F (f i) (g i)):∀l:List Nat,aH K F (l.map f) (l.map g)|[]=>.nil|i::l=>.cons (h i) (yC h l)
theorem J0{K:PySem.W.Frag}{F:Hp}{p:List Nat}{xs:List V}{a:List D}(h:aH K F xs a):aH K F (pick .non p xs) (pick .non p a):=yC (λi=>by
 have f:=h.length;by_cases hi:i<a.length
 . obtain⟨u,e,r⟩:=h.get (i:=i) (d:=a[i]) (List.getElem?_eq_getElem hi);have b:a.getD i .non=a[i]:=by simp[hi]
   have c:xs.getD i .non=u:=by simp[e]
   rw[b,c];exact r
 . have b:a.getD i .non=.non:=by simp[Nat.le_of_not_lt hi]
   have c:xs.getD i .non=.non:=by simp[show xs.length<=i by omega]
   rw[b,c,Rep]) _
theorem Hy{a:List Value}:∀{ns b:List Int},IntsAre a ns->IntsAre a b->ns=b:=by induction a with|nil=>intro ns b h1 c;cases h1;cases c;rfl|cons u a e=>intro ns b h1 c;cases h1 with|cons n t r=>cases c with|cons m t' f=>rw[e r f]
theorem Qf{h:Heap}(u:Value)(d e:D):qz h u d->qz h u e->cY d=cY e:=λ⟨a,i,is,h1,⟨o,j,t,n,k⟩,l,_,p⟩⟨b,q,js,c,⟨v,f,w,m,g⟩,r,_,s⟩=>by rw[h1]at c;cases c;rw[j]at f;cases f;rw[k]at g;cases g;rw[p,s,Hy l r]
theorem all_ints:∀{a:List D},a.all ir=true->a=(a.map qt).map D.int
 |[],_=>rfl|d::a,h=>by
   simp only[all_cons,and_eq_true]at h;cases d<;>first|(have q:=h.1;simp[ir]at q;done)|skip
   rw[map_cons,map_cons,<-all_ints h.2];rfl
theorem intsAre_of:∀{ns:List Int}{a:List Value},Vals (ns.map V.int) a->IntsAre a ns|[],_,.nil=>.nil|n::ns,_,.cons r t=>by obtain⟨b,rfl⟩:=r;exact .cons n b (intsAre_of t)
section
variable{X:Cx}{c:Call}{a:Expr}{pa:P}{pos:Pos}
theorem boot_sorted:bootBuiltins "sorted"=some (.builtin "sorted"):=by decide+kernel
end
end _H
namespace _H
open PySem _L Spec PyProof.Rows Calls
theorem Aj(l b:Addr)(items a:List Value)(n H:Nat)(dd o:Option Addr)(sl r:Array (Option Value))(is js:List Int)(hi:IntsAre items is)(G:IntsAre a js):Meets (Builtin.«tuple.__lt__» ⟨[.ref l,.ref b],[]⟩) (λA R s=>s.heap.get? l=some {cls:=.type "tuple",dict:=dd,data:=.seq items.toArray n,slots:=sl}/\s.heap.get? b=some {cls:=.type "tuple",dict:=o,data:=.seq a.toArray H,slots:=r}/\R (.ok (.ret (.bool (bC is js)))) s):=.of_wp λprog w A R s h=>by
  obtain⟨v,g,d,z,os⟩:=s;obtain⟨I,J,h⟩:=h;have f2:=AutoSeq1.sub_tuple_tuple;wp_walk using wpAny_loadPart' I,wpAny_loadPart' J,wpAny_forIn_list _ (λf b B=>b.1=none/\B=⟨v,g,d,z,os⟩/\∃xs ys c j,f=xs.zip ys/\IntsAre xs c/\IntsAre ys j/\decide (items.length<a.length)=decide (c.length<j.length)/\R (.ok (.ret (.bool (bC c j)))) ⟨v,g,d,z,os⟩) _;case turn=>rintro⟨y,x⟩f b B⟨i,rfl,xs,ys,c,j,hz,h1,k,C,m⟩;cases h1 with|nil=>cases hz|cons p t h1=>cases k with|nil=>cases hz|cons q u k=>
       injection hz with hyx hrest;cases hyx;refine wpAny_bind (wpAny_eqBool_int ?_);by_cases e:p=q;.subst e;rw[beq_self_eq_true];wp_walk;exact⟨rfl,rfl,_,_,_,_,hrest,h1,k,by rw[C];simp,by simpa[bC]using m⟩
       . rw[beq_eq_false_iff_ne.mpr e];have E:R (.ok (.ret (.bool (decide (p<q))))) ⟨v,g,d,z,os⟩:=by simpa[bC,e]using m
         simp only[Bool.not_false,if_true];refine wpAny_bind (wpAny_rule ?_);refine wpAny_bind (show wpAny (model prog w) A.in1 (compareOp .Lt (Value.int p t) (Value.int q u)) _ _ _ from wpAny_lt_int ?_);refine wpAny_bind (wpAny_pure ?_);exact wpAny_pure (wpAny_pure ⟨_,rfl,E⟩)
  case fin=>
   rintro⟨b1,b2⟩B⟨i,rfl,xs,ys,c,j,hz,h1,k,C,m⟩;simp only at i;subst i;have e:bC c j=decide (items.length<a.length):=by rw[C];cases h1 with|nil=>cases k<;>simp[bC]|cons _ _ _=>cases k with|nil=>simp[bC]|cons _ _ _=>cases hz
   rw[e]at m;wp_walk;exact⟨_,rfl,by simpa[Builtin.Tuple.tupleCompareSizes]using m⟩
  case h=>exact⟨rfl,rfl,items,a,is,js,by simp,hi,G,by rw[IntsAre.length hi,IntsAre.length G],h⟩
section
variable{X:Cx}
theorem xf(hu:X.A.units+8<cLine):gq X (compareOp .Lt) (rD X.K (oX .lt)):=by rintro f s σ H x y v u Q I G J⟨F,d,e,r,sm,L,M,he,k⟩;obtain⟨t,c,q⟩:=map_some (show(ZD d e).map _=some r from he);subst q;cases d with
 |int i=>cases e with|int j=>exact Sy f s σ H x y v u Q I G J ⟨F,.int i,.int j,_,sm,L,M,by have q:Mf (λi j=>decide (i<j)) (.int i) (.int j)=some t:=c;simp only[q];rfl,k⟩|_=>cases c
 |tup xs=>cases e with|tup ys=>obtain⟨hc,c⟩:=bN (show(if(xs.all ir&&ys.all ir)=true then some (bC (xs.map qt) (ys.map qt))else none)=some t from c);rw[and_eq_true]at hc;obtain⟨a,vs,rfl,h1,N,_⟩:=L.tup sm;obtain⟨b,ws,rfl,Y,O,_⟩:=M.tup sm;cases G;cases J;obtain⟨z,U,it,_⟩:=I.tuple h1;obtain⟨g,h,B,_⟩:=I.tuple Y;rw[all_ints hc.1]at N;rw[all_ints hc.2]at O;rw[lg N]at U;rw[lg O]at h;have Z:=intsAre_of U;have i2:=intsAre_of h;obtain⟨⟨cls,dd,data,sl⟩,ho,l,n,hd⟩:=it;obtain⟨⟨W,C,data2,E⟩,m,o,n2,p⟩:=B;simp only at l hd o p;subst l hd o p;refine(show wpAny (model X.prog X.w) X.A (richCompare .Lt (.ref a) (.ref b)) _ _ s from richCompare_meets_room (op:=.Lt) ⟨_,ho,rfl⟩ ⟨_,m,rfl⟩ PySem.F.slot_tuple_lt PySem.F.entry_tuple_lt (PySem.F.args_tuple_lt_2 _ _) (Aj a b z g n n2 dd C sl E _ _ Z i2) ⟨ho,m,show Value.bool _≠Value.notImplemented/\_ from⟨(λx=>nomatch x),⟨.bl t,H,I,by rw[<-c];rfl,cG.dB sm (fO _) k⟩⟩⟩ (by omega))|_=>cases c
 |_=>cases c
end
end _H
namespace _L
open PySem Spec PyProof.Rows
variable{y:V}{w:World}{H:Hp}{Q:Value->Shared->Prop}{pos:Pos}{X:Cx}
section
variable{κ:Type}[DecidableEq κ]
noncomputable def jQ(kvs:List (κ×V))(k:κ):Option V:=(kvs.find? λa=>decide (a.1=k)).map (·.2)
noncomputable def putK(kvs:List (κ×V))(k:κ)(v:V):List (κ×V):=if(kvs.any λa=>decide (a.1=k))=true then kvs.map (λa=>if a.1=k then(a.1,v)else a)else kvs++[(k,v)]
theorem nF{p:κ×V}{r:List (κ×V)}{k:κ}(e:p.1=k):jQ (p::r) k=some p.2:=by simp[jQ,find?_cons,e]
theorem nC{p:κ×V}{r:List (κ×V)}{k:κ}(e:¬ p.1=k):jQ (p::r) k=jQ r k:=by simp[jQ,find?_cons,e]
theorem tu(k:κ):∀kvs:List (κ×V),(kvs.any λa=>decide (a.1=k))=(jQ kvs k).isSome
 |[]=>rfl|p::r=>by
   rw[any_cons];by_cases e:p.1=k;.simp only[nF e,decide_eq_true e,Bool.true_or,Option.isSome_some]
   .rw[nC e,decide_eq_false e,Bool.false_or];exact tu k r
theorem lr(kvs:List (κ×V))(k:κ)(v:V):(putK kvs k v).length<=kvs.length+1:=by
 unfold putK;split;.rw[length_map];omega
 .rw[length_append,length_cons,length_nil];omega
theorem qC.jr{o:Option V}{u:Option Value}(r:qC o u):o.isSome=u.isSome:=by cases o with
 |none=>cases u with|none=>rfl|some _=>exact(show False from r).elim
 |some _=>cases u with|none=>exact(show False from r).elim|some _=>rfl
theorem qC.getD{o:Option V}{u:Option Value}{d:V}{d':Value}(r:qC o u)(a:RelV d d'):RelV (o.getD d) (u.getD d'):=by cases o with
 |none=>cases u with|none=>exact a|some _=>exact(show False from r).elim
 |some _=>cases u with|none=>exact(show False from r).elim|some _=>exact r
theorem KV.val{kvs:List (κ×V)}{vs:List (κ×Value)}(r:KV kvs vs)(k:κ):qC (jQ kvs k) (valueAt vs k):=by unfold KV at r;induction r with|nil=>exact True.intro|@cons p q ps a h t f=>
   obtain⟨h1,g⟩:=h;by_cases e:p.1=k
   . have c:q.1=k:=h1.symm.trans e;have b:valueAt (q::a) k=some q.2:=by simp[valueAt,find?_cons,c]
     rw[nF e,b];exact g
   . have c:¬ q.1=k:=λz=>e (h1.trans z);have b:valueAt (q::a) k=valueAt a k:=by simp[valueAt,find?_cons,c]
     rw[nC e,b];exact f
theorem KV.any{kvs:List (κ×V)}{vs:List (κ×Value)}(r:KV kvs vs)(k:κ):(kvs.any λa=>decide (a.1=k))=vs.any λa=>decide (a.1=k):=by unfold KV at r;induction r with|nil=>rfl|cons h t b=>rw[any_cons,any_cons,b,h.1]
theorem KV.repl{kvs:List (κ×V)}{vs:List (κ×Value)}(r:KV kvs vs)(k:κ){u:Value}(b:RelV y u):KV (kvs.map λa=>if a.1=k then(a.1,y)else a) (vs.map λa=>if a.1=k then(a.1,u)else a):=by unfold KV at r ⊢;induction r with|nil=>exact .nil|@cons p q ps g h t c=>
   rw[map_cons,map_cons];refine .cons ?_ c;obtain⟨h1,f⟩:=h;by_cases e:p.1=k;.rw[if_pos e,if_pos (h1.symm.trans e)];exact⟨h1,b⟩
   .rw[if_neg e,if_neg (λz=>e (h1.trans z))];exact⟨h1,f⟩
theorem KV.put{kvs:List (κ×V)}{vs:List (κ×Value)}(r:KV kvs vs)(k:κ){u:Value}(a:RelV y u):KV (putK kvs k y) (stored vs k u):=by
 unfold putK stored;rw[r.any k];by_cases e:(vs.any λb=>decide (b.1=k))=true;.rw[if_pos e,if_pos e];exact r.repl k a
 .rw[if_neg e,if_neg e];exact Paired.snoc r ⟨rfl,a⟩
theorem KV.length{kvs:List (κ×V)}{vs:List (κ×Value)}(r:KV kvs vs):kvs.length=vs.length:=Paired.length r
end
theorem rP{P:Program}{k:Key}{u:Value}(r:RelV (kV k) u):(bh P w).is k u=true:=by cases k with|inl i=>obtain⟨t,e⟩:=(show ∃t,u=Value.int i t from r);subst e;exact yW P w i t|inr x=>obtain⟨t,e⟩:=(show ∃t,u=Value.str x t from r);subst e;exact yh P w x t
theorem vB{P:Program}{w:World}:∀{ks:List Key}{a:List Value},Vals (ks.map kV) a->ItemsAre (bh P w) ks a|[],_,r=>by rw[map_nil]at r;cases r;exact .nil|k::ks,_,r=>by rw[map_cons]at r;cases r with|cons h t=>exact .cons (rP h) (vB t)
noncomputable abbrev KT(H:Hp):List (List Key×V)->List (List Key×Addr×Value)->Prop:=Paired λp q=>p.1=q.1/\H q.2.1=some (.tup (p.1.map kV))/\RelV p.2 q.2.2
theorem KT.val{kvs:List (List Key×V)}{xs:List (List Key×Addr×Value)}(r:KT H kvs xs)(k:List Key):qC (jQ kvs k) ((atKey xs k).map (·.2)):=by induction r with|nil=>exact True.intro|@cons p q ps a h t f=>
   obtain⟨h1,_,g⟩:=h;by_cases e:p.1=k
   . have c:q.1=k:=h1.symm.trans e;have b:atKey (q::a) k=some q.2:=by simp[atKey,find?_cons,c]
     rw[nF e,b];exact g
   . have c:¬ q.1=k:=λz=>e (h1.trans z);have b:atKey (q::a) k=atKey a k:=by simp[atKey,find?_cons,c]
     rw[nC e,b];exact f
theorem KT.repl{kvs:List (List Key×V)}{xs:List (List Key×Addr×Value)}(r:KT H kvs xs)(k:List Key){u:Value}(c:RelV y u):KT H (kvs.map λa=>if a.1=k then(a.1,y)else a) (xs.map (putAt k u)):=by induction r with|nil=>exact .nil|@cons p q ps i h t f=>
   rw[map_cons,map_cons];refine .cons ?_ f;obtain⟨h1,b,g⟩:=h;unfold putAt;by_cases e:p.1=k;.rw[if_pos e,if_pos (h1.symm.trans e)];exact⟨h1,b,c⟩
   .rw[if_neg e,if_neg (λz=>e (h1.trans z))];exact⟨h1,b,g⟩
theorem KT.put{kvs:List (List Key×V)}{xs:List (List Key×Addr×Value)}(r:KT H kvs xs)(k:List Key){b:Addr}{u:Value}(c:H b=some (.tup (k.map kV)))(a:RelV y u):KT H (putK kvs k y) (storedH xs k b u):=by
 have e:(kvs.any λf=>decide (f.1=k))=(atKey xs k).isSome:=by rw[tu,(r.val k).jr,isSome_map]
 unfold putK storedH;rw[e];by_cases q:(atKey xs k).isSome=true;.rw[if_pos q,if_pos q];exact r.repl k a
 .rw[if_neg q,if_neg q];exact Paired.snoc r ⟨rfl,c,a⟩
theorem KT.keeps{H':Hp}{kvs:List (List Key×V)}{xs:List (List Key×Addr×Value)}(r:KT H kvs xs)(ht:∀b ys,H b=some (.tup ys)->H' b=some (.tup ys)):KT H' kvs xs:=Paired.Vd r λ_ _ z=>⟨z.1,ht _ _ z.2.1,z.2.2⟩
section
variable{P:Program}{w:World}{H:Hp}{h:Heap}{a:Addr}
theorem Rb{u:HO}(ok:jT P w H h)(e:Rd H a u):bA P w H h a u:=e.ok ok
theorem sY{kvs:List (Key×V)}(ok:jT P w H h)(e:Rd H a (.dK kvs)):kvs.length<=sizeLine/\(a==sysModules)=false/\∃vs,KV kvs vs/\h.DictOf (bh P w) a vs:=show bA P w H h a (.dK kvs)from Rb ok e
theorem QH{kvs:List (Key×V)}(ok:jT P w H h)(e:H a=some (.dK kvs)):kvs.length<=sizeLine/\(a==sysModules)=false/\∃vs,KV kvs vs/\h.DictOf (bh P w) a vs:=sY ok (.inl e)
theorem pB{ks:List Key}(ok:jT P w H h)(e:H a=some (.tup (ks.map kV))):(tupleKind (bh P w)).is h ks a:=by obtain⟨_,b,r,o,h1,c,n,f⟩:=(show bA P w H h a (.tup (ks.map kV))from ok a _ e);exact⟨o,b.toArray,n,h1,c,f,by simpa using vB r⟩
theorem tK{kvs:List (List Key×V)}(ok:jT P w H h)(e:Rd H a (.dT kvs)):kvs.length<=sizeLine/\(a==sysModules)=false/\∃xs,KT H kvs xs/\h.DictOfH (tupleKind (bh P w)) a xs:=by
 obtain⟨z,y,xs,r,o,es,ep,h1,c,f,g,i⟩:=(show bA P w H h a (.dT kvs)from Rb ok e);refine⟨z,y,xs,r,o,es,ep,h1,c,f,g,λx hx=>?_,i⟩;have all:∀{l:List (List Key×V)}{m:List (List Key×Addr×Value)},KT H l m->∀x∈m,(tupleKind (bh P w)).is h x.1 x.2.1:=by intro l m q;induction q with|nil=>intro x hx;exact nomatch hx|@cons p q ps k b t j=>
    intro x hx;rcases mem_cons.mp hx with e|hx;.subst e;exact pB ok (by rw[<-b.1];exact b.2.1)
    .exact j x hx
 exact all r x hx
theorem Zy{kvs:List (List Key×V)}(ok:jT P w H h)(e:H a=some (.dT kvs)):kvs.length<=sizeLine/\(a==sysModules)=false/\∃xs,KT H kvs xs/\h.DictOfH (tupleKind (bh P w)) a xs:=tK ok (.inl e)
end
noncomputable def oZ(H:Hp)(a:Addr)(y:V)(r:Option V):Prop:=(∃kvs k,Rd H a (.dK kvs)/\y=kV k/\r=jQ kvs k)\/∃kvs k b,Rd H a (.dT kvs)/\y=.ref b/\H b=some (.tup (k.map kV))/\r=jQ kvs k
noncomputable def YZ(H:Hp)(a:Addr)(y v:V)(H':Hp):Prop:=(∃kvs k,H a=some (.dK kvs)/\y=kV k/\kvs.length<sizeLine/\H'=upd H a (.dK (putK kvs k v)))\/∃kvs k b,H a=some (.dT kvs)/\y=.ref b/\H b=some (.tup (k.map kV))/\kvs.length<sizeLine/\H'=upd H a (.dT (putK kvs k v))
section
variable{X:Cx}{pins:List (Addr×Obj)}{σ:St}{H:Hp}{s:Shared}{a:Addr}{y v:V}{u r:Value}{o:Option V}{A:Around}{E:Value->Shared->Prop}
theorem Inv.big(I:Inv X pins σ H s):sysModules<s.heap.objs.size:=by have h:mainGlobals<s.heap.objs.size:=(I.mod.glob.keeps I.bk).lt;exact Nat.lt_trans (by decide) h
theorem pK(x:A.units+1<cLine)(I:Inv X pins σ H s)(g:oZ H a y (some v))(q:RelV y u)(h:∀f t,Inv X pins σ H t->RelV v f->Q f t):wpAny (model X.prog X.w) A (getItem (.ref a) u) Q E s:=by
 rcases g with⟨kvs,k,e,i,l⟩|⟨kvs,k,b,e,i,B,l⟩;.subst i;obtain⟨z,hd,vs,c,dd⟩:=sY I.hok e;obtain⟨f,j,m⟩:=qC.some_of (v:=v) (o:=valueAt vs k) (by rw[l];exact c.val k);exact wpAny_getItem_of (rP q) dd.mapOf j (h f _ (I.tok _) m)
 .subst i;cases(show u=Value.ref b from q);obtain⟨z,hd,xs,c,dd⟩:=tK I.hok e;obtain⟨f,j,m⟩:=qC.some_of (v:=v) (o:=(atKey xs k).map (·.2)) (by rw[l];exact c.val k);obtain⟨p,C,n⟩:=map_eq_some_iff.mp j;refine wpAny_getItem_heap (tupleKind_room_in1 x) (pB I.hok B) dd C ?_;rw[n];exact h f _ (I.tok _) m
theorem aaM(m:A.units+1<cLine)(I:Inv X pins σ H s)(g:oZ H a y o)(i:RelV y u)(h:∀j,Inv X pins σ H j->Q (.bool o.isSome) j):wpAny (model X.prog X.w) A (compareOp .In u (.ref a)) Q E s:=by
 rcases g with⟨kvs,k,e,f,l⟩|⟨kvs,k,b,e,f,n,l⟩;.subst f;obtain⟨z,hd,vs,c,dd⟩:=sY I.hok e;refine wpAny_in_of (rP i) hd dd.mapOf ?_;rw[<-(c.val k).jr,<-l];exact h _ (I.tok _)
 .subst f;cases(show u=Value.ref b from i);obtain⟨z,hd,xs,c,dd⟩:=tK I.hok e;refine wpAny_in_heap (tupleKind_room_in1 m) (pB I.hok n) hd dd ?_;have q:=(c.val k).jr;rw[isSome_map]at q;rw[<-q,<-l];exact h _ (I.tok _)
theorem CK(m:A.units+1<cLine)(I:Inv X pins σ H s)(g:oZ H a y o)(i:RelV y u)(h:∀j,Inv X pins σ H j->Q (.bool (!o.isSome)) j):wpAny (model X.prog X.w) A (compareOp .NotIn u (.ref a)) Q E s:=by
 rcases g with⟨kvs,k,e,f,l⟩|⟨kvs,k,b,e,f,n,l⟩;.subst f;obtain⟨z,hd,vs,c,dd⟩:=sY I.hok e;refine wpAny_notIn_of (rP i) hd dd.mapOf ?_;rw[<-(c.val k).jr,<-l];exact h _ (I.tok _)
 .subst f;cases(show u=Value.ref b from i);obtain⟨z,hd,xs,c,dd⟩:=tK I.hok e;refine wpAny_notIn_heap (tupleKind_room_in1 m) (pB I.hok n) hd dd ?_;have q:=(c.val k).jr;rw[isSome_map]at q;rw[<-q,<-l];exact h _ (I.tok _)
theorem wH{h':Heap}{t':Nat}{c:HO}(I:Inv X pins σ H s)(f:YC (H a))(hs:SameBut a s.heap h')(he:∃q,h'.get? a=some q)(new:bA X.prog X.w (upd H a c) h' a c):Inv X pins σ (upd H a c) {s with heap:=h',toks:=t'}:=I.write (x:=a) (e:=a) f (.inl rfl) (λb q g z=>(hs.2 b g).trans z) he new
theorem KC{P:Program}{H':Hp}{h':Heap}{kvs:List (Key×V)}{vs:List (Key×Value)}(z:kvs.length<=sizeLine)(hd:(a==sysModules)=false)(b:KV kvs vs)(dd:h'.DictOf (bh P w) a vs):bA P w H' h' a (.dK kvs):=⟨z,hd,vs,b,dd⟩
theorem Fy{H':Hp}{Q:Unit->Shared->Prop}(J:A.units+1<cLine)(I:Inv X pins σ H s)(g:YZ H a y v H')(t:RelV y u)(x:RelV v r)(h:∀B,Inv X pins σ H' B->Q () B):wpAny (model X.prog X.w) A (setItem (.ref a) u r) Q E s:=by
 rcases g with⟨kvs,k,e,m,l,n⟩|⟨kvs,k,b,e,m,C,l,n⟩
 . subst m n;obtain⟨z,hd,vs,f,dd⟩:=QH I.hok e;have hz:vs.length<=sizeLine:=by rw[<-f.length];exact z
   have p:(putK kvs k v).length<=sizeLine:=by have:=lr kvs k v;omega
   refine wpAny_setItem_pairs (hsz:=hz) (rP t) dd λh' i hs=>h _ ?_;have he:∃q,h'.get? a=some q:=let⟨q,_,_,j,_⟩:=i;⟨q,j⟩;exact wH I (by rw[e];exact True.intro) hs he (KC p hd (f.put k x) i)
 . subst m n;cases(show u=Value.ref b from t);obtain⟨z,hd,xs,f,dd⟩:=Zy I.hok e;have hz:xs.length<=sizeLine:=by rw[<-Paired.length f];exact z
   have p:(putK kvs k v).length<=sizeLine:=by have:=lr kvs k v;omega
   refine wpAny_setItem_heap (hsz:=hz) (tupleKind_room_in1 J) (pB I.hok C) dd λh' i hs=>h _ ?_;obtain⟨q,es,ep,j,L,M,N,_,O⟩:=i;refine wH I (by rw[e];exact True.intro) hs ⟨q,j⟩ ⟨p,hd,_,(f.put k C x).keeps λc ys G=>?_,q,es,ep,j,L,M,N,O⟩;rw[aB (Yz G e (λz=>nomatch z))];exact G
end
noncomputable def Ot(i:Expr):Prop:=∀a iv,subscripted i false a iv=operate [a,iv] (getItem a iv)
theorem CN{prog:Program}{A:Around}{E:Value->Shared->Prop}{s:Shared}{env:Env}{a slice:Expr}{T id:String}(l:typeLookup (.type T) "__getitem__"=pure (some (.builtin id)))(hs:Ot slice)(h:wpAny (model prog w) A (eval a env) (λo e=>wpAny (model prog w) A (eval slice env) (λi b=>b.TypeIs o T/\wpAny (model prog w) A (getItem o i) Q E b) E e) E s):wpAny (model prog w) A (eval (.Subscript a slice pos) env) Q E s:=by
 refine Subscript_ (wpAny_mono h (λo e g=>wpAny_mono g (λi b c=>?_) λ_ _ x=>x) λ_ _ x=>x);obtain⟨k,c⟩:=c;unfold subscriptTail;refine wpAny_bind ?_;rw[getitemInPython_of_ne k.not_modules];refine wpAny_bind (wpAny_specialOf k l ?_);have fin:wpAny (model prog w) A (subscripted slice false o i) (λr f=>wpAny (model prog w) A (letTemporaryGo a o r>>=λ_=>pure r) Q E f) E b:=by rw[hs o i];exact wpAny_operating (wpAny_mono c (λr f j=>wpAny_bind (wpAny_letTemporaryGo (wpAny_pure j))) λ_ _ x=>x)
 first|exact wpAny_pure (wpAny_bind fin)|exact wpAny_bind (wpAny_pure (wpAny_bind fin))|exact wpAny_bind fin
theorem kO{c:List (Addr×Obj)}{σ:St}{s:Shared}{a:Addr}{o:Option V}(I:Inv X c σ H s)(g:oZ H a y o):s.TypeIs (.ref a) "dict":=by
 rcases g with⟨kvs,k,e,_,_⟩|⟨kvs,k,b,e,_,_,_⟩;.obtain⟨_,_,vs,_,dd⟩:=sY I.hok e;exact dd.typeIs
 .obtain⟨_,_,xs,_,dd⟩:=tK I.hok e;exact dd.typeIs
noncomputable def Zc(c ty:TE):TE:=λσ H Q=>c σ H λx e=>ty σ e λy b=>∃a v,x=.ref a/\oZ b a y (some v)/\Q v b
noncomputable def ae8(ty c:TE):TE:=λσ H Q=>ty σ H λy e=>c σ e λx b=>∃a o,x=.ref a/\oZ b a y o/\Q (.bl o.isSome) b
noncomputable def M4(ty c:TE):TE:=λσ H Q=>ty σ H λy e=>c σ e λx b=>∃a o,x=.ref a/\oZ b a y o/\Q (.bl (!o.isSome)) b
noncomputable def aab(c ty e:TE):TS:=λD σ H=>e σ H λv f=>c σ f λx g=>ty σ g λy h=>∃a b,x=.ref a/\YZ h a y v b/\D.nx σ b
section
variable{X:Cx}{o i e value:Expr}{pos pos' tpos:Pos}{td ty tv:TE}
theorem PK(c:X.A.units+1<cLine)(ho:PE X o td)(hi:PE X i ty)(hs:Ot i):PE X (.Subscript o i pos) (Zc td ty):=by intro b s σ H Q I h;refine CN PySem.F.slot_dict_getitem.lookup hs (bU (ho b s σ H _ I h) λu s1⟨x,H1,I1,rx,q1⟩=>bU (hi b s1 σ H1 _ I1 q1) λiv s2⟨y,H2,I2,ry,a,v,ex,g,q2⟩=>?_);subst ex;obtain rfl:u=Value.ref a:=rx;exact⟨kO I2 g,pK c I2 g ry λk s3 f j=>⟨v,H2,f,j,q2⟩⟩
theorem R5(c:X.A.units+1<cLine)(hi:PE X i ty)(ho:PE X o td):PC X .In i o (ae8 ty td):=by intro b s σ H Q I h;refine bU (hi b s σ H _ I h) λiv s1⟨y,H1,I1,ry,q1⟩=>bU (ho b s1 σ H1 _ I1 q1) λu s2⟨x,H2,I2,rx,a,ov,ex,g,q2⟩=>?_;subst ex;obtain rfl:u=Value.ref a:=rx;exact aaM c I2 g ry λs3 f=>⟨.bl ov.isSome,H2,f,rfl,q2⟩
theorem Ep(c:X.A.units+1<cLine)(hi:PE X i ty)(ho:PE X o td):PC X .NotIn i o (M4 ty td):=by intro b s σ H Q I h;refine bU (hi b s σ H _ I h) λiv s1⟨y,H1,I1,ry,q1⟩=>bU (ho b s1 σ H1 _ I1 q1) λu s2⟨x,H2,I2,rx,a,ov,ex,g,q2⟩=>?_;subst ex;obtain rfl:u=Value.ref a:=rx;exact CK c I2 g ry λs3 f=>⟨.bl (!ov.isSome),H2,f,rfl,q2⟩
theorem Ea(c:X.A.units+1<cLine)(ho:PE X o td)(hi:PE X i ty)(f:PE X value tv)(hs:swapsWith value (some (.Subscript o i pos')) pos.line X.env=pure false):PS X (.Assign [.Subscript o i pos'] value pos) (aab td ty tv):=by intro b s σ H D I h;refine wpAny_Assign_Subscript (bU (f b s σ H _ I h) λr s1⟨v,H1,I1,rv,q1⟩=>bU (ho b s1 σ H1 _ I1 q1) λu s2⟨x,H2,I2,rx,q2⟩=>bU (hi b s2 σ H2 _ I2 q2) λiv s3⟨y,H3,I3,ry,a,H4,ex,g,q3⟩=>?_) hs;subst ex;obtain rfl:u=Value.ref a:=rx;exact Fy c I3 g ry rv λs4 j=>⟨σ,H4,j,q3⟩
end
theorem yc{P:Program}(h:Heap)(a:sysModules<h.objs.size):bA P w H (h.push {cls:=.type "dict",data:=.dict #[]}) h.objs.size (.dK []):=⟨wB,beq_eq_false_iff_ne.mpr (Ne.symm (ne_of_lt a)),[],.nil,Heap.DictOf.new h⟩
noncomputable def UL:TE:=λ_ H Q=>∀p,H p=none->Q (.ref p) (upd H p (.dK []))
section
variable{X:Cx}{pos:Pos}
theorem yj:PE X (.Dict [] [] pos) UL:=λb s σ H Q I h=>wpAny_Dict_empty ⟨.ref s.heap.objs.size,_,I.laid (a:=s.heap.objs.size) (o:=.dK []) (t':=s.toks) (λ_ _ q=>gY q) (eG) (yc s.heap I.big),rfl,h _ (I.hok.fresh (eG))⟩
end
noncomputable def Ab:List (TE×TE)->St->Hp->(List (V×V)->Hp->Prop)->Prop|[],_,H,Q=>Q [] H|(a,b)::r,σ,H,Q=>a σ H λx c=>b σ c λy e=>Ab r σ e λps f=>Q ((x,y)::ps) f
noncomputable abbrev VV:List (V×V)->List (Value×Value)->Prop:=Paired λp q=>RelV p.1 q.1/\RelV p.2 q.2
noncomputable def PPs(X:Cx)(pos:Pos)(keys:List (Option Expr))(a:List Expr)(c:List (TE×TE)):Prop:=∀(b:List (Addr × Obj))(s:Shared)(σ:St)(H:Hp)(Q:List (V × V)->Hp->Prop),Inv X b σ H s->Ab c σ H Q->wpAny (model X.prog X.w) X.A (evalPairs (pairTrees keys a X.env pos)) (λvs e=>∃ps H',Inv X b σ H' e/\VV ps vs/\Q ps H') X.xe s
theorem Qa:PPs X pos [] [] []:=λa s σ H Q I h=>pairTrees_nil_walk ⟨[],H,I,.nil,h⟩
theorem K1{k v:Expr}{ks:List (Option Expr)}{vs:List Expr}{b c:TE}{e:List (TE×TE)}(f:PE X k b)(g:PE X v c)(hr:PPs X pos ks vs e):PPs X pos (some k::ks) (v::vs) ((b,c)::e):=λa s σ H Q I h=>pairTrees_cons_walk (bU (f a s σ H _ I h) λu s1⟨x,H1,I1,rx,q1⟩=>bU (g a s1 σ H1 _ I1 q1) λi s2⟨y,H2,I2,ry,q2⟩=>bU (hr a s2 σ H2 _ I2 q2) λws s3⟨ps,H3,I3,rel,q3⟩=>⟨(x,y)::ps,H3,I3,.cons ⟨rx,ry⟩ rel,q3⟩)
noncomputable def pO(kvs more:List (Key×V)):List (Key×V):=more.foldl (λa b=>putK a b.1 b.2) kvs
theorem KV.merge:∀{more:List (Key×V)}{a:List (Key×Value)}{kvs:List (Key×V)}{vs:List (Key×Value)},KV more a->KV kvs vs->KV (pO kvs more) (merged vs a):=by intro more a kvs vs r;unfold KV at r;induction r generalizing kvs vs with|nil=>intro q;exact q|@cons p q ps c h t b=>
   intro r0;have e:KV (putK kvs p.1 p.2) (stored vs q.1 q.2):=by have:=r0.put p.1 h.2;rw[<-h.1];exact this
   exact b e
theorem mD:∀(more kvs:List (Key×V)),(pO kvs more).length<=kvs.length+more.length|[],kvs=>by show kvs.length<=kvs.length+0;omega|p::r,kvs=>by have h1:=mD r (putK kvs p.1 p.2);have a:=lr kvs p.1 p.2;show(pO (putK kvs p.1 p.2) r).length<=_;rw[length_cons];omega
theorem tY{P:Program}{w:World}:∀{kvs:List (Key×V)}{ws:List (Value×Value)},VV (kvs.map λf=>(kV f.1,f.2)) ws->∃e,Carries (bh P w) ws e/\KV kvs e|[],_,r=>by rw[map_nil]at r;cases r;exact⟨[],True.intro,.nil⟩|p::kvs,_,r=>by rw[map_cons]at r;cases r with|@cons a b as bs h t=>obtain⟨e,c,q⟩:=tY (P:=P) (w:=w) t;obtain⟨b1,b2⟩:=b;exact⟨(p.1,b2)::e,⟨rP h.1,rfl,c⟩,.cons ⟨rfl,h.2⟩ q⟩
noncomputable def Zd(c:List (TE×TE)):TE:=λσ H Q=>∀p,H p=none->Ab c σ (upd H p (.dK [])) λps a=>a p=some (.dK [])/\∃kvs:List (Key×V),ps=kvs.map (λb=>(kV b.1,b.2))/\kvs.length<=15/\Q (.ref p) (upd a p (.dK (pO [] kvs)))
theorem Nf{keys:List (Option Expr)}{b:List Expr}{j:List (TE×TE)}(h:PPs X pos keys b j)(f:keys.all (·.isSome)=true)(l:keys.length=b.length)(h0:keys≠[])(i:keys.length<=15):PE X (.Dict keys b pos) (Zd j):=by
 intro g s σ H Q I q;have m:=I.hok.fresh (le_refl s.heap.objs.size);have n:=I.laid (a:=s.heap.objs.size) (o:=.dK []) (h':=s.heap.push {cls:=.type "dict",data:=.dict #[]}) (t':=s.toks) (λ_ _ q=>gY q) (eG) (yc s.heap I.big);refine wpAny_Dict_walk (knd:=bh X.prog X.w) f l h0 i (bU (h g _ σ _ _ n (q _ m)) λws s2⟨ps,H2,I2,rel,e,kvs,ep,lk,q2⟩=>?_);subst ep;obtain⟨p,c,r⟩:=tY (P:=X.prog) (w:=X.w) rel;obtain⟨z,hd,t,r0,dd⟩:=QH I2.hok e;cases r0;refine⟨p,c,dd,λh' k hs=>⟨.ref s.heap.objs.size,_,?_,rfl,q2⟩⟩;have hz:(pO [] kvs).length<=sizeLine:=by have h1:=mD kvs [];rw[length_nil]at h1;rw[sizeLine_eq];omega
 have he:∃q,h'.get? s.heap.objs.size=some q:=let⟨q,_,_,hq,_⟩:=k;⟨q,hq⟩;exact wH I2 (by rw[e];exact True.intro) hs he (KC hz hd (r.merge .nil) k)
structure M2(X:Cx)(o:Expr)(m:Str)(apos:Pos)(e f:Expr)(cpos:Pos):Prop where
 base:attributeBase o m X.env (eval o X.env)=eval o X.env
 few:((backTo cpos (starEach [e,f] X.env)).all (λx=>!x.1)&&(backToKw cpos (keywordEach [] X.env)).all (λx=>x.1.isSome)&&decide (([e,f]:List Expr).length+([]:List Keyword).length+(if([]:List Keyword).isEmpty then 0 else 1)<30))=true
 line:(apos.endLine==cpos.line)=true
 trees:backTo cpos (starEach [e,f] X.env)=[(false,eval e X.env),(false,eval f X.env)]
noncomputable def IsD(H:Hp)(a:Addr):Prop:=(∃kvs,Rd H a (.dK kvs))\/∃kvs,Rd H a (.dT kvs)
theorem Tn{f:List (Addr×Obj)}{σ:St}{s:Shared}{a:Addr}(I:Inv X f σ H s)(d:IsD H a):s.TypeIs (.ref a) "dict"/\(∀b,Value.ref a=.ref b->∃c,s.heap.get? b=some c/\c.dict=none)/\(a==sysModules)=false:=by
 rcases d with⟨kvs,e⟩|⟨kvs,e⟩;.obtain⟨_,hd,vs,_,dd⟩:=sY I.hok e;refine⟨dd.typeIs,λb q=>?_,hd⟩;cases q;obtain⟨c,_,_,h1,g,_⟩:=dd;exact⟨c,h1,g.2.1⟩
 .obtain⟨_,hd,xs,_,dd⟩:=tK I.hok e;refine⟨dd.typeIs,λb q=>?_,hd⟩;cases q;obtain⟨c,_,_,h1,g,_⟩:=dd;exact⟨c,h1,g.2.1⟩
section
variable{X:Cx}{pins:List (Addr×Obj)}{σ:St}{H:Hp}{s:Shared}{a:Addr}{y d:V}{u r:Value}{o:Option V}{A:Around}{E:Value->Shared->Prop}
theorem Wb(p:A.units+1<cLine)(I:Inv X pins σ H s)(g:oZ H a y o)(i:RelV y u)(j:RelV d r)(h:∀m n,Inv X pins σ H n->RelV (o.getD d) m->Q m n):wpAny (model X.prog X.w) A (call (.builtin "dict.get") [.ref a,u,r]) Q E s:=by
 rcases g with⟨kvs,k,e,f,l⟩|⟨kvs,k,b,e,f,q,l⟩;.subst f;obtain⟨z,hd,vs,c,dd⟩:=sY I.hok e;refine call_meetsIn slot_dict_get dd.typeIs PySem.F.entry_dict_get (PySem.F.args_dict_get_3 _ _ _) (meets_dict_get_default (bh X.prog X.w) a (rP i) hd r) ⟨_,dd.mapOf,h _ _ (I.tok _) ?_⟩;rw[l];exact(c.val k).getD j
 .subst f;cases(show u=Value.ref b from i);obtain⟨z,hd,xs,c,dd⟩:=tK I.hok e;refine call_meetsIn slot_dict_get dd.typeIs PySem.F.entry_dict_get (PySem.F.args_dict_get_3 _ _ _) (meetsH_dict_get_default (tupleKind (bh X.prog X.w)) a b hd r) ⟨tupleKind_room_in1 p,k,xs,pB I.hok q,dd,h _ _ (I.tok _) ?_⟩;rw[l];exact(c.val k).getD j
end
noncomputable def Tq(e ty f:TE):TE:=λσ H Q=>e σ H λx b=>∃a,x=.ref a/\IsD b a/\ty σ b λy g=>f σ g λz c=>∃o,oZ c a y o/\Q (o.getD z) c
section
variable{X:Cx}{o e f:Expr}{apos cpos:Pos}{td ty tx:TE}
theorem Hv(c:X.A.units+1<cLine)(ho:PE X o td)(he:PE X e ty)(i:PE X f tx)(m:M2 X o "get" apos e f cpos):PE X (.Call (.Attribute o "get" apos) [e,f] [] cpos) (Tq td ty tx):=by intro b s σ H Q I h;refine wpAny_Call_method m.base m.few m.line PySem.F.plainAttrs_dict slot_dict_get PySem.F.type_dict_get (bU (ho b s σ H _ I h) λu s1⟨x,H1,I1,rx,a,ex,d,q1⟩=>?_);subst ex;obtain rfl:u=Value.ref a:=rx;obtain⟨t1,j,_⟩:=Tn I1 d;refine⟨t1,j,?_⟩;rw[m.trees];refine Calls.callWith_builtin rfl (Calls.evalArgs_plain (Calls.spliced_cons (bU (he b s1 σ H1 _ I1 q1) λiv s2⟨y,H2,I2,ry,q2⟩=>Calls.spliced_cons (bU (i b s2 σ H2 _ I2 q2) λn s3⟨z,H3,I3,rz,ov,g,q3⟩=>Calls.spliced_nil ?_))));exact Wb c I3 g ry rz λp s4 k l=>⟨_,H3,k,l,q3⟩
end
end _L
namespace _H
open PySem _L Spec PyProof.Rows
variable{kvs:List (Int×D)}{es:List (Key×V)}{k:Int}{i:Nat}
inductive KR(K:PySem.W.Frag)(F:Hp):List (Int×D)->List (Key×V)->Prop where|nil:KR K F [] []|cons{k:Int}{d:D}{v:V}{kvs:List (Int×D)}{es:List (Key×V)}(h:Rep K F v d)(t:KR K F kvs es):KR K F ((k,d)::kvs) ((Sum.inl k,v)::es)
section
variable{K:PySem.W.Frag}{F F':Hp}
noncomputable def ent(ks:List Int)(vs:List V):List (Key×V):=(ks.zip vs).map λp=>(Sum.inl p.1,p.2)
theorem KR.of:∀{kvs:List (Int×D)}{vs:List V},aH K F vs (kvs.map (·.2))->KR K F kvs (ent (kvs.map (·.1)) vs)|[],vs,h=>by rw[map_nil]at h;rw[h.gW];exact .nil|(k,d)::kvs,vs,h=>by obtain⟨v,r,rfl,h1,a⟩:=h.cW;exact .cons h1 (KR.of a)
theorem KR.to(h:KR K F kvs es):∃vs,es=ent (kvs.map (·.1)) vs/\aH K F vs (kvs.map (·.2)):=by induction h with|nil=>exact⟨[],rfl,.nil⟩|@cons k d v kvs es h t a=>obtain⟨vs,rfl,r⟩:=a;exact⟨v::vs,rfl,.cons h r⟩
theorem KR.oc(h:KR K F kvs es):mG K F (.dK es) (.v kvs):=by obtain⟨vs,rfl,r⟩:=h.to;exact⟨vs,rfl,r⟩
theorem KR.Ua{o:HO}(h:mG K F o (.v kvs)):∃es,o=.dK es/\KR K F kvs es:=by obtain⟨vs,rfl,r⟩:=h;exact⟨_,rfl,.of r⟩
theorem KR.len(h:KR K F kvs es):es.length=kvs.length:=by induction h with|nil=>rfl|cons h t a=>simp[a]
theorem KR.get{d:D}(h:KR K F kvs es)(e:mX kvs k=some d):∃v,jQ es (Sum.inl k:Key)=some v/\Rep K F v d:=by induction h with|nil=>cases e|@cons j d' v kvs es h t a=>
   unfold mX at e a;rw[find?_cons]at e;by_cases c:j=k;.simp[c]at e;subst e;exact⟨v,nF (by rw[c]),h⟩
   .simp[c]at e;obtain⟨b,h1,f⟩:=a (by simpa using e);exact⟨b,by rw[nC (by simpa using c)];exact h1,f⟩
theorem KR.any{kvs:List (Int×D)}{es:List (Key×V)}(k:Int)(h:KR K F kvs es):(es.any λa=>decide (a.1=(Sum.inl k:Key)))=kvs.any λp=>decide (p.1=k):=by induction h with|nil=>rfl|cons h t b=>simp[b]
theorem KR.has(k:Int)(h:KR K F kvs es):(jQ es (Sum.inl k:Key)).isSome=(kvs.map (·.1)).contains k:=by rw[<-tu,h.any k];induction h with|nil=>rfl|@cons j d v kvs es h t a=>rw[any_cons,a,map_cons,List.contains_cons];congr 1;exact Bool.eq_iff_iff.mpr ⟨λz=>by simp at z ⊢;exact z.symm,λz=>by simp at z ⊢;exact z.symm⟩
theorem KR.repl{d:D}{v:V}(r:Rep K F v d)(h:KR K F kvs es):KR K F (kvs.map λp=>if p.1=k then(p.1,d)else p) (es.map λa=>if a.1=(Sum.inl k:Key)then(a.1,v)else a):=by induction h with|nil=>exact .nil|@cons j d' e kvs es h t b=>
   by_cases c:j=k;.subst c;simp;exact .cons r b
   . have:¬(Sum.inl j:Key)=Sum.inl k:=by simpa using c
     simp[c,this];exact .cons h b
theorem KR.snoc{d:D}{v:V}(r:Rep K F v d)(h:KR K F kvs es):KR K F (kvs++[(k,d)]) (es++[(Sum.inl k,v)]):=by induction h with|nil=>exact .cons r .nil|cons h t a=>exact .cons h a
theorem KR.put{d:D}{v:V}(r:Rep K F v d)(h:KR K F kvs es):KR K F (iD kvs k d) (putK es (Sum.inl k:Key) v):=by
 unfold iD putK;rw[h.any k];split;.exact h.repl r
 .exact h.snoc r
theorem KR.zip{ks:List Int}{a:List D}{vs:List V}(h:aH K F vs a)(b:ks.length=a.length):KR K F (ks.zip a) (ent ks vs):=by induction a generalizing ks vs with
 |nil=>rw[h.gW];cases ks with|nil=>exact .nil|cons _ _=>simp at b
 |cons d a c=>obtain⟨v,r,rfl,h1,e⟩:=h.cW;cases ks with|nil=>simp at b|cons k ks=>exact .cons h1 (c e (by simpa using b))
end
section
variable{K:PySem.W.Frag}{F F1 H H1:Hp}{ρ ρ1 ρ2:List Sl}{σ σ1:_L.St}
theorem GS.adl{x:Nat}{m p:Dc}{a:Addr}(g:GS K F ρ σ H)(e:ρ[x]?=some (.iC m))(r:σ[x]?=some (some (.ref a))):aC K F ρ σ H F (ρ.set x (.iC p)) σ (upd H a p.ho):=by
 have hi:x<ρ.length:=(eV e).1;have v:aV ρ σ x a:=⟨⟨_,_,e,rfl⟩,r⟩;obtain⟨G,I,h1,J,w,L⟩:=g.own x _ _ e rfl;rw[r]at h1;cases h1;have f:∀{j:Nat}{c:Addr},aV (ρ.set x (.iC p)) σ j c->aV ρ σ j c:=λ{j c}⟨⟨t,dt,h,s⟩,q3⟩=>by
  by_cases b:j=x;.subst b;exact⟨⟨_,_,e,rfl⟩,q3⟩
  .rw[fL b]at h;exact⟨⟨t,dt,h,s⟩,q3⟩
 refine⟨⟨λc o q=>?_,by simp[g.len],λj b' d q=>?_,λj t dt q u=>?_,λj k c h s=>g.dis j k c (f h) (f s)⟩,.refl _,λc n z=>absurd n z,λc o q n=>?_,λc⟨j,q⟩=>.inl ⟨j,f q⟩,by simp,λj t q l=>⟨rfl,?_⟩⟩
 . have:c≠a:=by rintro rfl;rw[w]at q;cases q
   rw[aB this];exact g.sub c o q
 . by_cases b:j=x;.subst b;rw[getElem?_set_self hi]at q;cases q
   .rw[fL b]at q;exact g.val j b' d q
 . by_cases b:j=x;.subst b;rw[getElem?_set_self hi]at q;cases q;cases u;exact⟨a,_,r,aL,w,rfl⟩
   . rw[fL b]at q;obtain⟨c,A,y,B,C,E⟩:=g.own j t dt q u;have:c≠a:=by rintro rfl;exact b (g.dis j x c ⟨⟨t,dt,q,u⟩,y⟩ v)
     exact⟨c,A,y,by rw[aB this];exact B,C,E⟩
 . have:c≠a:=by rintro rfl;exact n ⟨x,v⟩
   rw[aB this];exact q
 . by_cases b:j=x;.subst b;rw[e]at q;cases q;cases l
   .exact⟨t,by rw[fL b];exact q,.refl t⟩
theorem GS.newD{m:Dc}{a:Addr}(g:GS K F ρ σ H)(e:ρ[i]?=some .aQ)(r:H a=none):aC K F ρ σ H F (ρ.set i (.iC m)) (σ.set i (some (.ref a))) (upd H a m.ho):=by
 have hi:i<ρ.length:=(eV e).1;have s:i<σ.length:=by rw[<-g.len];exact hi
 have w:F a=none:=by cases q:F a with|none=>rfl|some o=>rw[g.sub a o q]at r;cases r
 have f:∀{j:Nat}{c:Addr},j≠i->aV (ρ.set i (.iC m)) (σ.set i (some (.ref a))) j c->aV ρ σ j c:=λ{j c}b⟨⟨t,ds,e1,e2⟩,e3⟩=>by rw[fL b]at e1 e3;exact⟨⟨t,ds,e1,e2⟩,e3⟩
 have new:∀{c:Addr},aV (ρ.set i (.iC m)) (σ.set i (some (.ref a))) i c->c=a:=λ{c}⟨_,e3⟩=>by rw[getElem?_set_self s]at e3;cases e3;rfl
 have no:∀{j:Nat},¬ aV ρ σ j a:=λ{j}⟨⟨t,ds,e1,e2⟩,e3⟩=>by obtain⟨c,o,h,p,_⟩:=g.own j t ds e1 e2;rw[e3]at h;cases h;rw[r]at p;cases p
 refine⟨⟨λc o q=>?_,by simp[g.len],λj b' d q=>?_,λj t dt q x=>?_,λj k c h p=>?_⟩,.refl _,λc n y=>absurd n y,λc o q n=>?_,λc⟨j,q⟩=>?_,by simp,λj t q l=>?_⟩
 . have:c≠a:=by rintro rfl;rw[w]at q;cases q
   rw[aB this];exact g.sub c o q
 . by_cases b:j=i;.subst b;rw[getElem?_set_self hi]at q;cases q
   .rw[fL b]at q ⊢;exact g.val j b' d q
 . by_cases b:j=i;.subst b;rw[getElem?_set_self hi]at q;cases q;cases x;exact⟨a,_,getElem?_set_self s,aL,w,rfl⟩
   . rw[fL b]at q ⊢;obtain⟨c,o,z,v,A,B⟩:=g.own j t dt q x;have:c≠a:=by rintro rfl;rw[r]at v;cases v
     exact⟨c,o,z,by rw[aB this];exact v,A,B⟩
 . by_cases b:j=i
   . by_cases u:k=i;.rw[b,u]
     .subst b;rw[new h]at p;exact absurd (f u p) no
   . by_cases u:k=i;.subst u;rw[new p]at h;exact absurd (f b h) no
     .exact g.dis j k c (f b h) (f u p)
 . have:c≠a:=by rintro rfl;rw[r]at q;cases q
   rw[aB this];exact q
 . by_cases b:j=i;.subst b;rw[new q];exact .inr r
   .exact .inl ⟨j,f b q⟩
 . have b:j≠i:=by rintro rfl;rw[e]at q;cases q;cases l
   exact⟨by rw[fL b],t,by rw[fL b];exact q,.refl t⟩
end
noncomputable def uH(p:Int×Int):Key×V:=(Sum.inl p.1,V.int p.2)
theorem HJ(i:Int):∀kvs:List (Int×Int),jQ (kvs.map uH) (Sum.inl i:Key)=((kvs.find? λb=>decide (b.1=i)).map (·.2)).map V.int
 |[]=>rfl|p::kvs=>by
   have a:=HJ i kvs;unfold jQ at a ⊢;rw[map_cons,find?_cons,find?_cons];by_cases h:p.1=i
   . have e:decide ((uH p).1=(Sum.inl i:Key))=true:=by simp[uH,h]
     rw[e];simp[h,uH]
   . have e:decide ((uH p).1=(Sum.inl i:Key))=false:=by simp[uH,h]
     rw[e];simp only[h,decide_false];exact a
theorem SN(i v:Int)(kvs:List (Int×Int)):putK (kvs.map uH) (Sum.inl i:Key) (V.int v)=(putD kvs i v).map uH:=by
 have e:((kvs.map uH).any λa=>decide (a.1=(Sum.inl i:Key)))=kvs.any λa=>decide (a.1=i):=by rw[List.any_map];congr 1;funext p;simp[uH]
 unfold putK putD;rw[e];split
 . rw[map_map,map_map];refine map_congr_left λp _=>?_;by_cases h:p.1=i;.simp[uH,h]
   .simp[uH,h]
 .rw[map_append];rfl
section
variable{X:Cx}{c:Call}{n:Nat}{a b e:Expr}{pa pb p:P}{pos:Pos}
theorem KH{H:Hp}{q:Addr}{m:Dc}{i:Int}{o:Option Int}(h:Rd H q m.ho)(e:m.get (.int i)=some o):oZ H q (.int i) (o.map V.int):=by cases m with|k kvs=>cases e;exact .inl ⟨kvs.map uH,Sum.inl i,h,rfl,(HJ i kvs).symm⟩|t kvs=>cases e
theorem xG(hu:X.A.units+8<cLine)(M:SX X c a pa)(N:SX X c b pb)(hs:Ot b):SX X c (.Subscript a b pos) (.bin .Gw pa pb):=by refine wX (f:=Cp) (λh1 O=>?_) M N (λρ=>rfl) rfl;intro l s σ H Q I h;refine CN PySem.F.slot_dict_getitem.lookup hs (bU (h1 l s σ H _ I h) λu s1⟨x,H1,I1,rx,q1⟩=>bU (O l s1 σ H1 _ I1 q1) λiv s2⟨y,H2,I2,ry,q2⟩=>?_);obtain⟨F,d,e,r,sm,G,J,he,k⟩:=q2;cases d with
 |eN m=>have U:=cU (show(m.get e).bind (λo=>o.map λv=>R.val (.int v))=some r from he);clear he;obtain⟨o,w,he⟩:=U;cases o with|none=>cases he|some v=>
     cases he;obtain⟨i,rfl⟩:∃i,e=.int i:=by cases m with|t kvs=>cases e<;>cases w|k kvs=>cases e<;>first|exact⟨_,rfl⟩|cases w
     obtain⟨q,z,rfl,B⟩:=G.eN sm;rw[J.int]at ry;obtain rfl:u=Value.ref q:=rx;have g:=KH (.inr ⟨z,B⟩) w;exact⟨kO I2 g,pK (by omega) I2 g ry λW s3 C E=>⟨.int v,H2,C,E,cG.dB sm (bY _) k⟩⟩
 |dv ks Y=>cases e with|int j=>obtain⟨d',Z,he⟩:=map_some (show(mX (ks.zip Y) j).map R.val=some r from he);subst he;obtain⟨q,z,vs,rfl,B,rs,hl⟩:=G.dv sm;obtain⟨L,g1,g2⟩:=(KR.zip rs hl).get Z;rw[J.int]at ry;obtain rfl:u=Value.ref q:=rx;have g:oZ H2 q (.int j) (some L):=.inl ⟨_,Sum.inl j,.inr ⟨z,B⟩,rfl,g1.symm⟩;exact⟨kO I2 g,pK (by omega) I2 g ry λW s3 C E=>⟨L,H2,C,E,cG.dB sm g2 k⟩⟩|_=>cases he
 |_=>cases he
theorem Nq{x:Str}{f h:Pos}(j:X.N.Nodup)(hi:X.N[i]?=some x)(l:Loc X.env.scope x)(hs:swapsWith (.Dict [] [] h) (some (.Name x f)) pos.line X.env=pure false:=by rfl)(o:X.fn x=true\/X.env.scope.names.lookup x=some .local:=by first|(left;rfl)|(right;rfl)|assumption):SS X c n (.Assign [.Name x f] (.Dict [] [] h) pos) (.Li i false):=by
 refine cz (mV j hi l yj hs o) ?_;rintro D σ H⟨F,ρ,fl,r,g,e,k⟩;rw[_H.X18]at e;split at e;.rename_i q;cases e;exact λa s=>k F _ _ (g.newD (m:=.k []) q s)
 .cases e
theorem Sq{x:Str}{B f cpos:Pos}{pk C:P}(hu:X.A.units+8<cLine)(W:X.N[i]?=some x)(Y:vC X.env.scope x)(Z:SX X c a pk)(hb:SX X c b C)(m:M2 X (.Name x B) "get" f a b cpos)(hd:(x==("__debug__":Str))=false:=by decide)(s:(x==("__classdict__":Str))=false:=by decide):SX X c (.Call (.Attribute (.Name x B) "get" f) [a,b] [] cpos) (.Yo i pk C):=by
 obtain⟨ta,h1,h2⟩:=Z.cL;obtain⟨tb,h3,h4⟩:=hb.cL;refine⟨cP (Hv (by omega) (dO W Y hd s) h1 h3 m) ?_,λi h=>by cases h⟩;rintro σ H Q⟨F,ρ,r,ac,g,e,k⟩;rw[_H.E24]at e;split at e
 . rename_i m0 q;obtain⟨u,ae,e1,E⟩:=aj e;clear e;obtain⟨dd,af,e2,l⟩:=aj E;clear E;obtain⟨G,o0,I,J,w3,w4⟩:=g.own i _ _ q rfl;refine⟨.ref G,I,G,rfl,?_,?_⟩;.cases(show o0=m0.ho from w4);cases m0 with|k kvs=>exact .inl ⟨_,.inl J⟩|t kvs=>exact .inr ⟨_,.inl J⟩
   . refine h2 g e1 λv F1 H1 s1 pv=>h4 s1.gs e2 λz L H2 s2 M=>?_;split at l
     . rename_i m1 q1;obtain⟨O,e3⟩:=aD l;clear l;subst e3;obtain⟨o,y,eD⟩:=cU O;clear O;obtain⟨w,e5,e6⟩:=map_some eD;subst e6;obtain⟨a1,o1,U,y2,y3,y4⟩:=s2.gs.own i _ _ q1 rfl;rw[I]at U;cases U;cases(show o1=m1.ho from y4);obtain⟨j,rfl⟩:∃j,u=.int j:=by cases m1 with|t kvs=>cases u<;>cases y|k kvs=>cases u<;>first|exact⟨_,rfl⟩|cases y
       rw[dU e5]at M;rw[pv.int,M.int];refine⟨o.map V.int,KH (.inl y2) y,?_⟩;have:(o.map V.int).getD (V.int w)=V.int (o.getD w):=by cases o<;>rfl
       rw[this];exact k _ L H2 (s1.trans s2) (show Rep X.K L _ _ from bY _)
     .cases l
 .cases e
theorem Nx{x:Str}{C f:Pos}{pk:P}(hu:X.A.units+8<cLine)(J:X.N[i]?=some x)(L:vC X.env.scope x)(M:SX X c a pk)(he:SX X c e p)(hs:swapsWith e (some (.Subscript (.Name x C) a f)) pos.line X.env=pure false:=by rfl)(hd:(x==("__debug__":Str))=false:=by decide)(s:(x==("__classdict__":Str))=false:=by decide):SS X c n (.Assign [.Subscript (.Name x C) a f] e pos) (.dput i pk p):=by
 obtain⟨ta,h1,O⟩:=M.cL;refine cz (Ea (by omega) (dO J L hd s) h1 he.ev hs) ?_;rintro D σ H⟨F,ρ,fl,Q,g,e,k⟩;rw[_H.X19]at e;obtain⟨r,u,U,o⟩:=aj e;clear e;refine⟨F,ρ,r,u,g,U,λv F1 H1 s1 W=>?_⟩;split at o
 . rename_i m0 Y;obtain⟨E,Z,e2,h⟩:=aj o;clear o;obtain⟨z,o0,B,w2,w3,w4⟩:=s1.gs.own i _ _ Y rfl;refine⟨.ref z,B,O s1.gs e2 λy F2 H2 s2 py=>?_⟩;split at h
   . rename_i m w q;split at h;.rename_i G l;cases h;obtain⟨a1,o1,I,y2,y3,y4⟩:=s2.gs.own i _ _ q rfl;rw[B]at I;cases I;cases(show o1=m.ho from y4);cases(show v=.int w by have:Rep X.K F1 v (.int w):=W;rwa[Rep]at this);refine⟨z,upd H2 z G.ho,rfl,?_,k F2 σ _ ((s1.trans s2).trans (s2.gs.adl q B))⟩;cases m with|t kvs=>cases E<;>cases l|k kvs=>cases E with|int j=>obtain⟨hl,l⟩:=bN (show(if kvs.length<lim then some (Dc.k (putD kvs j w))else none)=some G from l);subst l;rw[py.int];refine .inl ⟨kvs.map uH,Sum.inl j,y2,rfl,by rw[length_map,sizeLine_eq];exact hl,?_⟩;rw[SN];rfl|_=>cases l
     .cases h
   .cases h
 .cases o
end
end _H
namespace _L
open PySem Spec PyProof.Rows
noncomputable def Itk(a:Addr)(b:Obj)(kvs:List (Key×V)):It:=⟨λi H=>H a=some (.dz b (.dK kvs))/\i<kvs.length,λi H x H'=>H'=H/\∃p,kvs[i]?=some p/\x=kV p.1,λi H=>H a=some (.dz b (.dK kvs))/\kvs.length<=i⟩
theorem KV.get:∀{κ:Type}{kvs:List (κ×V)}{vs:List (κ×Value)}{i:Nat}{p:κ×V},KV kvs vs->kvs[i]?=some p->∃v,vs[i]?=some (p.1,v)|_,_,_,_,_,.nil,e=>by simp at e|_,_,_,0,_,.cons r _,e=>by simp at e;subst e;exact⟨_,by rw[List.getElem?_cons_zero,r.1]⟩|_,_,_,i+1,p,.cons _ t,e=>by obtain⟨v,h⟩:=KV.get (i:=i) (p:=p) t (by simpa using e);exact⟨v,by simpa using h⟩
theorem uP{X:Cx}{b:List (Addr×Obj)}{σ:St}{H:Hp}{s:Shared}{a:Addr}{c:Obj}{kvs:List (Key×V)}{es:Array DictEntry}{ep:Nat}(I:Inv X b σ H s)(h:H a=some (.dz c (.dK kvs)))(hd:c.data=.dict es ep):(a==sysModules)=false/\∃vs,KV kvs vs/\s.heap.DictAt (bh X.prog X.w) a vs ep:=by obtain⟨ho,hz,f,vs,r,dd⟩:=(show bA X.prog X.w H s.heap a (.dz c (.dK kvs))from I.hok a _ h);obtain⟨o,g,i,h1,j,e,k⟩:=dd;rw[ho]at h1;cases h1;rw[hd]at e;cases e;exact⟨f,vs,r,⟨c,es,ho,j,hd,k⟩⟩
theorem Ur{P:Program}{w:World}{k:Key}{u:Value}(h:(bh P w).is k u=true):RelV (kV k) u:=by
 rcases bF h with⟨i,t,rfl,rfl⟩|⟨x,t,rfl,rfl⟩;.exact⟨t,rfl⟩
 .exact⟨t,rfl⟩
theorem Fo{P:Program}{w:World}{K:PySem.W.Frag}{B:Expr}(a it:Addr)(y:Obj)(kvs:List (Key×V))(es:Array DictEntry)(ep:Nat)(hd:y.data=.dict es ep):Turn P w K B (Itk a y kvs) [it] it (λi h=>h.IsKeyIter it a i kvs.length ep)where
 mem:=by simp
 obj:=λi h st b g=>by
  have e:b=it:=by simpa using g
  subst e;obtain⟨o,e,c,d⟩:=st;exact⟨o,e,λv z=>by rw[d]at z;cases z⟩
 keep:=λi h h' st k=>st.at λo e=>k it (by simp) o e;item:=by intro X n p q hc i f s σ H E I m st t;subst n p q;obtain⟨x,hi⟩:=t;obtain⟨C,vs,r,dd⟩:=uP I x hd;have l:vs.length=kvs.length:=(Paired.length r).symm;obtain⟨v,G⟩:=KV.get r (show kvs[i]?=some kvs[i]by simp[hi]);obtain⟨f0,f1,f2,f3,f4,f5⟩:=m it (by simp);refine wpAny_pyNext_dict_item (by rw[l];exact st) dd G λu h' J j L=>?_;have M:Inv X f σ H {s with heap:=h'}:=I.turned (t':=s.toks) (λb o g e=>(L.2 b g).trans e) f0 f1 f3 f4 f5;rw[l]at j;obtain⟨o,e,c,d⟩:=id j;exact⟨u,rfl,Dt (s:={s with heap:=h'}) e c d (by decide) ⟨_,H,M,Ur J,⟨rfl,_,by simp[hi],rfl⟩,j,λb g=>(m b g).1⟩⟩
 done:=by intro X n p q hc i f s σ H E I m st t;subst n p q;obtain⟨x,hi⟩:=t;obtain⟨C,vs,r,dd⟩:=uP I x hd;have l:vs.length=kvs.length:=(Paired.length r).symm;obtain⟨f0,f1,f2,f3,f4,f5⟩:=m it (by simp);refine wpAny_pyNext_dict_end (I.ok.hd hc) (by rw[l];exact st) dd (by simp[l,hi]) λh' he=>⟨rfl,?_⟩;exact I.turned (t':=s.toks) (λb o g e=>he b o g e) f0 f1 f3 f4 f5
 self:=λA i s Q E st N=>wpAny_pyIter_keyiter st N
section
variable{X:Cx}{tg:Expr}
theorem Nu{l:Expr}{k:TE}(n:PE X l k):PI X tg l (λσ H R=>k σ H λx f=>∃a c kvs,x=.ref a/\f a=some (.dz c (.dK kvs))/\R (Itk a c kvs) f):=by
 intro g s σ H R I h;refine bU (n g s σ H _ I h) ?_;rintro v s1⟨x,f,j,r1,a,c,kvs,e,p,q⟩;subst e;cases r1;obtain⟨ho,hz,t,vs,r,dd⟩:=(show bA X.prog X.w f s1.heap a (.dz c (.dK kvs))from j.hok a _ p);obtain⟨o,es,ep,h1,u,m,y⟩:=id dd;rw[ho]at h1;cases h1;have i:vs.length=kvs.length:=(Paired.length r).symm;refine wpAny_pyIter_dict (knd:=bh X.prog X.w) (kvs:=vs) (ep:=ep) t ⟨c,es,ho,u,m,y⟩ ?_;refine⟨s1.heap.objs.size,[s1.heap.objs.size],_,_,f,rfl,j.kept (t':=s1.toks) λb o e=>gY e,Fo a _ c kvs es ep m,⟨_,get?_push_size _ rfl,rfl,by rw[i];rfl⟩,λb z=>?_,q⟩;have e:b=s1.heap.objs.size:=by simpa using z
 subst e;exact j.Es (eG) (j.hok.fresh (eG))
end
end _L
namespace _H
open PySem _L Spec PyProof.Rows
section
variable{X:Cx}{c:Call}{tg e:Expr}{p:P}
theorem O1{ks:List Int}{es:List (Key×V)}{j:Nat}{p:Key×V}{i:Int}(h:es.map (·.1)=ks.map (Sum.inl:Int->Key))(a:es[j]?=some p)(b:ks[j]?=some i):p.1=Sum.inl i:=by
 have:(es.map (·.1))[j]?=(ks.map (Sum.inl:Int->Key))[j]?:=by rw[h]
 rw[getElem?_map,getElem?_map,a,b]at this;exact Option.some.inj this
theorem ux:∀{ks:List Int}{vs:List V},ks.length=vs.length->(ent ks vs).map (·.1)=ks.map (Sum.inl:Int->Key)|[],[],_=>rfl|k::ks,v::vs,h=>by have:=ux (ks:=ks) (vs:=vs) (by simpa using h);unfold ent at this ⊢;simpa using this|[],_::_,h=>by simp at h|_::_,[],h=>by simp at h
theorem Pj(h:SX X c e p):SI X c tg e (.blt .keys [p]):=by
 unfold SI;obtain⟨ta,h1,U⟩:=h.cL;refine sU (Nu h1) ?_;rintro σ H R⟨F,ρ,A,B,g,W,k⟩;obtain⟨r,o,I,Y⟩:=aj (show((_H.ev c (.blt .keys [p]) ρ).bind λr ρ=>lift (items r.d) ρ)=.ok A B from W);obtain⟨J,Z⟩:=aD Y;subst Z;rw[_H.E17]at I;obtain⟨d,ac,e1,eE⟩:=aj I;obtain⟨y,e4⟩:=aD eE;subst e4;refine U g e1 λv F' H' s L=>?_;have hd:∃(ks:List Int)(es:List (Key×V))(a:Addr)(b:Obj),A=ks.map D.int/\v=.ref a/\H' a=some (.dz b (.dK es))/\es.map (·.1)=ks.map (Sum.inl:Int->Key):=by cases d with
  |eN m=>cases m with|k kvs=>cases y;cases J;obtain⟨a,b,rfl,f⟩:=L.eN s.gs.sub;exact⟨kvs.map (·.1),kvs.map uH,a,b,by rw[map_map];rfl,rfl,f,by rw[map_map,map_map];rfl⟩|t kvs=>cases y
  |dv ks ae=>cases y;cases J;obtain⟨a,b,vs,rfl,f,rs,hl⟩:=L.dv s.gs.sub;exact⟨ks,ent ks vs,a,b,rfl,rfl,f,ux (by rw[rs.length];exact hl)⟩|_=>cases y
 obtain⟨ks,es,a,b,rfl,rfl,f,u⟩:=hd;have C:es.length=ks.length:=by have:=congrArg List.length u;simpa using this
 refine⟨a,b,es,rfl,f,k _ F' H' ⟨s.gs,λn j M o E H2 s2=>?_,λM o E H2 s2=>⟨s.trans s2,λv r rr=>rr.later s⟩⟩⟩;have gm:=s.gs.more (n:=n) (τ:=replicate n none) (by simp);have w:=s2.keep a _ f λ⟨j,⟨t,dt,q1,q2⟩,q3⟩=>by obtain⟨a',o',N,O,z3,G⟩:=gm.own j t dt q1 q2;rw[q3]at N;cases N;rw[f]at O;cases O;cases dt with|l A=>obtain⟨xs,z,_⟩:=G;cases z|d m=>cases m<;>cases G|v kvs=>obtain⟨xs,z,_⟩:=G;cases z
 refine⟨λd hd=>?_,λQ=>⟨w,by rw[C];simpa using Q⟩⟩;have Q:j<ks.length:=by have:=(eV hd).1;simpa using this
 refine⟨⟨w,by omega⟩,λx m7⟨e5,q,e6,e7⟩=>?_⟩;subst e5;refine⟨M,.refl s2.gs.sub,?_⟩;rw[getElem?_map]at hd;obtain⟨i,e8,e9⟩:=map_some hd;rw[e7,O1 u e6 e8,<-e9];exact bY _
end
end _H
namespace _H
open PySem _L Spec PyProof.Rows Calls W
section
variable{X:Cx}{c:Call}{a:Expr}{pa:P}{pos:Pos}
theorem oG:∀{ns:List Int}{b:List Value},IntsAre b ns->Vals (ns.map V.int) b|_,_,.nil=>.nil|_,_,.cons n t r=>.cons ⟨t,rfl⟩ (oG r)
theorem uV{K:PySem.W.Frag}{F:Hp}:∀ns:List Int,aH K F (ns.map V.int) (ns.map D.int)|[]=>.nil|n::ns=>.cons (bY n) (uV ns)
end
end _H
namespace _H
open PySem _L Spec PyProof.Rows
theorem Inv.adC{X:Cx}{c:List (Addr×Obj)}{σ:_L.St}{H:Hp}{s:Shared}{a:Addr}{kvs:List (List Key×V)}(I:_L.Inv X c σ H s)(h:H a=some (.dT kvs)):∃o,_L.Inv X c σ (upd H a (.dz o (.dT kvs))) s:=by obtain⟨z,y,xs,r,o,es,ep,h1,f,g,i,j⟩:=(show bA X.prog X.w H s.heap a (.dT kvs)from I.hok a _ h);refine⟨o,I.write (h':=s.heap) (t':=s.toks) (by rw[h];exact trivial) (.inl rfl) (λb u _ e=>e) ⟨o,h1⟩ ⟨h1,z,y,xs,KT.keeps r λb ys q=>?_,o,es,ep,h1,f,g,i,j⟩⟩;rw[aB (by rintro rfl;rw[h]at q;cases q)];exact q
section
variable{X:Cx}{c:Call}{n:Nat}{a b e:Expr}{p pa pb:P}{pos:Pos}{es:List Expr}{ps:List P}{x1:Nat}{tpos:Pos}
theorem Q3{i:Nat}{x:Str}{z:Pos}(A:X.N[i]?=some x)(B:vC X.env.scope x)(hd:(x==("__debug__":Str))=false:=by decide)(w:(x==("__classdict__":Str))=false:=by decide):SX X c (.Name x z) (.vw i):=by
 have h:=dO (X:=X) (pos:=z) A B hd w;refine⟨?_,λi h=>by cases h⟩;rintro f s σ H Q I⟨F,ρ,r,C,g,e,k⟩;rw[_H.E25]at e;split at e
 . rename_i m q;cases e;obtain⟨a,h1,j,l⟩:=g.Du q;refine bU (h f s σ H (λv H'=>v=.ref a/\H'=H) I ⟨.ref a,h1,rfl,rfl⟩) λu s1⟨v,H1,I1,r1,e1,e2⟩=>?_;subst e1 e2;have E:∃o,_L.Inv X f σ (upd H1 a (.dz o m.ho)) s1:=by cases m with|k kvs=>exact Inv.Jt I1 j|t kvs=>exact Inv.adC I1 j
   obtain⟨o,y⟩:=E;exact⟨.ref a,_,y,r1,k _ _ _ (l o).1 (l o).2⟩
 .rename_i kvs q;cases e;obtain⟨a,vs,h1,j,l⟩:=g.Di q;refine bU (h f s σ H (λv H'=>v=.ref a/\H'=H) I ⟨.ref a,h1,rfl,rfl⟩) λu s1⟨v,H1,I1,r1,e1,e2⟩=>?_;subst e1 e2;obtain⟨o,y⟩:=Inv.Jt I1 j;exact⟨.ref a,_,y,r1,k _ _ _ (l o).1 (l o).2⟩
 .rename_i b G q;cases e;obtain⟨v,F',h1,j,l⟩:=g.freeze q;exact h f s σ H Q I ⟨v,h1,k v F' H j l⟩
 .rename_i b d q;cases e;obtain⟨v,h1,j⟩:=g.val i b d q;exact h f s σ H Q I ⟨v,h1,k v F H (.refl g) j⟩
 .cases e
end
end _H
namespace _H
open PySem _L Spec PyProof.Rows
section
variable{K:PySem.W.Frag}{F H F' H':Hp}{ρ ρ':List Sl}{σ σ':_L.St}
noncomputable def Kp(ρ:List Sl)(σ:_L.St)(H:Hp)(a:Addr)(o:HO):Prop:=H a=some o/\¬ Own ρ σ a
theorem Kp.stp{a:Addr}{o:HO}(h:Kp ρ σ H a o)(s:aC K F ρ σ H F' ρ' σ' H'):Kp ρ' σ' H' a o:=⟨s.keep a o h.1 h.2,λz=>(s.xM a z).elim h.2 λe=>by rw[h.1]at e;cases e⟩
structure Wt(K:PySem.W.Frag)(F:Hp)(ρ:List Sl)(σ:_L.St)(H:Hp)(a:Addr)(ds:List D):Prop where
 ex:∃xs,Kp ρ σ H a (.lst xs)/\aH K F xs ds
 fr:F a=none
theorem Wt.stp{a:Addr}{b:List D}(h:Wt K F ρ σ H a b)(s:aC K F ρ σ H F' ρ' σ' H'):Wt K F' ρ' σ' H' a b:=by obtain⟨⟨xs,h1,c⟩,e⟩:=h;refine⟨⟨xs,h1.stp s,c.mono s.cF⟩,?_⟩;cases q:F' a with|none=>rfl|some o=>
   rcases s.xK a e (by rw[q];simp)with z|z;.exact absurd z h1.2
   .rw[h1.1]at z;cases z
end
end _H
namespace _H
open PySem PyProof.Rows
section
variable{M:Model}{A:Around}{E:Value->Shared->Prop}{s:Shared}{κ:SortKind}{ok:Keyed->Prop}{K:Keyed->Int}
theorem Ft(R:Rk M A E s κ ok K){st b:SortSt}{xs:Array Keyed}{lo n:Nat}{Q:Option Nat->SortSt->Prop}(h:Sx κ ok st xs b)(f:lo+n<=xs.size)(h1:1<=n)(sg:Seg K xs lo (lo+n))(q:Q (some n) b):wpS M A E s (countRun' lo n) Q b:=by
 have one:∀ys:Array Keyed,Seg K ys lo (lo+1):=λys i j k l o=>by rw[show i=j by omega];exact Int.le_refl _
 show wpS M A E s (_>>=_) Q b;refine wpS_bind (Sv (a:=1) (n:=n) R h f (le_refl 1) h1 (one xs) λm m1 p sm e=>?_);dsimp only;have c1:m=n:=by
  by_cases c:m=n;.exact c
  .have g:=e.resolve_left c;have:=sg (lo+m-1) (lo+m) (by omega) (by omega) (by omega);omega
 subst c1;rw[if_pos (by simp)];exact wpS_pure q
theorem SR.aar{x0 ys:Array Keyed}{l:List Rn}{lo n:Nat}{st:SortSt}(h:SR κ ok K x0 ys l lo st)(h1:1<=n)(a:lo+n<=ys.size)(hs:Seg K ys lo (lo+n)):SR κ ok K x0 ys (l++[(lo,n,0)]) (lo+n) (setPending st ((pendingOf st).push (lo,n,0))):=⟨h.kind,h.arr,h.fail,by show((pendingOf st).push (lo,n,0)).toList=_;rw[Array.toList_push,h.pend],h.perm,h.ok,vV.mpr ⟨lo,h.rns,rfl,h1,hs,rfl⟩,a⟩
theorem uY:∀(f n r:Nat),r<=1->n<64\/n<=f->minRun' f n r<=n+r/\(64<=n->minRun' f n r<=n)
 |0,n,r,hr,h=>by have e:minRun' 0 n r=n+r:=rfl;rw[e];exact⟨eG,λz=>by omega⟩|f+1,n,r,hr,h=>by
   rw[minRun'_succ];by_cases c:n<64;.rw[if_pos c];exact⟨eG,λz=>by omega⟩
   .rw[if_neg c];have a:=uY f (n/2) (max r (n%2)) (by omega) (by omega);exact⟨by omega,λ_=>by omega⟩
theorem JN(R:Rk M A E s κ ok K){x0:Array Keyed}{Q:Unit->SortSt->Prop}{st:SortSt}(h:SR κ ok K x0 x0 [] 0 st)(sg:Seg K x0 0 x0.size)(h1:1<=x0.size)(q:∀a,arrOf a=x0->failedOf a=none->Q () a):wpS M A E s sortRuns' Q st:=by
 rw[sortRuns'_eq];refine wpS_bind (wpS_get ?_);dsimp only;simp only[h.arr];have j:minRun' x0.size x0.size 0<=x0.size:=(uY x0.size x0.size 0 (by omega) (.inr (eG))).1;generalize minRun' x0.size x0.size 0=o at j;refine wpS_bind (wpS_mono (wpS_forRange (I:=λx c a=>(c=(none,0)/\SR κ ok K x0 x0 [] 0 a/\x=0)\/(c=(none,x0.size)/\SR κ ok K x0 x0 [(0,x0.size,0)] x0.size a)) (Q:=λc a=>c=(none,x0.size)/\SR κ ok K x0 x0 [(0,x0.size,0)] x0.size a) ?_ ?_ (.inl ⟨rfl,h,rfl⟩)) ?_)
 . rintro x c f _ k(⟨rfl,b,rfl⟩|⟨rfl,b⟩)
   . dsimp only;rw[if_neg (by omega)];refine wpS_bind (Ft R b.sx (lo:=0) (n:=x0.size-0) (by omega) (by omega) (by simpa using sg) ?_);dsimp only;rw[if_neg (by omega)];refine wpS_bind (wpS_get ?_);have l:(pendingOf f).back?=none:=by have:pendingOf f=#[]:=Array.toList_inj.mp b.pend;rw[this];rfl
     rw[l];dsimp only;refine wpS_bind (wpS_modify (wpS_pure (.inr ⟨by simp,?_⟩)));have:=b.aar (n:=x0.size-0) (by omega) (by omega) (by simpa using sg);simpa using this
   .dsimp only;rw[if_pos (eG)];exact wpS_pure ⟨rfl,b⟩
 . rintro c f(⟨rfl,b,e⟩|⟨rfl,b⟩);.omega
   .exact⟨rfl,b⟩
 . rintro c f⟨rfl,b⟩;dsimp only;refine wpS_bind (wpS_mono (wpS_forRange (I:=λx c a=>c=(none,())/\SR κ ok K x0 x0 [(0,x0.size,0)] x0.size a) (Q:=λc a=>c=(none,())/\SR κ ok K x0 x0 [(0,x0.size,0)] x0.size a) ?_ (λ_ _ h=>h) ⟨rfl,b⟩) ?_)
   . rintro x c g _ k⟨rfl,i⟩;refine wpS_bind (wpS_get ?_);try dsimp only
     have m:(pendingOf g).size<=1:=by rw[<-length_toList,i.pend];simp
     rw[if_pos m];exact wpS_pure ⟨rfl,i⟩
   .rintro c g⟨rfl,i⟩;dsimp only;exact wpS_pure (q g i.arr i.fail)
end
end _H
namespace _H
open PySem W PyProof.Rows Calls _L Spec
section
variable{prog:Program}{w:World}{A:Around}{E:Value->Shared->Prop}{s:Shared}{vs:List Value}{κ:SortKind}{P:Value->D->Prop}{ds:List D}
theorem Ip{a:Addr}{n:Nat}{O:PySem.Fin->Shared->Prop}(ho:s.heap.get? a=some (seqObj "list" vs.toArray n))(so:sortable ds=true)(hz:vs.length<=16777216)(L:Paired P vs ds)(fn:∀u d e,P u d->P u e->cY d=cY e)(z:ds.Pairwise λa b=>n6 a b=true)(N:∀h',(∀b o,b≠a->s.heap.get? b=some o->h'.get? b=some o)->∀C:SortKind->Shared->Prop,C κ {s with heap:=h'}->2<=vs.length->wpAny (model prog w) A (keyKind' vs.toArray) C (λ_ _=>False) {s with heap:=h'})(hl:∀h',(∀b o,b≠a->s.heap.get? b=some o->h'.get? b=some o)->∀u v d e,P u d->P v e->∀C:Bool->Shared->Prop,C (bC (cY d) (cY e)) {s with heap:=h'}->wpAny (model prog w) A (keyLt' κ u v) C (λ_ _=>False) {s with heap:=h'})(h:∀h' c p,(∀b o,b≠a->s.heap.get? b=some o->h'.get? b=some o)->p.Perm (List.range vs.length)->pick .non p ds=RB ds->h'.get? a=some (seqObj "list" (pick .none p vs).toArray c)->O (.done (.ret .none)) {s with heap:=h'}):wpAny (model prog w) A (Builtin.«list.sort» ⟨[.ref a],[]⟩) O E s:=by
 have ha:a<s.heap.objs.size:=lt_size ho;have B:vs.length=ds.length:=Paired.length L;obtain⟨l,G⟩:∃l,(s.heap.update a (Obj.mapSeq λ_=>(#[]:Array Value))).get? a=some (seqObj "list" #[] l):=⟨_,get?_update_seq ho λ_=>#[]⟩;rw[list_sort_plain];refine wpAny_bind (listItems_at ho rfl ?_);refine wpAny_bind (listUpdate_at ho rfl ?_ (by rw[size_toArray,sizeLine_eq];omega) (wB));refine wpAny_bind (seqEpoch_at G rfl ?_);refine wpAny_bind (wpAny_newTuple ?_ (by show vs.length<=_;rw[sizeLine_eq];omega));refine wpAny_bind (wpAny_newList ?_ (wB));refine wpAny_holding ?_;generalize hH:(((s.heap.update a (Obj.mapSeq λ_=>(#[]:Array Value))).push {cls:=.type "tuple",data:=.seq vs.toArray}).push {cls:=.type "list",data:=.seq #[]}:Heap)=m;have g:m.get? a=some (seqObj "list" #[] l):=by rw[<-hH];exact gY (gY G)
 have keep:∀b o,b≠a->s.heap.get? b=some o->m.get? b=some o:=λb o M e=>by rw[<-hH];exact gY (gY ((get?_update_other _ _ (Ne.symm M)).trans e))
 have fin:∀p:List Nat,p.Perm (List.range vs.length)->pick .non p ds=RB ds->O (.done (.ret .none)) {s with heap:=m.update a (Obj.mapSeq λ_=>toArray (pick .none p vs))}:=by intro p h1 f;obtain⟨c2,U⟩:∃c2,(m.update a (Obj.mapSeq λ_=>toArray (pick Value.none p vs))).get? a=some (seqObj "list" (pick Value.none p vs).toArray c2):=⟨_,get?_update_seq g λ_=>toArray (pick Value.none p vs)⟩;exact h _ c2 p (λb o M e=>(get?_update_other _ _ (Ne.symm M)).trans (keep b o M e)) h1 f U
 show wpAny (model prog w) A _ O E {s with heap:=m};dsimp only;by_cases f:vs.toArray.size<2
 . rw[if_pos f,if_pos f];refine wpAny_bind (wpAny_pure ?_);rw[StateT.run_pure];refine wpAny_bind (wpAny_pure ?_);dsimp only;have eo:(arrOf (SortSt.mk' general' (vs.toArray.zip vs.toArray) #[] 7 none)).map (·.2)=toArray (pick Value.none (List.range vs.length) vs):=by rw[oF];apply Array.toList_inj.mp;show((vs.toArray.zip vs.toArray).map (·.2)).toList=vs;simp[List.map_snd_zip]
   rw[eo];refine wpAny_bind (seqEpoch_at g rfl ?_);refine wpAny_bind (listUpdate_at g rfl ?_ (wB) (by rw[size_toArray,rT (.refl _),sizeLine_eq];omega));simp only[bne_self_eq_false,false_eq_true,if_false];refine wpAny_pure (fin _ (.refl _) ?_);rw[B,oF];refine rZ so (.refl _) ?_;match ds,(show ds.length<2 by simp at f;omega)with|[],_=>exact .nil|[_],_=>exact List.pairwise_singleton ..|_::_::_,f=>simp at f;omega
 . rw[if_neg f,if_neg f];have W:2<=vs.length:=by simpa using f
   refine wpAny_bind (N m keep _ ?_ W|>λq=>wpAny_mono q (λ_ _ x=>x) λ_ _ x=>x.elim);have H:(vs.toArray.zip vs.toArray).toList=(List.range vs.length).map λi=>(vs.getD i Value.none,vs.getD i Value.none):=by
    refine ext_getElem (by simp) λi h1 f=>?_;have:i<vs.length:=by simpa using f
    simp[this]
   have X:∀x∈(vs.toArray.zip vs.toArray).toList,∃d,d∈ds/\P x.1 d:=λx hx=>by rw[H]at hx;obtain⟨i,hi,rfl⟩:=mem_map.mp hx;have:=lQ L i (List.mem_range.mp hi);exact⟨_,this.2,this.1⟩
   have R:Rk (model prog w) A E {s with heap:=m} κ (λx=>∃d,d∈ds/\P x.1 d) (rkK P ds):=⟨by rintro x y Q st⟨d,d1,d2⟩⟨e,l,t⟩Y hq;rw[Dh fn d1 d2,Dh fn l t,G7 d1]at hq;rw[lt'_eq];refine wpS_bind (wpS_get ?_);rw[Y];refine wpS_bind (wpS_lift (wpAny_attempt (wpAny_mono (hl m keep x.1 y.1 d e d2 t (λb Z=>Z={s with heap:=m}/\b=bC (cY d) (cY e)) ⟨rfl,rfl⟩) ?_ λ_ _ h=>h.elim)));rintro b Z⟨rfl,rfl⟩;exact⟨rfl,wpS_pure hq⟩⟩;have at':∀k,k<vs.length->it (vs.toArray.zip vs.toArray) k=(vs.getD k .none,vs.getD k .none):=λk N=>by rw[Pr,H];simp[N]
   have hsz:(vs.toArray.zip vs.toArray).size=vs.length:=by simp
   have sg:Seg (rkK P ds) (vs.toArray.zip vs.toArray) 0 (vs.toArray.zip vs.toArray).size:=λi j _ ij jn=>by
    rw[hsz]at jn;rw[at' i (by omega),at' j jn];have a1:=lQ L i (by omega);have a2:=lQ L j jn;rw[Dh fn a1.2 a1.1,Dh fn a2.2 a2.1];by_cases e:i=j;.rw[e];exact Int.le_refl _
    . have I:=List.pairwise_iff_getElem.mp z i j (by omega) (by omega) (by omega);simp only[n6,not_eq_true']at I;have l:ds.getD i .non=ds[i]'(by omega):=by simp[show i<ds.length by omega]
      have t:ds.getD j .non=ds[j]'(by omega):=by simp[show j<ds.length by omega]
      rw[<-l,<-t,<-G7 a2.2,decide_eq_false_iff_not]at I;omega
   have run:=JN R (x0:=vs.toArray.zip vs.toArray) (st:=SortSt.mk' κ (vs.toArray.zip vs.toArray) #[] 7 none) (Q:=λ_ r=>∃p:List Nat,p.Perm (List.range vs.length)/\pick .non p ds=RB ds/\(arrOf r).map (·.2)=(pick Value.none p vs).toArray/\failedOf r=none) ⟨rfl,rfl,rfl,rfl,.refl _,X,rfl,wB⟩ sg (by rw[hsz];omega) λr l t=>by
     refine⟨List.range vs.length,.refl _,?_,?_,t⟩;.rw[B,oF];exact rZ so (.refl _) z
     .rw[l,oF];apply Array.toList_inj.mp;simp[List.map_snd_zip]
   refine wpAny_bind (wpAny_mono run ?_ λ_ _ e=>e);rintro⟨⟨⟩,r⟩Z⟨rfl,p,p1,p2,J,hf⟩;dsimp only;rw[J];refine wpAny_bind (seqEpoch_at g rfl ?_);refine wpAny_bind (listUpdate_at g rfl ?_ (wB) (by rw[size_toArray,rT p1,sizeLine_eq];omega));rw[hf];simp only[bne_self_eq_false,false_eq_true,if_false];exact wpAny_pure (fin _ p1 p2)
end
end _H
namespace _H
open PySem _L Spec PyProof.Rows Calls W
noncomputable def zG(nw:Addr->Option HO)(H:Hp):Hp:=λa=>match nw a with|some o=>some o|none=>H a
theorem wR{nw:Addr->Option HO}{H:Hp}{a:Addr}{o:HO}(h:nw a=some o):zG nw H a=some o:=by unfold zG;rw[h]
theorem iH{nw:Addr->Option HO}{H:Hp}{a:Addr}(h:nw a=none):zG nw H a=H a:=by unfold zG;rw[h]
theorem aaA{X:Cx}{g:List (Addr×Obj)}{σ:_L.St}{H:Hp}{s:Shared}{h':Heap}{t':Nat}{nw:Addr->Option HO}(I:_L.Inv X g σ H s)(k:∀b u,s.heap.get? b=some u->h'.get? b=some u)(h:∀a o,nw a=some o->s.heap.objs.size<=a)(new:∀a o,nw a=some o->bA X.prog X.w (zG nw H) h' a o):_L.Inv X g σ (zG nw H) {s with heap:=h',toks:=t'}:=by
 have no:∀a,a<s.heap.objs.size->nw a=none:=λa i=>by cases q:nw a with|none=>rfl|some o=>exact absurd (h a o q) (Nat.not_le_of_lt i)
 have f:∀a o,H a=some o->zG nw H a=some o:=λa o e=>by rw[iH (no a (I.hok.lt e))];exact e
 refine I.un ⟨λb u q _ _ _=>k b u q,λb u q _ _ _=>⟨u.slots,k b u q⟩,λb u q n _=>?_,λb u q _=>⟨u,k b u q⟩,λb xs q=>f b _ q,λb u xs q=>f b _ q,λb ps q=>⟨#[],by rw[f b _ q];simp⟩⟩ λb u e=>?_;.rw[iH (no b (lt_size q))];exact n
 .cases q:nw b with|some o=>rw[wR q]at e;cases e;exact new b _ q|none=>rw[iH q]at e;exact(I.hok b u e).stay (λc v _ z=>k c v z) (λc z=>f c _ z) λc xs z=>f c _ z
noncomputable def iv(l d:Addr):Heap->Prop:=λh=>h.IsItemsView l d
noncomputable def Ih:V->List V->Hp->VK->Prop:=λx xs H Q=>∃q a kvs,x=.ref q/\xs=[]/\H q=some (.dz a (.dK (map uH kvs)))/\∀l,H l=none->Q (.ref l) (upd H l (.ext (iv l q)))
noncomputable def rIt(X:Cx):List V->Hp->VK->Prop:=λxs H Q=>∃l q c kvs,xs=[.ref l]/\H l=some (.ext (iv l q))/\H q=some (.dz c (.dK (map uH kvs)))/\(kvs.length<=16777216/\kvs.Pairwise (λa b=>a.1<b.1))/\∃F,aJ F H/\∀v F' H',Ext F H F' H'->cG X.K F' H' H v (.own (kvs.map rA))->Q v H'
theorem yM{P:Program}{w:World}{h:Heap}:∀{kvs:List (Int×Int)}{vs:List (Key×Value)}{as:List Addr},KV (kvs.map uH) vs->as.length=vs.length->(∀(j:Nat)(a:Addr),as[j]?=some a->∃key k x,vs[j]?=some (k,x)/\(bh P w).is k key=true/\h.get? a=some {cls:=.type "tuple",data:=.seq #[key,x]})->∀(j:Nat)(a:Addr),as[j]?=some a->∃p,kvs[j]?=some p/\∃t u,h.get? a=some {cls:=.type "tuple",data:=.seq #[Value.int p.1 t,Value.int p.2 u]}
 |[],_,as,.nil,f,_,j,a,e=>by cases as with|nil=>cases e|cons _ _=>simp at f
 |p::kvs,_,as,.cons (b:=q) r t,f,hk,j,a,e=>by cases as with|nil=>cases e|cons b as=>cases j with
     |zero=>
       obtain⟨key,k,x,g,m,n⟩:=hk 0 a e;simp at g;have o:k=Sum.inl p.1:=by have z:=r.1;rw[g]at z;exact z.symm
       have s:∃u,x=Value.int p.2 u:=by have z:=r.2;rw[g]at z;exact z
       subst o;obtain⟨u,rfl⟩:=s;obtain⟨i,v,l,rfl⟩|⟨_,_,l,_⟩:=bF (show qj (Sum.inl p.1) key=true from m);.cases l;exact⟨p,rfl,v,u,n⟩
       .cases l|succ j=>exact yM t (by simpa using f) (λi c z=>by simpa using hk (i+1) c (by simpa using z)) j a (by simpa using e)
noncomputable def tpV(p:Int×Int):HO:=.tup [.int p.1,.int p.2]
noncomputable def qM:List Addr->List (Int×Int)->Addr->Option HO|a::as,p::ps,b=>if b=a then some (tpV p)else qM as ps b|_,_,_=>none
theorem qL:∀{as:List Addr}{ps:List (Int×Int)}{b:Addr}{o:HO},qM as ps b=some o->∃(j:Nat)(p:Int×Int),as[j]?=some b/\ps[j]?=some p/\o=tpV p
 |a::as,p::ps,b,o,h=>by
   unfold qM at h;split at h;.rename_i e;cases h;subst e;exact⟨0,p,rfl,rfl,rfl⟩
   .obtain⟨j,q,h1,c,f⟩:=qL h;exact⟨j+1,q,by simpa using h1,by simpa using c,f⟩|[],_,_,_,h=>by simp[qM]at h|_::_,[],_,_,h=>by simp[qM]at h
theorem BV:∀{as:List Addr}{ps:List (Int×Int)},as.Pairwise (·<·)->∀{j:Nat}{b:Addr}{p:Int×Int},as[j]?=some b->ps[j]?=some p->qM as ps b=some (tpV p)|[],_,_,_,_,_,h,_=>by simp at h|_::_,[],_,_,_,_,_,h=>by simp at h|a::as,q::ps,c,j,b,p,h1,f=>by unfold qM;cases j with|zero=>cases h1;cases f;rw[if_pos rfl]|succ j=>
     have h1:as[j]?=some b:=by simpa using h1
     have:=(List.pairwise_cons.mp c).1 b (mem_of_getElem? h1);rw[if_neg (λe=>by rw[e]at this;exact lt_irrefl _ this)];exact BV (List.pairwise_cons.mp c).2 h1 (by simpa using f)
theorem uv:∀as:List Addr,Vals (as.map V.ref) (as.map Value.ref)|[]=>.nil|_::as=>.cons rfl (uv as)
theorem Dg{K:PySem.W.Frag}{F:Hp}:∀{as:List Addr}{ps:List (Int×Int)},as.length=ps.length->(∀(j:Nat)(b:Addr)(p:Int×Int),as[j]?=some b->ps[j]?=some p->F b=some (tpV p))->aH K F (as.map V.ref) (ps.map rA)|[],[],_,_=>.nil|a::as,p::ps,c,h=>.cons (by have:=h 0 a p rfl rfl;rw[show rA p=.tup [.int p.1,.int p.2]from rfl,Rep];refine⟨a,_,rfl,.inl (.inl this),.cons (by rw[Rep]) (.cons (by rw[Rep]) .nil)⟩) (Dg (by simpa using c) λj b q h1 e=>h (j+1) b q (by simpa using h1) (by simpa using e))|[],_::_,c,_=>by simp at c|_::_,[],c,_=>by simp at c
theorem Ec{h:Heap}:∀{as:List Addr}{ps:List (Int×Int)},as.length=ps.length->(∀(j:Nat)(b:Addr),as[j]?=some b->∃p,ps[j]?=some p/\∃t u,h.get? b=some {cls:=.type "tuple",data:=.seq #[Value.int p.1 t,Value.int p.2 u]})->Paired (qz h) (as.map Value.ref) (ps.map rA)|[],[],_,_=>.nil|a::as,p::ps,c,h=>.cons (by obtain⟨q,e,t,u,g⟩:=h 0 a rfl;cases e;exact⟨a,[Value.int p.1 t,Value.int p.2 u],[p.1,p.2],rfl,⟨_,g,rfl,0,rfl⟩,.cons _ _ (.cons _ _ .nil),by simp,rfl⟩) (Ec (by simpa using c) λj b h1=>by simpa using h (j+1) b (by simpa using h1))|[],_::_,c,_=>by simp at c|_::_,[],c,_=>by simp at c
theorem yH{prog:Program}{w:World}{A:Around}{E:Value->Shared->Prop}{s:Shared}{v d:Addr}{kvs:List (Key×Value)}{ep:Nat}{Q:List Value->Shared->Prop}(n:A.handled=none)(i:s.heap.IsItemsView v d)(j:s.heap.DictAt (bh prog w) d kvs ep)(p:kvs.length<=sizeLine)(t:∀(h':Heap)(f:Nat)(as:List Addr),(∀b o,s.heap.get? b=some o->h'.get? b=some o)->s.heap.objs.size<h'.objs.size->as.length=kvs.length->KdxG (bh prog w) kvs s.heap.objs.size h' as->Q (as.map Value.ref) {s with heap:=h',toks:=f}):wpAny (model prog w) A (collect (.ref v)) Q E s:=by
 have g:v<s.heap.objs.size:=let⟨_,h1,_⟩:=i;lt_size h1;have h:d<s.heap.objs.size:=j.lt_size;unfold collect;refine wpAny_bind (wpAny_runValue (codeAny_builtin F.entry_proto_collect ?_));rw[Around.under_plainId F.plain_proto_collect _];show wpAny _ A.in1 (newList []>>=λl=>again (.builtin "list.__iadd__" ⟨[l,.ref v],[]⟩)) _ _ s;refine wpAny_bind (wpAny_newObj_type (wpAny_pure ⟨plainId_quiet F.plain_list_iadd _,codeAny_builtin F.entry_list_iadd ?_⟩));rw[Around.under_plainId F.plain_list_iadd _];show wpAny _ A.in1 (listExtendWith (.ref s.heap.objs.size) (.ref v) (.ref s.heap.objs.size)) _ _ _;refine kdx_extend (A:=A) (R:=λr k=>match r with
  |.ok (.ret v)=>wpAny (model prog w) A (match v with
   |.ref a=>do let o<-load a match o.data with|.seq xs _=>pure xs.toList|_=>unsupported "internal:collect"
   |_=>unsupported "internal:collect") Q E k|.ok _=>False|.error e=>E e k) (s:={s with heap:=s.heap.push {cls:=.type "list",data:=.seq #[]}}) n (let⟨o,h1,q⟩:=i;⟨o,gY h1,q⟩) (j.at' λo e=>gY e) s.heap.objs.size (Nat.ne_of_gt g) (ne_of_lt h) _ 0 (get?_push_size _ rfl) (λh' f u B as x m y z c=>?_) p;refine wpAny_bind (wpAny_load m (wpAny_pure ?_));rw[c];exact t h' f as (λb o e=>x b o (ne_of_lt (lt_size e)) (gY e)) (lt_size m) y (z.low (by rw[size_push'];exact le_succ _))
section
variable{X:Cx}{c:Call}{a:Expr}{pa:P}{pos:Pos}
theorem K8:MtR X "dict.items" Ih:=by rintro f s σ H x xs v t Q I g h⟨q,i,kvs,rfl,rfl,j,k⟩;cases g;cases h;obtain⟨ho,hz,l,vs,r,dd⟩:=(show bA X.prog X.w H s.heap q (.dz i (.dK (kvs.map uH)))from I.hok q _ j);refine call_meetsIn PySem.F.slot_dict_items dd.typeIs PySem.F.entry_dict_items (PySem.F.args_dict_items_1 _) (meets_dict_items _ q l) ⟨⟨vs,dd⟩,?_⟩;have m:(s.heap.push {cls:=.type "dict_items",data:=.fields #[.ref q]}).IsItemsView s.heap.objs.size q:=⟨_,get?_push_size _ rfl,rfl,rfl⟩;refine⟨.ref s.heap.objs.size,_,I.laid (t':=s.toks) (o:=.ext (iv s.heap.objs.size q)) (λb o e=>gY e) (eG) ⟨m,⟨_,get?_push_size _ rfl⟩,λh1 u z k=>?_⟩,rfl,k _ (I.hok.fresh (eG))⟩;obtain⟨o,n,p⟩:=z;exact⟨o,k o n,p⟩
theorem U0(hc:X.calm=true):du X (.builtin "sorted") (rIt X):=by
 rintro al s σ H xs us Q I r⟨l,q,ob,kvs,hx,hl,hq,⟨am,ac⟩,F,sm,k⟩;subst hx;have so:sortable (kvs.map rA)=true:=by
  have:(kvs.map rA).all yp=true:=by rw[all_eq_true];intro x hx;obtain⟨p,_,rfl⟩:=mem_map.mp hx;rfl
  simp only[sortable,length_map,this,Bool.or_true,Bool.and_true,decide_eq_true_eq];omega
 have J:(kvs.map rA).Pairwise λa b=>n6 a b=true:=by rw[List.pairwise_map];refine ac.imp λ{a b}h=>?_;show(!bC [b.1,b.2] [a.1,a.2])=true;simp[bC];omega
 have ae:RB (kvs.map rA)=kvs.map rA:=(rZ so (.refl _) J).symm;rw[<-ae]at k;obtain⟨u,rfl,rx⟩:=r.one;cases rx;obtain⟨af,_,_⟩:=(show bA X.prog X.w H s.heap l (.ext (iv l q))from I.hok l _ hl);obtain⟨ho,hz,hS,vs,rv,dd⟩:=(show bA X.prog X.w H s.heap q (.dz ob (.dK (kvs.map uH)))from I.hok q _ hq);have L:vs.length=kvs.length:=by rw[<-Paired.length rv,length_map]
 obtain⟨f,es,ep,d1,d2,d3,d4⟩:=dd;have dat:s.heap.DictAt (bh X.prog X.w) q vs ep:=⟨f,es,d1,d2,d3,d4⟩;refine Calls.call_function_entry kind_sorted plain_sorted entry_sorted (args_sorted1 _) ?_;unfold Builtin.«sorted»;refine wpAny_bind (m:=checkCount "sorted" 1 1 _) (wpAny_pure ?_);refine wpAny_bind (yH (A:=X.A.in1) (I.ok.hd hc) af dat (by rw[L,sizeLine_eq];omega) λh1 M as kp hsz N hG=>?_);have hsz:=le_of_lt hsz;have g:as.length=kvs.length:=N.trans L;have pr:=yM rv N hG.pairs;have tt:Paired (qz h1) (as.map Value.ref) (kvs.map rA):=Ec g pr;have O:∀a o,qM as kvs a=some o->s.heap.objs.size<=a:=λa o e=>by obtain⟨j,p,U,_,_⟩:=qL e;exact le_of_lt (hG.above a (mem_of_getElem? U))
 have i:∀a o,qM as kvs a=some o->H a=none:=λa o e=>I.hok.fresh (O a o e);have B:aJ H (zG (qM as kvs) H):=λb o e=>by cases z:qM as kvs b with|none=>rw[iH z];exact e|some f=>rw[i b f z]at e;cases e
 have e0:Ext F H (zG (qM as kvs) F) (zG (qM as kvs) H):=by
  refine⟨B,λb o e=>?_,λb o e=>?_,λb n n'=>?_⟩;.cases z:qM as kvs b with|none=>rw[iH z];exact e|some f=>have n0:=i b f z;rw[sm b o e]at n0;cases n0
  .cases z:qM as kvs b with|none=>rw[iH z]at e ⊢;exact sm b o e|some f=>rw[wR z]at e ⊢;exact e
  .cases z:qM as kvs b with|none=>rw[iH z]at n';exact absurd n n'|some f=>rw[i b f z];rfl
 have rs:aH X.K (zG (qM as kvs) F) (as.map V.ref) (kvs.map rA):=Dg g λj b p h1 h2=>wR (BV hG.rise h1 h2);have vv:=uv as;have ag:∀b∈as,b<h1.objs.size:=λb hb=>hG.there hb;have W:(as.map Value.ref).length=kvs.length:=by rw[length_map];exact g
 refine wpAny_bind (wpAny_newList ?_ (by rw[W,sizeLine_eq];omega));generalize Y:(h1.push {cls:=.type "list",data:=.seq (as.map Value.ref).toArray}:Heap)=G;have Z:G.get? h1.objs.size=some (seqObj "list" (as.map Value.ref).toArray 0):=by rw[<-Y];exact get?_push_size _ rfl
 have Lp:∀b o,h1.get? b=some o->G.get? b=some o:=λb o e=>by rw[<-Y];exact gY e
 have E:∀b o,h1.get? b=some o->b≠h1.objs.size:=λb o e=>ne_of_lt (lt_size e);show wpAny _ _ _ _ _ {s with heap:=G,toks:=M};refine wpAny_bind (wpAny_holding (wpAny_call_entry slot_list_sort ⟨_,Z,rfl⟩ entry_list_sort ?body (args_list_sort _)));case body=>
  refine Ip (s:={s with heap:=G,toks:=M}) (κ:=tuples' (Value.type "int"!=Value.type "tuple")) Z so (by omega) tt Qf J (λh' k' C hC h2=>?_) (λh' k' u v d e hd he C hC=>?_) λh' cc p k' p1 p2 e=>?_;.exact Fw (s:={s with heap:=h',toks:=M}) (u6 (λb o z=>k' b o (E b o z) (Lp b o z)) tt) h2 hC
  .have kk:∀b o,h1.get? b=some o->h'.get? b=some o:=λb o z=>k' b o (E b o z) (Lp b o z);exact Ob (s:={s with heap:=h',toks:=M}) (pG kk hd) (pG kk he) hC
  . refine⟨_,rfl,wpAny_pure ⟨_,rfl,?_⟩⟩;have kk:∀b o,h1.get? b=some o->h'.get? b=some o:=λb o z=>k' b o (E b o z) (Lp b o z);have hL:qM as kvs h1.objs.size=none:=by cases z:qM as kvs h1.objs.size with|none=>rfl|some o=>obtain⟨j,p,U,_,_⟩:=qL z;exact absurd (ag _ (mem_of_getElem? U)) (lt_irrefl _)
    have ah:upd (zG (qM as kvs) H) h1.objs.size (.lst (pick .non p (as.map V.ref)))=zG (λb=>if b=h1.objs.size then some (.lst (pick .non p (as.map V.ref)))else qM as kvs b) H:=by
     funext b;unfold upd zG;by_cases z:b=h1.objs.size;.rw[if_pos z];simp only[if_pos z]
     .rw[if_neg z];simp only[if_neg z]
    have I':=aaA (t':=M) (h':=h') (nw:=λb=>if b=h1.objs.size then some (.lst (pick .non p (as.map V.ref)))else qM as kvs b) I (λb o z=>kk b o (kp b o z)) (λa o z=>by
     by_cases y:a=h1.objs.size;.rw[y];exact hsz
     .simp only[if_neg y]at z;exact O a o z) (λa o z=>by
     by_cases y:a=h1.objs.size;.simp only[if_pos y]at z;cases z;subst y;exact⟨by rw[rT p1,W,sizeLine_eq];omega,pick .none p (as.map Value.ref),cc,G9 vv,e⟩
     .simp only[if_neg y]at z;obtain⟨j,p',U,e2,rfl⟩:=qL z;obtain⟨ap,e3,t,u,e4⟩:=pr j a U;rw[e2]at e3;cases e3;exact⟨by rw[sizeLine_eq];simp,[Value.int p'.1 t,Value.int p'.2 u],.cons ⟨t,rfl⟩ (.cons ⟨u,rfl⟩ .nil),⟨_,kk _ _ e4,rfl,0,rfl⟩⟩);rw[<-ah]at I';refine⟨.ref h1.objs.size,_,I',rfl,?_⟩;have ai:aH X.K (zG (qM as kvs) F) (pick .non p (as.map V.ref)) (RB (kvs.map rA)):=by rw[<-p2];exact J0 rs
    refine zN e0.sub ai (by rw[iH hL];exact I.hok.fresh hsz) λv F2 G x rn=>k v F2 G ⟨e0.hs.trans x.hs,e0.fs.trans x.fs,x.sub,λc n n'=>?_⟩ ?_
    . by_cases e:zG (qM as kvs) F c=none;.have:=x.gr c e n';cases z:H c with|none=>rfl|some o=>rw[B c o z]at this;exact this
      .exact e0.gr c n e
    obtain⟨b,xs,q1,q2,q3,q4,q5⟩:=rn;refine⟨b,xs,q1,q2,q3,q4,?_⟩;cases z:H b with|none=>rfl|some o=>rw[B b o z]at q5;cases q5
theorem Km{o:Expr}{to:TE}{f cpos:Pos}(ho:PE X o to)(i:attributeBase o "items" X.env (eval o X.env)=eval o X.env:=by rfl)(j:(f.endLine==cpos.line)=true:=by rfl):PE X (.Call (.Attribute o "items" f) [] [] cpos) (λσ H Q=>to σ H λx l=>Ih x [] l Q):=by intro g s σ H Q I h;refine wpAny_Call_method0_late i j (bU (ho g s σ H _ I h) λv s1⟨x,l,I1,r1,q1⟩=>?_);obtain⟨q,t,kvs,rfl,_,u,k⟩:=id q1;cases r1;obtain⟨ho,hz,y,vs,r,m,es,ep,n,p,z⟩:=(show bA X.prog X.w l s1.heap q (.dz t (.dK (kvs.map uH)))from I1.hok q _ u);refine⟨"dict","dict.items",PySem.F.plainAttrs_dict,PySem.F.slot_dict_items,PySem.F.type_dict_items,⟨m,n,p.1⟩,λb e=>?_,Calls.callWith_builtin rfl (PySem.evalArgs_none (K8 g s1 σ l (.ref q) [] _ [] Q I1 rfl .nil q1))⟩;cases e;exact⟨m,n,p.2.1⟩
theorem Ow{x:Str}{p' f cpos:Pos}{o:Expr}(M:x="sorted")(hc:X.calm=true)(N:Gl X x)(O:X.mg x=none)(j:(f.endLine==cpos.line)=true)(U:SX X c o pa)(p:attributeBase o "items" X.env (eval o X.env)=eval o X.env:=by rfl):SX X c (.Call (.Name x p') [.Call (.Attribute o "items" f) [] [] cpos] [] pos) (.blt .Ld [pa]):=by
 subst M;obtain⟨ta,h1,W⟩:=U.cL;refine⟨cP (cX (U0 hc) N O boot_sorted (bz (Km h1 p j) cZ)) ?_,λi h=>by cases h⟩;rintro σ H Q⟨F,ρ,r,A,g,e,k⟩;have e:((cL (isVar pa) (_H.ev c pa) ρ).bind λx ρ=>lift (blt .Ld [x]) ρ)=.ok r A:=e;obtain⟨d,Y,Z,s⟩:=aj e;have zz:=aD s;clear s;obtain⟨s,e3⟩:=zz;subst e3;refine W g Z λv F' H' st pv=>?_;obtain⟨kvs,rfl⟩:∃kvs,d=.eN (.k kvs):=by cases d with
  |eN m=>cases m with|k kvs=>exact⟨kvs,rfl⟩|t kvs=>cases s
  |_=>cases s
 obtain⟨so,he⟩:=bN (show(if kvs.length<=16777216/\kvs.Pairwise (λa b=>a.1<b.1)then some (R.own (kvs.map rA))else none)=some r from s);subst he;obtain⟨q,G,rfl,I⟩:=pv.eN st.gs.sub;refine⟨q,G,kvs,rfl,rfl,I,λl u=>⟨l,q,G,kvs,rfl,aL,aJ.cu u q _ I,so,F',λb o e=>aJ.cu u b o (st.gs.sub b o e),λw B C y rn=>?_⟩⟩;have sm:aJ H' (upd H' l (.ext (iv l q))):=aJ.cu u;have x3:Ext F' H' B C:=⟨sm.trans y.hs,y.fs,y.sub,λb n n'=>by
  have:=y.gr b n n';by_cases J:b=l;.subst J;rw[u];rfl
  .rw[aB J]at this;exact this⟩;have E:cG X.K B C H' w (.own (kvs.map rA)):=by obtain⟨b,xs,q1,q2,q3,q4,L⟩:=rn;refine⟨b,xs,q1,q2,q3,q4,?_⟩;cases z:H' b with|none=>rfl|some o=>rw[sm b o z]at L;cases L
 exact k w B C (st.trans (x3.stp st.gs)) (.later st (E.o9 st.gs))
end
end _H
namespace _H
open PySem _L Spec PyProof.Rows
variable{o:Option V}{rows:List (List D)}
section
variable{K:PySem.W.Frag}{F F' F1 H H' H1 F0 H0:Hp}{ρ ρ' ρ1 ρ0:List Sl}{σ σ' σ1 σ0:_L.St}{x:Nat}{q:Addr}{as:List Addr}{rows qp:List (List D)}
noncomputable def K4:Sl->Bool|.aQ=>true|.hold _=>true|_=>false
theorem il{s:Sl}{i:Nat}{b:Addr}(g:K4 s=true)(h:aV (ρ.set x s) (σ.set x o) i b):aV ρ σ i b/\i≠x:=by
 obtain⟨⟨t,j,e,a⟩,f⟩:=h;by_cases c:x=i
 . subst c;rw[getElem?_set]at e;rw[if_pos rfl]at e;split at e;.cases e;cases s<;>first|(cases a;done)|(cases g;done)
   .cases e
 .rw[getElem?_set_ne c]at e f;exact⟨⟨⟨t,j,e,a⟩,f⟩,λz=>c z.symm⟩
theorem GS.Dm{s:Sl}(f:K4 s=true)(g:GS K F ρ σ H):GS K F (ρ.set x s) (σ.set x o) H:=by
 refine⟨g.sub,by simp[g.len],λi b d e=>?_,λi t k e h=>?_,λi j a h1 l=>g.dis i j a (il f h1).1 (il f l).1⟩
 . by_cases c:x=i
   . subst c;rw[getElem?_set,if_pos rfl]at e;split at e;.cases e;cases f
     .cases e
   .rw[getElem?_set_ne c]at e ⊢;exact g.val i b d e
 . by_cases c:x=i
   . subst c;rw[getElem?_set,if_pos rfl]at e;split at e;.cases e;cases s<;>first|(cases h;done)|(cases f;done)
     .cases e
   .rw[getElem?_set_ne c]at e ⊢;exact g.own i t k e h
theorem aC.Dm{s:Sl}{o:Option V}(a:K4 s=true)(t:aC K F ρ σ H F1 ρ1 σ1 H1)(f:∀s0,ρ[x]?=some s0->uF s0=false):aC K F ρ σ H F1 (ρ1.set x s) (σ1.set x o) H1:=by
 refine⟨t.gs.Dm a,t.cF,t.xK,t.keep,λb⟨i,h⟩=>t.xM b ⟨i,(il a h).1⟩,by simp[t.len],λi g e l=>?_⟩;have c:x≠i:=by rintro rfl;rw[f _ e]at l;cases l
 obtain⟨j,s2,k,m⟩:=t.lk i g e l;exact⟨by rw[getElem?_set_ne c];exact j,s2,by rw[getElem?_set_ne c];exact k,m⟩
theorem aC.free{i:Nat}{s1:Sl}(t:aC K F ρ σ H F1 ρ1 σ1 H1)(h:ρ1[i]?=some s1)(a:uF s1=false):∀s0,ρ[i]?=some s0->uF s0=false:=λs0 e=>by cases z:uF s0 with|false=>rfl|true=>obtain⟨_,s2,b,c⟩:=t.lk i s0 e z;rw[h]at b;cases b;rw[c.uF z]at a;cases a
structure Ue(F:Hp)(ρ:List Sl)(σ:_L.St)(H:Hp)(a:Addr)(xs:List V):Prop where kp:Kp ρ σ H a (.lst xs)fr:F a=none
theorem Ue.stp{a:Addr}{xs:List V}(h:Ue F ρ σ H a xs)(s:aC K F ρ σ H F' ρ' σ' H'):Ue F' ρ' σ' H' a xs:=by refine⟨h.kp.stp s,?_⟩;cases z:F' a with|none=>rfl|some o=>
   rcases s.xK a h.fr (by rw[z];simp)with y|y;.exact absurd y h.kp.2
   .rw[h.kp.1]at y;cases y
structure Nw(K:PySem.W.Frag)(x:Nat)(q:Addr)(as:List Addr)(F:Hp)(ρ:List Sl)(σ:_L.St)(H:Hp)(rows:List (List D)):Prop where
 slot:ρ[x]?=some (.hold rows)val:σ[x]?=some (some (.ref q))out:Ue F ρ σ H q (as.map V.ref)nd:(q::as).Nodup
 len:as.length=rows.length
 row:∀(k:Nat)(a:Addr)(ds:List D),as[k]?=some a->rows[k]?=some ds->Wt K F ρ σ H a ds
theorem Nw.stp(w:Nw K x q as F ρ σ H rows)(s:aC K F ρ σ H F' ρ' σ' H'):Nw K x q as F' ρ' σ' H' rows:=by obtain⟨b,s2,c,e⟩:=s.lk x _ w.slot rfl;cases(show s2=.hold rows from e);exact⟨c,b.trans w.val,w.out.stp s,w.nd,w.len,λk a f h1 g=>(w.row k a f h1 g).stp s⟩
structure NB(K:PySem.W.Frag)(x:Nat)(q:Addr)(as:List Addr)(F0:Hp)(ρ0:List Sl)(σ0:_L.St)(H0:Hp)(F:Hp)(ρ:List Sl)(σ:_L.St)(H:Hp)(rows:List (List D)):Prop where
 stp:aC K F0 ρ0 σ0 H0 F ρ σ H
 fresh:∀b,b∈q::as->Own ρ0 σ0 b\/H0 b=none
 free:∀s0,ρ0[x]?=some s0->uF s0=false
 nw:Nw K x q as F ρ σ H rows
theorem NB.step(b:NB K x q as F0 ρ0 σ0 H0 F ρ σ H rows)(s:aC K F ρ σ H F' ρ' σ' H'):NB K x q as F0 ρ0 σ0 H0 F' ρ' σ' H' rows:=⟨b.stp.trans s,b.fresh,b.free,b.nw.stp s⟩
theorem Ca{s:Sl}{a:Addr}{b:HO}(c:K4 s=true)(h:Kp ρ σ H a b):Kp (ρ.set x s) (σ.set x o) H a b:=⟨h.1,λ⟨i,z⟩=>h.2 ⟨i,(il c z).1⟩⟩
theorem Qm{s:Sl}{a:Addr}{b:List D}(c:K4 s=true)(h:Wt K F ρ σ H a b):Wt K F (ρ.set x s) (σ.set x o) H a b:=by obtain⟨⟨xs,h1,e⟩,f⟩:=h;exact⟨⟨xs,Ca c h1,e⟩,f⟩
theorem aC.aeS{Da:Addr}{o:HO}(s:aC K F ρ σ H F1 ρ1 σ1 H1)(h:Own ρ σ Da\/H Da=none)(j:F1 Da=none)(ho:¬ Own ρ1 σ1 Da):aC K F ρ σ H F1 ρ1 σ1 (upd H1 Da o):=by
 refine⟨⟨λb u e=>?_,s.gs.len,s.gs.val,λi t c e f=>?_,s.gs.dis⟩,s.cF,s.xK,λb u e n=>?_,s.xM,s.len,s.lk⟩
 . have:b≠Da:=by rintro rfl;rw[j]at e;cases e
   rw[aB this];exact s.gs.sub b u e
 . obtain⟨a,xs,g,k,l,m⟩:=s.gs.own i t c e f;have:a≠Da:=by rintro rfl;exact ho ⟨i,⟨t,c,e,f⟩,g⟩
   exact⟨a,xs,g,by rw[aB this];exact k,l,m⟩
 . have:b≠Da:=by
    rintro rfl;rcases h with h|h;.exact n h
    .rw[h]at e;cases e
   rw[aB this];exact s.keep b u e n
theorem NB.mut{r:Nat}{a:Addr}{row e:List D}{ys:List V}(b:NB K x q as F0 ρ0 σ0 H0 F ρ σ H rows)(g:as[r]?=some a)(hr:rows[r]?=some row)(l:aH K F ys e):NB K x q as F0 ρ0 σ0 H0 F (ρ.set x (.hold (rows.set r e))) σ (upd H a (.lst ys)) (rows.set r e):=by
 have w:=b.nw.row r a row g hr;obtain⟨⟨xs,k1,r1⟩,f1⟩:=w;have m:x<ρ.length:=(eV b.nw.slot).1;have sx:σ.set x (some (.ref q))=σ:=by have:=b.nw.val;obtain⟨h1,f⟩:=eV this;rw[<-f];simp
 have mem:a∈q::as:=mem_cons_of_mem _ (mem_of_getElem? g);have s1:=(b.stp.aeS (o:=.lst ys) (b.fresh a mem) f1 k1.2).Dm (x:=x) (s:=.hold (rows.set r e)) (o:=some (.ref q)) rfl b.free;rw[sx]at s1;have n:q≠a:=by have:=(nodup_cons.mp b.nw.nd).1;rintro rfl;exact this (mem_of_getElem? g)
 have own:∀{c:Addr},¬ Own ρ σ c->¬ Own (ρ.set x (.hold (rows.set r e))) σ c:=λ{c}h⟨i,z⟩=>h ⟨i,by have:=il (x:=x) (s:=.hold (rows.set r e)) (o:=some (.ref q)) (σ:=σ) (ρ:=ρ) rfl (b:=c) (i:=i) (by rw[sx];exact z);exact this.1⟩;refine⟨s1,b.fresh,b.free,⟨getElem?_set_self m,b.nw.val,⟨⟨by rw[aB n];exact b.nw.out.kp.1,own b.nw.out.kp.2⟩,b.nw.out.fr⟩,b.nw.nd,by simp[b.nw.len],λk c p h1 f=>?_⟩⟩;by_cases j:k=r;.subst j;rw[g]at h1;cases h1;have t:k<rows.length:=(eV hr).1;rw[getElem?_set_self t]at f;cases f;exact⟨⟨ys,⟨aL,own k1.2⟩,l⟩,f1⟩
 . rw[getElem?_set_ne (λz=>j z.symm)]at f;obtain⟨⟨u,k2,v⟩,f2⟩:=b.nw.row k c p h1 f;have nc:c≠a:=by rintro rfl;have nd:=(nodup_cons.mp b.nw.nd).2;obtain⟨B,y⟩:=eV h1;obtain⟨l2,A⟩:=eV g;exact j ((List.getElem_inj nd).mp (y.trans A.symm))
   exact⟨⟨u,⟨by rw[aB nc];exact k2.1,own k2.2⟩,v⟩,f2⟩
noncomputable def Fz(F H:Hp)(bs:List Addr):Hp:=λb=>if b∈bs then H b else F b
theorem uX{G:Hp}:∀{as:List Addr}{rows:List (List D)},as.length=rows.length->(∀(k:Nat)(a:Addr)(c:List D),as[k]?=some a->rows[k]?=some c->Rep K G (.ref a) (.lst c))->aH K G (as.map V.ref) (rows.map D.lst)|[],[],_,_=>.nil|a::as,c::rows,h,k=>.cons (k 0 a c rfl rfl) (uX (by simpa using h) λj b es h1 e=>k (j+1) b es (by simpa using h1) (by simpa using e))|[],_::_,h,_=>by simp at h|_::_,[],h,_=>by simp at h
theorem Nw.Rx(w:Nw K x q as F ρ σ H rows){b:Addr}(hb:b∈q::as):F b=none/\¬ Own ρ σ b:=by
 rcases mem_cons.mp hb with rfl|hb;.exact⟨w.out.fr,w.out.kp.2⟩
 . obtain⟨k,a⟩:=List.getElem?_of_mem hb;have c:k<rows.length:=by rw[<-w.len];exact(eV a).1
   obtain⟨⟨xs,k1,_⟩,f1⟩:=w.row k b rows[k] a (by simp[c]);exact⟨f1,k1.2⟩
theorem Nw.fz(w:Nw K x q as F ρ σ H rows)(sm:aJ F H):aJ F (Fz F H (q::as))/\aJ (Fz F H (q::as)) H/\Rep K (Fz F H (q::as)) (.ref q) (.lst (rows.map D.lst)):=by
 have s1:aJ F (Fz F H (q::as)):=λb o e=>by unfold Fz;rw[if_neg λc=>by rw[(w.Rx c).1]at e;cases e];exact e
 refine⟨s1,λb o e=>?_,?_⟩
 . unfold Fz at e;split at e;.exact e
   .exact sm b o e
 .rw[Rep];refine⟨q,as.map V.ref,rfl,fM.of (by unfold Fz;rw[if_pos mem_cons_self];exact w.out.kp.1),uX w.len λk a f h1 g=>?_⟩;obtain⟨⟨xs,k1,r1⟩,f1⟩:=w.row k a f h1 g;rw[Rep];exact⟨a,xs,rfl,fM.of (by unfold Fz;rw[if_pos (mem_cons_of_mem _ (mem_of_getElem? h1))];exact k1.1),r1.mono s1⟩
theorem NB.dz(b:NB K x q as F0 ρ0 σ0 H0 F ρ σ H rows):aC K F0 ρ0 σ0 H0 (Fz F H (q::as)) (ρ.set x (.val false (.lst (rows.map D.lst)))) σ H:=by
 obtain⟨s1,s2,w⟩:=b.nw.fz b.stp.gs.sub;have g:=b.stp.gs;have s:x<ρ.length:=(eV b.nw.slot).1;have k:∀{j:Nat}{c:Addr},aV (ρ.set x (.val false (.lst (rows.map D.lst)))) σ j c->aV ρ σ j c/\x≠j:=λ{j c}⟨⟨t,r,e,m⟩,e1⟩=>by
  by_cases f:x=j;.subst f;rw[getElem?_set_self s]at e;cases e;cases m
  .rw[getElem?_set_ne f]at e;exact⟨⟨⟨t,r,e,m⟩,e1⟩,f⟩
 refine⟨⟨s2,by simp[g.len],λi y d e=>?_,λi t r e m=>?_,λi j c h1 p=>g.dis i j c (k h1).1 (k p).1⟩,b.stp.cF.trans s1,λc n u=>?_,b.stp.keep,λc⟨j,h⟩=>b.stp.xM c ⟨j,(k h).1⟩,by simp[b.stp.len],λi t e l=>?_⟩
 . by_cases f:x=i;.subst f;rw[getElem?_set_self s]at e;cases e;exact⟨_,b.nw.val,w⟩
   .rw[getElem?_set_ne f]at e;obtain⟨v,h1,p⟩:=g.val i y d e;exact⟨v,h1,p.mono s1⟩
 . by_cases f:x=i;.subst f;rw[getElem?_set_self s]at e;cases e;cases m
   .rw[getElem?_set_ne f]at e;obtain⟨a,o,h1,p,z,A⟩:=g.own i t r e m;refine⟨a,o,h1,p,?_,A.mono s1⟩;unfold Fz;rw[if_neg λB=>(b.nw.Rx B).2 ⟨i,⟨t,r,e,m⟩,h1⟩];exact z
 . by_cases hc:c∈q::as;.exact(b.fresh c hc).imp id lO
   . have:Fz F H (q::as) c=F c:=by unfold Fz;rw[if_neg hc]
     rw[this]at u;exact b.stp.xK c n u
 . have c:x≠i:=by rintro rfl;rw[b.free _ e]at l;cases l
   obtain⟨C,s3,E,G⟩:=b.stp.lk i t e l;exact⟨C,s3,by rw[getElem?_set_ne c];exact E,G⟩
end
inductive VJ(K:PySem.W.Frag)(x:Nat)(f:List Sl->Res Fl)(E:Ends)(σ:_L.St)(H:Hp):Prop where|mk(F0:Hp)(ρ0:List Sl)(σ0:_L.St)(H0 F:Hp)(ρ:List Sl)(q:Addr)(as:List Addr)(rows:List (List D))(fl:Fl)(ρ':List Sl)(b:NB K x q as F0 ρ0 σ0 H0 F ρ σ H rows)(e:f ρ=.ok fl ρ')(k:∀F' σ' H',aC K F0 ρ0 σ0 H0 F' ρ' σ' H'->aJ F F'->((∀r,fl≠.ret r)->∃qp,NB K x q as F0 ρ0 σ0 H0 F' ρ' σ' H' qp)->JS K E F' ρ' σ' H' ρ0 σ0 H0 fl)
inductive aaO(K:PySem.W.Frag)(x:Nat)(f:List Sl->Res Fl)(E:Ends)(σ:_L.St)(H:Hp):Prop where|mk(F0:Hp)(ρ0:List Sl)(σ0:_L.St)(H0 F:Hp)(ρ:List Sl)(q:Addr)(as:List Addr)(rows:List (List D))(fl:Fl)(ρ':List Sl)(b:NB K x q as F0 ρ0 σ0 H0 F ρ σ H rows)(e:f ρ=.ok fl ρ')(k:∀F' σ' H',aC K F0 ρ0 σ0 H0 F' ρ' σ' H'->JS K E F' ρ' σ' H' ρ0 σ0 H0 fl)
structure SSN(X:Cx)(c:Call)(n x:Nat)(st:Stmt)(s:S):Prop where p:PS X st (VJ X.K x (ex c n s))
structure XQ(X:Cx)(c:Call)(n x:Nat)(st:List Stmt)(s:List S):Prop where p:o8 X st (VJ X.K x (eO c n s))
structure SBT(X:Cx)(c:Call)(n x:Nat)(st:List Stmt)(s:List S):Prop where p:o8 X st (aaO X.K x (eO c n s))
section
variable{X:Cx}{c:Call}{n x:Nat}{e a b d tg iter:Expr}{p pa pb pd:P}{pos:Pos}{body:List Stmt}{ss:List S}{st:Stmt}{s:S}{sts:List Stmt}
theorem qO:XQ X c n x [] []:=⟨jJ wJ λD σ H⟨f,ρ0,σ0,H0,F,ρ,q,as,rows,fl,ρ',nb,e,k⟩=>by rw[xs0]at e;cases e;exact k F σ H nb.stp (.refl _) λ_=>⟨rows,nb⟩⟩
theorem sO(h1:SSN X c n x st s)(w:XQ X c n x sts ss):XQ X c n x (st::sts) (s::ss):=by refine⟨jJ (je h1.p w.p) ?_⟩;rintro D σ H⟨h,f,g,i,F,ρ,q,as,rows,fl,t,l,e,k⟩;rw[QF]at e;obtain⟨f1,j,m,e⟩:=aj e;cases f1 with|next=>refine⟨h,f,g,i,F,ρ,q,as,rows,.next,j,l,m,λF1 y I s1 sm nn=>?_⟩;obtain⟨A,B⟩:=nn (λr z=>by cases z);exact⟨h,f,g,i,F1,j,q,as,A,fl,t,B,e,λC u E s2 G v=>k C u E s2 (sm.trans G) v⟩|brk=>cases e;exact⟨h,f,g,i,F,ρ,q,as,rows,.brk,_,l,m,k⟩|cont=>cases e;exact⟨h,f,g,i,F,ρ,q,as,rows,.cont,_,l,m,k⟩|ret r=>cases e;exact⟨h,f,g,i,F,ρ,q,as,rows,.ret r,_,l,m,k⟩
theorem Hr(h1:SSN X c n x st s)(w:SBT X c n x sts ss):SBT X c n x (st::sts) (s::ss):=by refine⟨jJ (je h1.p w.p) ?_⟩;rintro D σ H⟨j,g,h,l,F,ρ,q,as,rows,fl,v,t,e,k⟩;rw[QF]at e;obtain⟨f1,m,u,e⟩:=aj e;cases f1 with|next=>refine⟨j,g,h,l,F,ρ,q,as,rows,.next,m,t,u,λF1 f i s1 sm nn=>?_⟩;obtain⟨y,A⟩:=nn (λr z=>by cases z);exact⟨j,g,h,l,F1,m,q,as,y,fl,v,A,e,k⟩|brk=>cases e;exact⟨j,g,h,l,F,ρ,q,as,rows,.brk,_,t,u,λF1 f i s1 _ _=>k F1 f i s1⟩|cont=>cases e;exact⟨j,g,h,l,F,ρ,q,as,rows,.cont,_,t,u,λF1 f i s1 _ _=>k F1 f i s1⟩|ret r=>cases e;exact⟨j,g,h,l,F,ρ,q,as,rows,.ret r,_,t,u,λF1 f i s1 _ _=>k F1 f i s1⟩
theorem M9(h:SB X c n sts ss):SBT X c n x sts (.dz x::ss):=by refine⟨jJ h ?_⟩;rintro D σ H⟨w,j,l,y,F,ρ,q,as,rows,fl,f,g,e,k⟩;rw[QF]at e;obtain⟨f1,m,i,e⟩:=aj e;rw[_H.X25,g.nw.slot]at i;cases i;have t:=g.dz;refine⟨_,_,fl,f,t.gs,e,λF' σ' H' s=>?_⟩;have z:=k F' σ' H' (t.trans s);cases fl with|next=>exact z|brk=>exact z|cont=>exact z|ret r=>exact λv u=>z v (u.later t)
theorem V7{r u:List Stmt}{v w:List S}(hc:ST X c e p)(z:XQ X c n x r v)(A:XQ X c n x u w):SSN X c n x (.If e r u pos) (.ifs p v w):=by refine⟨cz (Ig hc z.p A.p) ?_⟩;rintro D σ H⟨B,j,l,C,F,ρ,q,as,rows,fl,i,y,e,k⟩;rw[_H.X13]at e;obtain⟨t,g,E,e⟩:=aj e;refine⟨F,ρ,t,g,y.stp.gs,E,λF1 G s1=>?_⟩;have go:∀{f:List Sl->Res Fl},f g=.ok fl i->VJ X.K x f D σ G:=λ{f}h=>⟨B,j,l,C,F1,g,q,as,rows,fl,i,y.step s1,h,λI m J s2 sm nn=>k I m J s2 (s1.cF.trans sm) nn⟩;cases t with|true=>rw[if_pos rfl]at e;exact go e|false=>rw[if_neg Bool.false_ne_true]at e;exact go e
theorem Hn{ρ:List Sl}(h:jO ρ x=some rows):ρ[x]?=some (.hold rows):=by
 unfold jO at h;split at h;.rename_i z;cases h;exact z
 .cases h
noncomputable def WalkN(K:PySem.W.Frag)(J:It)(g:List D)(F1:Hp):Prop:=∀(k:Nat)(F' H':Hp),aJ F1 F'->aJ F' H'->(∀d,g[k]?=some d->J.go k H'/\∀x h,J.Mm k H' x h->∃f,Ext F' H' f h/\Rep K f x d)/\(g.length<=k->J.stop k H')
inductive aen(K:PySem.W.Frag)(f:Ev)(σ:_L.St)(H:Hp)(R:It->Hp->Prop):Prop where|mk(F:Hp)(ρ:List Sl)(r:_H.R)(ρ1:List Sl)(ds:List D)(g:GS K F ρ σ H)(e:f ρ=.ok r ρ1)(e2:items r.d=some ds)(k:∀J F1 H1,aC K F ρ σ H F1 ρ1 σ H1->WalkN K J ds F1->R J H1)
structure SIN(X:Cx)(c:Call)(tg e:Expr)(p:P):Prop where p:PI X tg e (aen X.K (_H.ev c p))
theorem Ny(h:SX X c e p):SIN X c tg e p:=by refine⟨sU (Ao h.ev) ?_⟩;rintro σ H R⟨F,ρ,r,m,y,g,e,i,k⟩;refine⟨F,ρ,r,m,g,e,λv F' H' s t=>?_⟩;obtain⟨z,s2,_,j⟩:=s.dz t;cases hd:r.d with|tup es=>rw[hd]at j i;cases i;rw[Rep]at j;obtain⟨a,xs,rfl,h1,q⟩:=j;exact⟨a,rfl,.inr ⟨⟨xs,aJ.iG s2.gs.sub h1⟩,k _ _ _ s2 λk u w f l=>DR (aJ.iG l (aJ.iG f h1)) (q.mono f) l k⟩⟩|lst es=>rw[hd]at j i;cases i;rw[Rep]at j;obtain⟨a,xs,rfl,h1,q⟩:=j;exact⟨a,rfl,.inl ⟨⟨xs,s2.gs.sub.seq h1⟩,k _ _ _ s2 λk u w f l=>ug (l.seq (f.seq h1)) (q.mono f) l k⟩⟩|_=>rw[hd]at i;cases i
theorem Gg{K:PySem.W.Frag}{F1:Hp}(i j:Int):WalkN K (YS i (j-i).toNat) ((List.range (j-i).toNat).map λ(k:Nat)=>D.int (i+(k:Int))) F1:=by
 refine λk F' H' _ sm=>⟨λd hd=>?_,λh=>?_⟩;.rw[getElem?_map]at hd;obtain⟨m,g,l⟩:=map_some hd;obtain⟨h1,f⟩:=eV g;rw[List.getElem_range]at f;subst f;subst l;rw[length_range]at h1;refine⟨h1,?_⟩;rintro x t⟨q,r⟩;subst q;subst r;exact⟨F',.refl sm,bY _⟩
 .rw[length_map,length_range]at h;exact h
theorem JF{x:Str}{p':Pos}(m:x="range")(q:Gl X x)(t:X.mg x=none)(u:SX X c a pa)(hs:starEach [a] X.env=[(false,eval a X.env)]:=by rfl):SIN X c tg (.Call (.Name x p') [a] [] pos) (.vO (.con (.int 0)) pa):=by
 subst m;obtain⟨L,h1,w⟩:=u.cL;refine⟨sU (vD q t (bz h1 cZ hs) hs) ?_⟩;rintro σ H R⟨F,ρ,r,y,M,g,l,z,k⟩;rw[_H.E21]at l;obtain⟨N,A,B,f⟩:=aj l;have C:=aD f;clear f;obtain⟨f,E⟩:=C;subst E;obtain⟨O,G,I,h⟩:=aj B;cases h;obtain⟨i,f1,f⟩:=cU f;obtain⟨j,f2,f⟩:=cU f;obtain⟨⟨b1,b2,b3,b4⟩,f⟩:=bN f;have f1:i=0:=by cases f1;rfl
 subst f1;subst f;cases z;cases dU f2;refine w g I λv F' H' s J=>⟨j,by rw[J.int],by omega,by omega,?_⟩;have:=Gg (K:=X.K) (F1:=F') 0 j;rw[sub_zero]at this;refine k _ F' H' s ?_;rw[sub_zero];exact this
theorem Ci{g:TG}{is:List Nat}{one:Bool}(hp:PassesOwn (model X.prog X.w) X.A X.env X.xe)(hc:X.calm=true)(hi:SIN X c tg iter p)(hg:PG X tg g)(ae:Ji X.K (λρ d=>cI ρ is one d) g)(hb:XQ X c n x body ss)(hs:∀x,foldedSetIterable iter X.env x=pure x:=by intro _;rfl):SSN X c n x (.For tg iter body [] pos) (.Gy p is one ss):=by
 refine⟨cz (JQ hp hc hi.p hg hb.p hs) ?_⟩;rintro D σ H⟨F0,G,I,H0,F,ρ,q,as,rows,fl,U,nb,e,k⟩;rw[_H.X24]at e;obtain⟨r,W,e1,e⟩:=aj e;obtain⟨j,ai,e9,e2⟩:=aj e;have zz:=aD e9;clear e9;obtain⟨e9,af⟩:=zz;subst af;refine⟨F,ρ,r,W,j,nb.stp.gs,e1,e9,λJ F1 H1 s1 w=>?_⟩;refine⟨λi m u Hi=>∃E f Q,NB X.K x q as F0 G I H0 E f u Hi Q/\aJ F1 E/\m=j.length-i/\i<=j.length/\jB is one (eO c n ss) (j.drop i) f=.ok fl U,⟨_,F1,W,rows,nb.step s1,.refl _,rfl,wB,e2⟩,?_⟩;rintro i m u Hi⟨E,f,Q,t,L,rfl,al,l⟩;obtain⟨w1,w2⟩:=w i E Hi L t.stp.gs.sub;by_cases B:i<j.length
 . right;have hd:j[i]?=some j[i]:=by simp[B]
   obtain⟨go,step⟩:=w1 _ hd;refine⟨go,λσ' H'=>∃m',m'<j.length-i/\∃E f Q,NB X.K x q as F0 G I H0 E f σ' H' Q/\aJ F1 E/\m'=j.length-(i+1)/\i+1<=j.length/\jB is one (eO c n ss) (j.drop (i+1)) f=.ok fl U,λσ' H' z=>z,λy H' yy=>?_⟩;obtain⟨F2,ext,rx⟩:=step y H' yy;have t2:=ext.stp t.stp.gs;rw[drop_eq_getElem_cons B,zV]at l;cases hbd:cI f is one j[i]with|none=>rw[hbd]at l;cases l|some Y=>rw[hbd]at l;obtain⟨Z,M,eb,l⟩:=aj l;refine ae y _ F2 f Y u H' _ t2.gs rx hbd λam sb=>?_;have t3:=t2.trans sb;refine⟨F0,G,I,H0,F2,Y,q,as,Q,Z,M,t.step t3,eb,λF4 ac H4 s4 ag N=>?_⟩;have C:aJ F1 F4:=L.trans (ext.fs.trans ag);cases Z with|next=>obtain⟨Lr,O⟩:=N (λr z=>by cases z);exact⟨_,by omega,F4,M,Lr,O,C,rfl,B,l⟩|cont=>obtain⟨Lr,O⟩:=N (λr z=>by cases z);exact⟨_,by omega,F4,M,Lr,O,C,rfl,B,l⟩|brk=>cases l;exact k F4 ac H4 s4 (s1.cF.trans C) λ_=>N (λr z=>by cases z)|ret r=>cases l;exact λv rr=>k F4 ac H4 s4 (s1.cF.trans C) (λh=>(h r rfl).elim) v rr
 . left;have ah:j.drop i=[]:=by rw[drop_eq_nil_iff];omega
   rw[ah,Hj]at l;cases l;exact⟨w2 (by omega),k E u Hi t.stp (s1.cF.trans L) λ_=>⟨Q,t⟩⟩
end
section
variable{X:Cx}{c:Call}{n:Nat}{e a b d i j:Expr}{p pa pb pd pi pj:P}{pos:Pos}
theorem NK{ρ f:List Sl}{x:Nat}{o:Option (List (List D))}{fl:Fl}(h:Fb ρ x o=.ok fl f):∃rows,o=some rows/\fl=.next/\f=ρ.set x (.hold rows):=by cases o with|none=>cases h|some rows=>cases h;exact⟨rows,rfl,rfl,rfl⟩
section
variable{K:PySem.W.Frag}{F H F0 H0:Hp}{ρ ρ0:List Sl}{σ σ0:_L.St}{x:Nat}{q:Addr}{as:List Addr}{rows qp:List (List D)}
theorem NB.hold(f:NB K x q as F0 ρ0 σ0 H0 F ρ σ H rows)(h:jO ρ x=some qp):qp=rows:=by have:=Hn h;rw[f.nw.slot]at this;cases this;rfl
theorem NB.at{k:Int}{r:Nat}{row:List D}(f:NB K x q as F0 ρ0 σ0 H0 F ρ σ H rows)(h1:_H.j9 rows.length k=some r)(h:rows[r]?=some row):∃a ys,as[r]?=some a/\JT (as.map V.ref) k=some (.ref a)/\H a=some (.lst ys)/\aH K F ys row:=by
 have g:r<as.length:=by rw[f.nw.len];exact(eV h).1
 obtain⟨⟨ys,k1,r1⟩,_⟩:=f.nw.row r as[r] row (by simp[g]) h;refine⟨as[r],ys,by simp[g],?_,k1.1,r1⟩;unfold JT;rw[length_map,f.nw.len];rw[show _L.j9 rows.length k=some r from h1];simp[g]
theorem NB.wZ{g:D}{row:List D}(l:NB K x q as F0 ρ0 σ0 H0 F ρ σ H rows)(h:_H.wZ ρ x g=some row):∃k a,(∃r:Nat,as[r]?=some a)/\JT (as.map V.ref) k=some (.ref a)/\g=.int k/\∃ys,H a=some (.lst ys)/\aH K F ys row:=by unfold _H.wZ at h;obtain⟨f,h1,h⟩:=cU h;cases l.hold h1;obtain⟨k,m,h⟩:=cU h;obtain⟨r,s,t⟩:=cU h;obtain⟨a,ys,u,v,w,y⟩:=l.at s t;exact⟨k,a,⟨r,u⟩,v,dU m,ys,w,y⟩
end
theorem FZ{l:List (List D)}{k:Int}{f:List D->Option (List D)}(h:lz rows k f=some l):∃r row g,_H.j9 rows.length k=some r/\rows[r]?=some row/\f row=some g/\l=rows.set r g:=by unfold lz at h;obtain⟨r,h1,h⟩:=cU h;obtain⟨row,m,h⟩:=cU h;obtain⟨g,q,h⟩:=map_some h;exact⟨r,row,g,h1,m,q,h.symm⟩
theorem Ib{x:Str}{k:Nat}{t f g cpos:Pos}(hN:X.N[k]?=some x)(hv:vC X.env.scope x)(hi:SX X c i pi)(he:SX X c e p)(G:qP i:=by intro _ _;rfl)(h:(g.endLine==cpos.line)=true:=by rfl)(hs:starEach [e] X.env=(false,eval e X.env)::starEach [] X.env:=by rfl)(l:attributeBase (.Subscript (.Name x t) i f) "append" X.env (eval (.Subscript (.Name x t) i f) X.env)=eval (.Subscript (.Name x t) i f) X.env:=by rfl)(u:((backTo cpos (starEach [e] X.env)).all (λx=>!x.1)&&(backToKw cpos (keywordEach [] X.env)).all (λx=>x.1.isSome)&&decide ([e].length+([]:List Keyword).length+(if([]:List Keyword).isEmpty then 0 else 1)<30))=true:=by rfl)(I:swapsWith (.Call (.Attribute (.Subscript (.Name x t) i f) "append" g) [e] [] cpos) none pos.line X.env=pure false:=by rfl)(hd:(x==("__debug__":Str))=false:=by decide)(J:(x==("__classdict__":Str))=false:=by decide):SSN X c n k (.Expr (.Call (.Attribute (.Subscript (.Name x t) i f) "append" g) [e] [] cpos) pos) (.Lk k pi p):=by obtain⟨ti,L,M⟩:=hi.cL;refine⟨cz (nZ (Kg plainAttrs_list PySem.F.slot_list_append PySem.F.type_list_append pR (KN Dk (dO hN hv hd J) L G) (bz he.ev cZ hs) l u h hs) I) ?_⟩;rintro E σ H⟨F0,ai,al,H0,F,ρ,q,as,rows,fl,am,O,e,kk⟩;rw[_H.X23]at e;obtain⟨dk,Q,e2,e⟩:=aj e;obtain⟨ag,ah,B,e⟩:=aj e;have zz:=aD B;clear B;obtain⟨B,U⟩:=zz;subst U;obtain⟨r,W,e3,e⟩:=aj e;obtain⟨rs,w,rfl,rfl⟩:=NK e;refine⟨.ref q,O.nw.val,M O.stp.gs e2 λvi F1 H1 s1 pi=>?_⟩;have C:=O.step s1;obtain⟨k0,a,g1,g2,g0,ys,g3,g4⟩:=C.wZ B;rw[g0]at pi;refine⟨q,_,k0,_,rfl,pi.int,fM.of C.nw.out.kp.1,g2,.inl ⟨rfl,ys,fM.of g3⟩,F1,Q,r,W,C.stp.gs,e3,λv F2 H2 s2 rr=>?_⟩;obtain⟨F3,s3,_,rp⟩:=s2.dz rr;have s:=C.step s3;obtain⟨Y,e5,w⟩:=cU w;cases s.hold e5;obtain⟨k1,e6,w⟩:=cU w;obtain⟨m,row,jV,f1,f2,f3,rfl⟩:=FZ w;obtain⟨Z,rfl⟩:=bN f3;have:=dU e6;rw[g0]at this;cases this;obtain⟨a',ac,ae,y,af,z⟩:=s.at f1 f2;rw[g2]at y;cases y;have A:=s.mut ae f2 (z.append (.cons rp .nil));exact⟨a,ac,v,rfl,rfl,af,by rw[z.length];exact Z,kk F3 σ _ A.stp (s1.cF.trans s3.cF) λ_=>⟨_,A⟩⟩
end
section
variable{K:PySem.W.Frag}{F H F1 H1:Hp}{ρ ρ1:List Sl}{σ σ1:_L.St}
theorem aC.since{b:Addr}(s:aC K F ρ σ H F1 ρ1 σ1 H1)(h:H1 b=none):Own ρ σ b\/H b=none:=by
 by_cases ho:Own ρ σ b;.exact .inl ho
 .right;cases e:H b with|none=>rfl|some o=>rw[s.keep b o e ho]at h;cases h
theorem NB.mk'{x:Nat}{q:Addr}{as:List Addr}{s1:Sl}(s:aC K F ρ σ H F1 ρ1 σ1 H1)(e:ρ1[x]?=some s1)(g:uF s1=false)(h:Ue F1 ρ1 σ1 H1 q (as.map V.ref))(nd:(q::as).Nodup)(len:as.length=rows.length)(row:∀(k:Nat)(a:Addr)(c:List D),as[k]?=some a->rows[k]?=some c->Wt K F1 ρ1 σ1 H1 a c)(fr:∀b,b∈q::as->Own ρ σ b\/H b=none):NB K x q as F ρ σ H F1 (ρ1.set x (.hold rows)) (σ1.set x (some (.ref q))) H1 rows:=by
 have hi:x<ρ1.length:=(eV e).1;have f:x<σ1.length:=by rw[<-s.gs.len];exact hi
 exact⟨s.Dm rfl (s.free e g),fr,s.free e g,⟨getElem?_set_self hi,getElem?_set_self f,⟨Ca rfl h.kp,h.fr⟩,nd,len,λk a c h1 i=>Qm rfl (row k a c h1 i)⟩⟩
end
theorem Jy{K:PySem.W.Frag}{F H:Hp}{ρ e l:List Sl}{σ:_L.St}{ul:List Sl->List Sl}{ti:TI}{is:List Nat}{one:Bool}{c:Call}{el:Ev}{g:TG}{Q:VK}{f:List D}{m n:Nat}(hm:σ.length=m)(ay:ql K m is one g)(aE:∀R:It->Hp->Prop,(∀J F1 X,Walk K F ρ σ H ul J f F1 e X->R J X)->ti σ H R)(bp:f.length<=lim)(e2:gZ is one el f [] (e++replicate n .aQ)=.ok rows l)(k:∀ q as F' H',aC K F ρ σ H F' (ul (l.take e.length)) σ H'->Ue F' (ul (l.take e.length)) σ H' q (as.map V.ref)->(q::as).Nodup->as.length=rows.length->(∀(k:Nat)(a:Addr)(f:List D),as[k]?=some a->rows[k]?=some f->Wt K F' (ul (l.take e.length)) σ H' a f)->(∀b,b∈q::as->Own ρ σ b\/H b=none)->Q (.ref q) H'):vy n ti g (Hf K (wO c none)) (zf K el) σ H Q:=by
 refine aE _ λJ F1 X w Da Y=>?_;have aI:e.length=σ.length:=w.gs.len;have gm:=w.gs.more (n:=n) (τ:=replicate n none) (by simp);have fD:F1 Da=none:=by cases q:F1 Da with|none=>rfl|some o=>rw[w.gs.sub Da o q]at Y;cases Y
 have nO:¬ Own (e++replicate n .aQ) (σ++replicate n none) Da:=λ⟨i,⟨t,dt,q1,q2⟩,q3⟩=>by obtain⟨a,ys,z1,z2,_⟩:=gm.own i t dt q1 q2;rw[q3]at z1;cases z1;rw[Y]at z2;cases z2
 refine⟨λi mm ys j M=>∃N u B as,aC K F1 (e++replicate n .aQ) (σ++replicate n none) X N u j M/\j.take m=σ/\ys=as.map V.ref/\M Da=some (.lst ys)/\N Da=none/\¬ Own u j Da/\(Da::as).Nodup/\as.length=B.length/\(∀(k:Nat)(a:Addr)(f:List D),as[k]?=some a->B[k]?=some f->Wt K N u j M a f/\(Own (e++replicate n .aQ) (σ++replicate n none) a\/X a=none))/\B.length<=i/\mm=f.length-i/\i<=f.length/\gZ is one el (f.drop i) B u=.ok rows l,⟨_,F1,_,[],[],(aC.refl gm).J3 Y fD nO,by rw[List.take_append_of_le_length (by omega),List.take_of_length_le (by omega)],rfl,aL,fD,nO,by simp,rfl,λk a f h=>by simp at h,wB,rfl,wB,e2⟩,?_⟩;rintro i mm ys j M⟨N,u,B,as,si,am,Z,hD,hF,hO,ac,C,I,bq,rfl,br,G⟩;refine⟨hD,?_⟩;have stay:∀{F2 H2:Hp}{ae:List Sl}{L:_L.St},aC K N u j M F2 ae L H2->H2 Da=some (.lst ys)/\F2 Da=none/\¬ Own ae L Da:=λ{F2 H2 ae L}s=>by have:=(Ue.stp (xs:=ys) ⟨⟨hD,hO⟩,hF⟩ s);exact⟨this.kp.1,this.fr,this.kp.2⟩
 obtain⟨s1,s2⟩:=w.src n i N u j M si;by_cases af:i<f.length
 . right;have hd:f[i]?=some f[i]:=by simp[af]
   obtain⟨go,step⟩:=s1 _ hd;refine⟨go,λx H2 y=>?_⟩;obtain⟨F2,ext,rx⟩:=step x H2 y;have t2:=ext.stp si.gs;rw[drop_eq_getElem_cons af,J1]at G;cases hbd:cI u is one f[i]with|none=>rw[hbd]at G;cases G|some U=>rw[hbd]at G;obtain⟨re,ag,ee,G⟩:=aj G;cases re with|val _=>cases G|own ah=>
     replace G:gZ is one el (f.drop (i+1)) (B++[ah]) ag=.ok rows l:=G;refine ay x _ F2 u U j H2 _ t2.gs rx hbd λL sb aS=>?_;have t3:=t2.trans sb;refine⟨F2,U,true,U,t3.gs,by rw[wO],λF4 H4 s4=>?_⟩;have t4:=t3.trans s4;refine(show zf K el L H4 _ from⟨F4,U,.own ah,ag,t4.gs,ee,λv F5 H5 s5 rr=>?_⟩);have t6:=t4.trans s5;obtain⟨y1,y2,y3⟩:=stay t6;obtain⟨z1,z2,z3⟩:=stay t4;have ai:ys.length<sizeLine:=by have O:lim=sizeLine:=rfl;rw[Z,length_map];omega
     obtain⟨A,xs,rfl,a1,a2,a3,a4,a5⟩:=rr;have ap:A≠Da:=by
      rintro rfl;rcases a5 with z|z;.exact z3 z
      .rw[z1]at z;cases z
     have nA:A∉as:=λhA=>by
      obtain⟨k0,E⟩:=List.getElem?_of_mem hA;have al:k0<B.length:=by rw[<-C];exact(eV E).1
      obtain⟨⟨zs,k1,_⟩,_⟩:=(I k0 A B[k0] E (by simp[al])).1.stp t4;rcases a5 with z|z;.exact k1.2 z
      .rw[k1.1]at z;cases z
     have fA:Own (e++replicate n .aQ) (σ++replicate n none) A\/X A=none:=by
      have t:=si.trans t4;rcases a5 with z|z;.exact t.xM A z
      .exact t.since z
     refine⟨y1,ai,_,by omega,F5,ag,B++[ah],as++[A],(si.trans t6).J3 Y y2 y3,aS.trans am,by rw[Z];simp,aL,y2,y3,?_,by simp[C],λk0 a0 aT h1 O=>?_,by simp;omega,rfl,af,G⟩
     . rw[<-cons_append,nodup_append];refine⟨ac,by simp,λp hp r hr=>?_⟩;simp at hr;subst hr;rcases mem_cons.mp hp with rfl|hp;.exact λz=>ap z.symm
       .rintro rfl;exact nA hp
     . by_cases E:k0<as.length
       . rw[getElem?_append_left E]at h1;rw[getElem?_append_left (by omega)]at O;obtain⟨w0,f0⟩:=I k0 a0 aT h1 O;obtain⟨⟨zs,k1,r1⟩,g1⟩:=w0.stp t6;have na:a0≠Da:=by rintro rfl;exact(nodup_cons.mp ac).1 (mem_of_getElem? h1)
         exact⟨⟨⟨zs,⟨by rw[aB na];exact k1.1,k1.2⟩,r1⟩,g1⟩,f0⟩
       . rw[getElem?_append_right (by omega)]at h1;rw[getElem?_append_right (by omega)]at O;have:k0-as.length=0:=by have:=(eV h1).1;simp at this;exact this
         rw[this]at h1;rw[<-C,this]at O;cases h1;cases O;exact⟨⟨⟨xs,⟨by rw[aB ap];exact a1,a4⟩,a3⟩,a2⟩,fA⟩
 . left;have ba:f.drop i=[]:=by rw[drop_eq_nil_iff];omega
   rw[ba,Lb]at G;cases G;refine⟨s2 (by omega),?_⟩;have hst:j.take e.length=σ:=by rw[aI,hm];exact am
   obtain⟨l1,l2⟩:=aC.less (m:=e.length) rfl w.gs (by simp) si;rw[hst]at l1;obtain⟨z1,z2⟩:=w.fin _ _ _ _ l1--the outer list:with nothing in it,it is like any new one
   have bi:=si.J3 (o:=.lst []) Y hF hO;obtain⟨ar,Yp⟩:=aC.less (m:=e.length) rfl w.gs (by simp) bi;rw[hst]at ar;obtain⟨bt,bn⟩:=w.fin _ _ _ _ ar;have rr:cV K N l j (upd M Da (.lst [])) (e++replicate n .aQ) (σ++replicate n none) X (.ref Da) (.own []):=⟨Da,[],rfl,aL,hF,.nil,hO,.inr Y⟩;have RW:=Yp _ _ rr;rw[hst]at RW;obtain⟨_,_,q0,_,q3,_,q5,q6⟩:=bn _ _ RW;cases q0;have aw:∀(k:Nat)(a:Addr)(f:List D),as[k]?=some a->rows[k]?=some f->Wt K N (ul (l.take e.length)) σ M a f/\(Own ρ σ a\/H a=none):=λk a f h1 O=>by obtain⟨⟨⟨xs,k1,r1⟩,f1⟩,f2⟩:=I k a f h1 O;have rr:cV K N l j M (e++replicate n .aQ) (σ++replicate n none) X (.ref a) (.own f):=⟨a,xs,rfl,k1.1,f1,r1,k1.2,f2⟩;have RW:=l2 _ _ rr;rw[hst]at RW;obtain⟨a',bo,q0,q2,q3,q4,q5,q6⟩:=z2 _ _ RW;cases q0;exact⟨⟨⟨bo,⟨q2,q5⟩,q4⟩,q3⟩,q6⟩
   refine k Da as N M z1 ⟨⟨by rw[hD,Z],q5⟩,q3⟩ ac C (λk a f h1 O=>(aw k a f h1 O).1) λb hb=>?_;rcases mem_cons.mp hb with rfl|hb;.exact q6
   . obtain⟨k0,E⟩:=List.getElem?_of_mem hb;have al:k0<rows.length:=by rw[<-C];exact(eV E).1
     exact(aw k0 b rows[k0] E (by simp[al])).2
section
variable{X:Cx}{c:Call}{nn n:Nat}{tg iter elt:Expr}{ps pe:P}{pos:Pos}{sts:List Stmt}{ss:List S}{scope:Scope}{N':List Str}
theorem Ni{i:Nat}{x:Str}{b f:Pos}{g:TG}{is:List Nat}{one:Bool}(hc:X.calm=true)(A:X.N.Nodup)(m:X.N[i]?=some x)(B:Loc X.env.scope x)(ok:gA X scope N' n)(hi:SI X c tg iter ps)(E:∀cl C s₀ H₀ ex,PG (uQ X scope N' cl C s₀ H₀ ex) tg g)(r:ql X.K X.N.length is one g)(ht:∀cl C s₀ H₀ ex,SQ (uQ X scope N' cl C s₀ H₀ ex) c [] none)(he:∀cl C s₀ H₀ ex,SX (uQ X scope N' cl C s₀ H₀ ex) c elt pe)(G:SBT X c nn i sts ss)(t:swapsWith (.ListComp elt [⟨tg,iter,[],0⟩] scope pos) (some (.Name x b)) f.line X.env=pure true:=by rfl)(hs:∀x,foldedSetIterable iter X.env x=pure x:=by intro _;rfl)(J:X.fn x=true\/X.env.scope.names.lookup x=some .local:=by first|(left;rfl)|(right;rfl)|assumption):SB X c nn (.Assign [.Name x b] (.ListComp elt [⟨tg,iter,[],0⟩] scope pos) f::sts) (.Lj i ps n is one pe::ss):=by
 have h0:=CJ (tt:=Hf X.K (wO c none)) (te:=zf X.K (_H.ev c pe)) hc A m B ok hi E ht (λcl C s₀ H₀ ex=>(he cl C s₀ H₀ ex).ev) t hs J;refine λj s σ H D I q=>je h0 G.p j s σ H D I ?_;have L:σ.length=X.N.length:=I.len;obtain⟨F,ρ,fl,u,M,e,kk⟩:=q;rw[QF]at e;obtain⟨f1,O,a,e⟩:=aj e;rw[_H.X22]at a;obtain⟨Q,w,U,a⟩:=aj a;split at a;.rename_i k;obtain⟨rows,W,Y,a⟩:=aj a;obtain⟨Z,z,l,a⟩:=aj a;cases a;have zz:=aD l;clear l;obtain⟨l,_⟩:=zz;obtain⟨s1,h1,h2,rfl⟩:=uc l;refine(show vy n (tIt X.K (isVar ps) (_H.ev c ps)) g (Hf X.K (wO c none)) (zf X.K (_H.ev c pe)) σ H (λv H1=>kE i v σ H1 (aaO X.K i (eO c nn ss) D))from Jy (c:=c) (ul:=bB ρ (isVar ps)) L r (λR h=>⟨F,ρ,Q,w,M,U,h⟩) k Y λq as F' H' s wq nd len row fr=>?_);exact⟨F,ρ,σ,H,F',_,q,as,rows,fl,u,NB.mk' s h1 h2 wq nd len row fr,e,λF2 y H2 s2=>kk F2 y H2 s2⟩
 .cases a
end
end _H
namespace _H
open PySem _L Spec PyProof.Rows Calls W
variable{i:Nat}{x:Str}
section
variable{K:PySem.W.Frag}{F F1 H H1:Hp}{ρ ρ1 ρ2:List Sl}{σ σ1:_L.St}
theorem GS.adt{x:Nat}{kvs f:List (Int×D)}{a:Addr}{w:HO}(g:GS K F ρ σ H)(e:ρ[x]?=some (.dC kvs))(p:σ[x]?=some (some (.ref a)))(r:mG K F w (.v f)):aC K F ρ σ H F (ρ.set x (.dC f)) σ (upd H a w):=by
 have hi:x<ρ.length:=(eV e).1;have y:aV ρ σ x a:=⟨⟨_,_,e,rfl⟩,p⟩;obtain⟨J,L,h1,M,z,N⟩:=g.own x _ _ e rfl;rw[p]at h1;cases h1;have h:∀{j:Nat}{c:Addr},aV (ρ.set x (.dC f)) σ j c->aV ρ σ j c:=λ{j c}⟨⟨t,dt,m,s⟩,q3⟩=>by
  by_cases b:j=x;.subst b;exact⟨⟨_,_,e,rfl⟩,q3⟩
  .rw[fL b]at m;exact⟨⟨t,dt,m,s⟩,q3⟩
 refine⟨⟨λc o q=>?_,by simp[g.len],λj b' d q=>?_,λj t dt q u=>?_,λj k c m s=>g.dis j k c (h m) (h s)⟩,.refl _,λc n B=>absurd n B,λc o q n=>?_,λc⟨j,q⟩=>.inl ⟨j,h q⟩,by simp,λj t q l=>⟨rfl,?_⟩⟩
 . have:c≠a:=by rintro rfl;rw[z]at q;cases q
   rw[aB this];exact g.sub c o q
 . by_cases b:j=x;.subst b;rw[getElem?_set_self hi]at q;cases q
   .rw[fL b]at q;exact g.val j b' d q
 . by_cases b:j=x;.subst b;rw[getElem?_set_self hi]at q;cases q;cases u;exact⟨a,_,p,aL,z,r⟩
   . rw[fL b]at q;obtain⟨c,C,A,E,G,I⟩:=g.own j t dt q u;have:c≠a:=by rintro rfl;exact b (g.dis j x c ⟨⟨t,dt,q,u⟩,A⟩ y)
     exact⟨c,C,A,by rw[aB this];exact E,G,I⟩
 . have:c≠a:=by rintro rfl;exact n ⟨x,y⟩
   rw[aB this];exact q
 . by_cases b:j=x;.subst b;rw[e]at q;cases q;cases l
   .exact⟨t,by rw[fL b];exact q,.refl t⟩
theorem GS.newV{kvs:List (Int×D)}{a:Addr}{z:HO}{s0:Sl}(g:GS K F ρ σ H)(e:ρ[i]?=some s0)(w:uF s0=false)(r:mG K F z (.v kvs))(p:H a=none):aC K F ρ σ H F (ρ.set i (.dC kvs)) (σ.set i (some (.ref a))) (upd H a z):=by
 have hi:i<ρ.length:=(eV e).1;have s:i<σ.length:=by rw[<-g.len];exact hi
 have A:F a=none:=by cases q:F a with|none=>rfl|some o=>rw[g.sub a o q]at p;cases p
 have f:∀{j:Nat}{c:Addr},j≠i->aV (ρ.set i (.dC kvs)) (σ.set i (some (.ref a))) j c->aV ρ σ j c:=λ{j c}b⟨⟨t,ds,e1,e2⟩,e3⟩=>by rw[fL b]at e1 e3;exact⟨⟨t,ds,e1,e2⟩,e3⟩
 have new:∀{c:Addr},aV (ρ.set i (.dC kvs)) (σ.set i (some (.ref a))) i c->c=a:=λ{c}⟨_,e3⟩=>by rw[getElem?_set_self s]at e3;cases e3;rfl
 have no:∀{j:Nat},¬ aV ρ σ j a:=λ{j}⟨⟨t,ds,e1,e2⟩,e3⟩=>by obtain⟨c,o,h,m,_⟩:=g.own j t ds e1 e2;rw[e3]at h;cases h;rw[p]at m;cases m
 refine⟨⟨λc o q=>?_,by simp[g.len],λj b' d q=>?_,λj t dt q B=>?_,λj k c h m=>?_⟩,.refl _,λc n C=>absurd n C,λc o q n=>?_,λc⟨j,q⟩=>?_,by simp,λj t q l=>?_⟩
 . have:c≠a:=by rintro rfl;rw[A]at q;cases q
   rw[aB this];exact g.sub c o q
 . by_cases b:j=i;.subst b;rw[getElem?_set_self hi]at q;cases q
   .rw[fL b]at q ⊢;exact g.val j b' d q
 . by_cases b:j=i;.subst b;rw[getElem?_set_self hi]at q;cases q;cases B;exact⟨a,_,getElem?_set_self s,aL,A,r⟩
   . rw[fL b]at q ⊢;obtain⟨c,o,E,y,G,I⟩:=g.own j t dt q B;have:c≠a:=by rintro rfl;rw[p]at y;cases y
     exact⟨c,o,E,by rw[aB this];exact y,G,I⟩
 . by_cases b:j=i
   . by_cases u:k=i;.rw[b,u]
     .subst b;rw[new h]at m;exact absurd (f u m) no
   . by_cases u:k=i;.subst u;rw[new m]at h;exact absurd (f b h) no
     .exact g.dis j k c (f b h) (f u m)
 . have:c≠a:=by rintro rfl;rw[p]at q;cases q
   rw[aB this];exact q
 . by_cases b:j=i;.subst b;rw[new q];exact .inr p
   .exact .inl ⟨j,f b q⟩
 . have b:j≠i:=by rintro rfl;rw[e]at q;cases q;rw[w]at l;cases l
   exact⟨by rw[fL b],t,by rw[fL b];exact q,.refl t⟩
end
section
variable{X:Cx}{c:Call}{n:Nat}{a b e:Expr}{pa pb p:P}{pos:Pos}
theorem BR{f m:Pos}(o:X.N.Nodup)(hi:X.N[i]?=some x)(r:Loc X.env.scope x)(hs:swapsWith (.Dict [] [] m) (some (.Name x f)) pos.line X.env=pure false:=by rfl)(s:X.fn x=true\/X.env.scope.names.lookup x=some .local:=by first|(left;rfl)|(right;rfl)|assumption):SS X c n (.Assign [.Name x f] (.Dict [] [] m) pos) (.Gz i):=by
 refine cz (mV o hi r yj hs s) ?_;rintro D σ H⟨F,ρ,fl,h,g,e,k⟩;rw[_H.X26]at e;have go:∀s0,ρ[i]?=some s0->uF s0=false->fl=.next->h=ρ.set i (.dC [])->∀a,H a=none->D.nx (σ.set i (some (.ref a))) (upd H a (.dK [])):=λs0 q t j l a u=>by subst j l;exact k F _ _ (g.newV (kvs:=[]) q t (KR.oc .nil) u)
 split at e;.rename_i q;cases e;exact go _ q rfl rfl rfl
 .rename_i q;cases e;exact go _ q rfl rfl rfl
 .rename_i q;cases e;exact go _ q rfl rfl rfl
 .cases e
theorem xm{w f:Pos}{pk:P}(hu:X.A.units+8<cLine)(C:X.N[i]?=some x)(E:vC X.env.scope x)(G:SX X c a pk)(he:SX X c e p)(hs:swapsWith e (some (.Subscript (.Name x w) a f)) pos.line X.env=pure false:=by rfl)(hd:(x==("__debug__":Str))=false:=by decide)(m:(x==("__classdict__":Str))=false:=by decide):SS X c n (.Assign [.Subscript (.Name x w) a f] e pos) (.iD i pk p):=by
 obtain⟨ta,h1,I⟩:=G.cL;refine cz (Ea (by omega) (dO C E hd m) h1 he.ev hs) ?_;rintro D σ H⟨F,ρ,fl,J,g,e,k⟩;rw[_H.X27]at e;obtain⟨r,o,L,l⟩:=aj e;clear e;refine⟨F,ρ,r,o,g,L,λv F1 H1 s1 M=>?_⟩;obtain⟨F2,s2,_,O⟩:=s1.dz M;split at l
 . rename_i Q U;obtain⟨kd,W,Y,h⟩:=aj l;clear l;obtain⟨s,o0,t,w2,w3,w4⟩:=s2.gs.own i _ _ U rfl;refine⟨.ref s,t,I s2.gs Y λy Z H3 s3 py=>?_⟩;split at h
   . rename_i kvs j q;split at h;.rename_i hl;cases h;obtain⟨a1,o1,z,y2,y3,y4⟩:=s3.gs.own i _ _ q rfl;rw[t]at z;cases z;obtain⟨es,rfl,B⟩:=KR.Ua y4;have u:=B.put (k:=j) (O.mono s3.cF);refine⟨s,upd H3 s (.dK (putK es (Sum.inl j:Key) v)),rfl,?_,k Z σ _ ((s2.trans s3).trans (s3.gs.adt q t u.oc))⟩;rw[py.int];exact .inl ⟨es,Sum.inl j,y2,rfl,by rw[B.len,sizeLine_eq];exact hl,rfl⟩
     .cases h
   .cases h
 .cases l
theorem Ay{y:Pos}{pk:P}(hu:X.A.units+8<cLine)(z:X.N[i]?=some x)(B:vC X.env.scope x)(C:SX X c a pk)(hs:Ot a)(hd:(x==("__debug__":Str))=false:=by decide)(l:(x==("__classdict__":Str))=false:=by decide):SX X c (.Subscript (.Name x y) a pos) (.RQ i pk):=by
 obtain⟨ta,h1,E⟩:=C.cL;refine⟨cP (PK (by omega) (dO z B hd l) h1 hs) ?_,λi h=>by cases h⟩;rintro σ H Q⟨F,ρ,r,G,g,e,k⟩;rw[_H.E26]at e;split at e
 . rename_i I q;obtain⟨kd,J,L,f⟩:=aj e;clear e;obtain⟨m,o0,o,w2,w3,w4⟩:=g.own i _ _ q rfl;refine⟨.ref m,o,E g L λv F1 M s1 s=>?_⟩;split at f;.rename_i kvs O;obtain⟨t,U⟩:=aD f;clear f;subst U;obtain⟨j,W,Y⟩:=cU t;clear t;obtain⟨d,Z,e6⟩:=map_some Y;subst e6;rw[dU W]at s;obtain⟨a1,o1,u,y2,y3,y4⟩:=s1.gs.own i _ _ O rfl;rw[o]at u;cases u;obtain⟨es,rfl,kr⟩:=KR.Ua y4;obtain⟨w,g1,g2⟩:=kr.get Z;rw[s.int];exact⟨m,w,rfl,.inl ⟨es,Sum.inl j,.inl y2,rfl,g1.symm⟩,k w F1 M s1 (show Rep X.K F1 _ _ from g2)⟩
   .cases f
 .cases e
theorem Th{G:Pos}{pk:P}{neg:Bool}{op:CmpOp}(t:(op=.In/\neg=false)\/(op=.NotIn/\neg=true))(hu:X.A.units+8<cLine)(w:X.N[i]?=some x)(z:vC X.env.scope x)(J:SX X c a pk)(hd:(x==("__debug__":Str))=false:=by decide)(m:(x==("__classdict__":Str))=false:=by decide):PC X op a (.Name x G) (zf X.K (_H.ev c (.RT i pk neg))):=by
 obtain⟨L,h1,M⟩:=J.cL;have l:∀{σ:_L.St}{H:Hp}{Q:VK},zf X.K (_H.ev c (.RT i pk neg)) σ H Q->L σ H λy u=>Vs i σ u λx B=>∃a o,x=.ref a/\oZ B a y o/\Q (.bl (if neg then !o.isSome else o.isSome)) B:=λ{σ H Q}⟨F,ρ,r,ρ',g,e,k⟩=>by
  rw[_H.E27]at e;obtain⟨kd,O,U,q⟩:=aj e;clear e;refine M g U λv F1 u s1 C=>?_;split at q;.rename_i kvs W;obtain⟨Y,Z⟩:=aD q;clear q;subst Z;obtain⟨j,e4,e5⟩:=map_some Y;subst e5;rw[dU e4]at C;obtain⟨E,o1,y1,y2,y3,y4⟩:=s1.gs.own i _ _ W rfl;obtain⟨es,rfl,kr⟩:=KR.Ua y4;rw[C.int];refine⟨.ref E,y1,E,_,rfl,.inl ⟨es,Sum.inl j,.inl y2,rfl,rfl⟩,?_⟩;rw[kr.has j];exact k _ F1 u s1 (show Rep X.K F1 _ _ from fO _)
  .cases q
 rcases t with⟨rfl,rfl⟩|⟨rfl,rfl⟩;.exact λf s σ H Q I h=>R5 (by omega) h1 (dO w z hd m) f s σ H Q I (l h)
 .exact λf s σ H Q I h=>Ep (by omega) h1 (dO w z hd m) f s σ H Q I (l h)
end
theorem qe{P:Program}{w:World}:∀{ks:List Int}{es:List (Key×V)}{vs:List (Key×Value)}{a:List Value},es.map (·.1)=ks.map (Sum.inl:Int->Key)->KV es vs->a.length=vs.length->(∀(j:Nat)(v:Value),a[j]?=some v->∃(k:Key)(x:Value),vs[j]?=some (k,x)/\(bh P w).is k v=true)->IntsAre a ks
 |[],es,_,a,he,r,h,_=>by cases es with
   |nil=>cases r;cases a with|nil=>exact .nil|cons _ _=>simp at h
   |cons _ _=>simp at he
 |i::ks,es,_,a,he,r,h,k=>by cases es with|nil=>simp at he|cons p es=>cases r with|@cons _ q _ _ r t=>rw[map_cons,map_cons]at he;cases a with|nil=>simp at h|cons v a=>
         obtain⟨f,x,c,g⟩:=k 0 v rfl;simp at c;have l:f=Sum.inl i:=by have z:=r.1;rw[c]at z;rw[<-(List.cons.inj he).1];exact z.symm
         subst l;obtain⟨n,m,b,rfl⟩|⟨_,_,b,_⟩:=bF (show qj (Sum.inl i) v=true from g);.cases b;exact .cons _ m (qe (List.cons.inj he).2 t (by simpa using h) λj v e=>k (j+1) v (by simpa using e))
         .cases b
section
variable{X:Cx}{c:Call}{n:Nat}{a b e:Expr}{pa pb p:P}{pos:Pos}
theorem aaJ(hc:X.calm=true):du X (.type "list") (Ox X.K λx=>blt .Yn [x]):=by rintro m s σ H xs Z Q I r⟨x,z,F,d,A,sm,B,he,k⟩;cases d with|dv ks ds=>
   obtain⟨C,he⟩:=bN (show(if ks.length<=16777216 then some (R.own (ks.map D.int))else none)=some A from he);subst he;obtain⟨q,E,g,rfl,G,J,L⟩:=B.dv sm;subst z;obtain⟨u,rfl,M⟩:=r.one;cases M;obtain⟨ho,hz,N,vs,t,dd⟩:=(show bA X.prog X.w H s.heap q (.dz E (.dK (ent ks g)))from I.hok q _ G);obtain⟨ep,dd⟩:=dd.dictAt;have y:=ux (ks:=ks) (vs:=g) (by rw[J.length];exact L);have l:vs.length=ks.length:=by rw[<-Paired.length t];have:=congrArg List.length y;simpa using this
   refine kdl_call (kdl_dict (knd:=bh X.prog X.w) (kvs:=vs) (ep:=ep) N) (I.ok.hd hc) dd (by rw[l,sizeLine_eq];omega) λh' O h U kp W f=>?_;have Y:IntsAre h.toList ks:=qe (P:=X.prog) (w:=X.w) y t (by rw[length_toList];exact f.1) λj v e=>f.2 j v (by rw[<-Array.getElem?_toList];exact e);refine⟨.ref s.heap.objs.size,_,I.laid (t':=O) (o:=.lst (ks.map V.int)) (h':=h') kp (eG) ⟨by rw[length_map,sizeLine_eq];omega,h.toList,U,oG Y,by rw[Array.toArray_toList];exact W⟩,rfl,?_⟩;exact zN sm (uV ks) (I.hok.fresh (eG)) k|_=>cases he
theorem Hc{p':Pos}(f:x="list")(hc:X.calm=true)(g:Gl X x)(j:X.mg x=none)(k:SX X c a pa)(hs:starEach [a] X.env=(false,eval a X.env)::starEach [] X.env:=by rfl):SX X c (.Call (.Name x p') [a] [] pos) (.blt .Yn [pa]):=by subst f;exact p6 (λh=>pg (aaJ hc) g j (by decide+kernel) h (he:=hs)) k (λρ=>rfl) rfl hs
theorem O2{neg:Bool}{op:CmpOp}(f:(op=.In/\neg=false)\/(op=.NotIn/\neg=true))(L:X.A.units+8<cLine):gq X (compareOp op) (rD X.K (yP neg)):=by rintro m s σ H x y v u Q I h t⟨F,d,e,r,sm,w,z,he,k⟩;cases d with
 |int j=>cases e with|dv ks M=>
     cases he;obtain⟨q,B,vs,rfl,C,E,G⟩:=z.dv sm;have J:=KR.zip E G;rw[w.int]at h;obtain rfl:u=Value.ref q:=t;have g:oZ H q (.int j) (jQ (ent ks vs) (Sum.inl j:Key)):=.inl ⟨_,Sum.inl j,.inr ⟨B,C⟩,rfl,rfl⟩;have o:(jQ (ent ks vs) (Sum.inl j:Key)).isSome=ks.contains j:=by rw[J.has j];congr 1;rw[List.map_fst_zip (by omega)]
     rcases f with⟨rfl,rfl⟩|⟨rfl,rfl⟩;.refine aaM (by omega) I g h λs3 l=>⟨.bl (jQ (ent ks vs) (Sum.inl j:Key)).isSome,H,l,rfl,?_⟩;rw[o];exact cG.dB sm (fO _) k
     .refine CK (by omega) I g h λs3 l=>⟨.bl (!(jQ (ent ks vs) (Sum.inl j:Key)).isSome),H,l,rfl,?_⟩;rw[o];exact cG.dB sm (fO _) k|_=>cases he
 |_=>cases he
end
end _H
namespace PySem
section
variable{prog:Program}{w:World}{A:Around}{E:Value->Shared->Prop}{s:Shared}
theorem wD{Q:List Value->Shared->Prop}{I l:Addr}{items:Array Value}(u:A.handled=none)(f:s.heap.IsRevIter I l ((items.size:Int)-1))(p:s.heap.IsList l items)(k:l≠I)(g:items.size<=2^24)(x:∀h' m c,(∀b o,b≠I->s.heap.get? b=some o->h'.get? b=some o)->s.heap.objs.size<h'.objs.size->ItemsOf (λi v=>items[items.size-1-i]?=some v) c items.size->Q c.toList {s with heap:=h',toks:=m}):
 wpAny (model prog w) A (collect (.ref I)) Q E s:=by have h:I<s.heap.objs.size:=let⟨_,ho,_⟩:=f;lt_size ho;have n:l<s.heap.objs.size:=let⟨_,ho,_⟩:=p;lt_size ho;unfold collect;refine wpAny_bind (wpAny_runValue (codeAny_builtin F.entry_proto_collect ?_));rw[Around.under_plainId F.plain_proto_collect _];show wpAny _ A.in1 (newList []>>=λl=>again (.builtin "list.__iadd__" ⟨[l,.ref I],[]⟩)) _ _ s;refine wpAny_bind (wpAny_newObj_type ?_);refine wpAny_pure ⟨plainId_quiet F.plain_list_iadd _,codeAny_builtin F.entry_list_iadd ?_⟩;rw[Around.under_plainId F.plain_list_iadd _];show wpAny _ A.in1 (listExtendWith (.ref s.heap.objs.size) (.ref I) (.ref s.heap.objs.size)) _ _ _;refine nQ (A:=A) (R:=λr q=>match r with
  |.ok (.ret v)=>wpAny (model prog w) A (match v with
   |.ref a=>do let o<-load a match o.data with|.seq xs _=>pure xs.toList|_=>unsupported "internal:collect"
   |_=>unsupported "internal:collect") Q E q|.ok _=>False|.error e=>E e q) (s:={s with heap:=s.heap.push {cls:=.type "list",data:=.seq #[]}}) u (f.at λo e=>gY e) (p.at λo e=>gY e) k g s.heap.objs.size (Ne.symm (ne_of_lt h)) (Ne.symm (ne_of_lt n)) _ 0 (get?_push_size _ rfl) λh' m c B y t j=>?_;refine wpAny_bind (wpAny_load t ?_);exact wpAny_pure (x h' m c (λb o z e=>y b o (ne_of_lt (lt_size e)) z (gY e)) (lt_size t) j)
end
theorem j8(I l:Addr)(items:Array Value)(i:l≠I)(hsz:items.size<=2^24):Meets (Builtin.«tuple.__new__» ⟨[.type "tuple",.ref I],[]⟩) (λA R s=>A.handled=none/\s.heap.IsRevIter I l ((items.size:Int)-1)/\s.heap.IsList l items/\∀(h':Heap)(p:Nat),(∀b o,b≠I->s.heap.get? b=some o->h'.get? b=some o)->s.heap.objs.size<h'.objs.size->∀a:Array Value,a=items.reverse->R (.ok (.ret (.ref h'.objs.size))) {s with heap:=h'.push {cls:=.type "tuple",data:=.seq a},toks:=p}):=.of_wp λprog w A R s h=>by
  obtain⟨r,f,t,h⟩:=h;have q:=sub_tuple_self;have k:=init_tuple_lookup;have u:=madeHere_tuple;have x:Shared.TypeIs s (.ref I) "list_reverseiterator":=f.typeIs;obtain⟨o,ho,hc,hd⟩:=id f;obtain⟨C,g,d,p,os⟩:=s;wp_walk using AutoSeq1.wpAny_loadPart' ho,wpAny_typeOf x,wD (A:=A.in1) r f t i hsz;intro h' m a y n c;show wpAny _ _ (tupleExact a.toList.toArray>>=λv=>ret v) _ _ _;have e:a.toList.toArray=a:=by simp
  have z:a=items.reverse:=by refine Array.ext (by rw[c.1,Array.size_reverse]) λj h1 E=>?_;have:=c.2 j _ (Array.getElem?_eq_getElem h1);rw[Array.getElem_reverse];have B:=Array.getElem?_eq_some_iff.mp this;exact B.2.symm
  rw[e];unfold tupleExact;refine wpAny_bind (wpAny_newObj_type ?_ (by show a.size<=sizeLine;rw[c.1,sizeLine_eq];omega));exact wpAny_pure ⟨_,rfl,h h' m y n a z⟩
section
variable{prog:Program}{w:World}{A:Around}{E:Value->Shared->Prop}{s:Shared}
theorem qx{I l:Addr}{items:Array Value}{Q:Value->Shared->Prop}(i:A.handled=none)(a:s.heap.IsRevIter I l ((items.size:Int)-1))(j:s.heap.IsList l items)(c:l≠I)(hsz:items.size<=2^24)(h:∀(h':Heap)(f:Nat),(∀b o,b≠I->s.heap.get? b=some o->h'.get? b=some o)->s.heap.objs.size<h'.objs.size->Q (.ref h'.objs.size) {s with heap:=h'.push {cls:=.type "tuple",data:=.seq items.reverse},toks:=f}):wpAny (model prog w) A (call (.type "tuple") [.ref I]) Q E s:=callType_new F.called_tuple (by decide) (F.typeCall_tuple_1 _) (F.newCall_tuple_1 _) (λobj=>F.args_object_init_2 obj _) F.entry_tuple_new (j8 I l items c hsz) ⟨i,a,j,λh' f k g m e=>by subst e;exact⟨⟨_,get?_push_size _ rfl,rfl⟩,h h' f k g⟩⟩
end
end PySem
namespace _L
open PySem Spec PyProof.Rows
section
variable{X:Cx}{pins:List (Addr×Obj)}{σ:St}{H:Hp}{s:Shared}{E:Value->Shared->Prop}
theorem zQ{a:Expr}{B:TE}{p pos J g:Pos}(hc:X.calm=true)(n:Gl X "tuple")(t:X.mg "tuple"=none)(L:Gl X "reversed")(M:X.mg "reversed"=none)(N:PE X a B)(hs:starEach [a] X.env=[(false,eval a X.env)]:=by rfl)(i:starEach [.Call (.Name "reversed" p) [a] [] pos] X.env=[(false,eval (.Call (.Name "reversed" p) [a] [] pos) X.env)]:=by rfl):PE X (.Call (.Name "tuple" J) [.Call (.Name "reversed" p) [a] [] pos] [] g) (λσ H Q=>B σ H λx f=>∃ad xs,x=.ref ad/\fM X.K f ad xs/\∀l,f l=none->Q (.ref l) (upd f l (.tup xs.reverse))):=by
 intro pins s σ H Q I h;refine Call_ (mQ I n t yl (PyProof.Rows.callWith_type1 ?_ i rfl));rw[i];show wpAny _ _ (spliced ((false,eval (.Call (.Name "reversed" p) [a] [] pos) X.env)::[])) _ _ _;refine Calls.spliced_cons (Call_ (mQ I L M sH (PyProof.Rows.callWith_type1 (bU ((bz N cZ hs) pos pins s σ H (λvs f=>match vs with|[x]=>∃ad xs,x=.ref ad/\fM X.K f ad xs/\∀l,f l=none->Q (.ref l) (upd f l (.tup xs.reverse))|_=>False) I h) ?_) hs rfl)));rintro us s1⟨vs,f,m,r1,v⟩;obtain⟨ad,xs,O,q,w⟩:∃ad xs,fM X.K f ad xs/\(∀l,f l=none->Q (.ref l) (upd f l (.tup xs.reverse)))/\vs=[.ref ad]:=by cases vs with|nil=>cases v|cons x r=>cases r with|nil=>obtain⟨ad,xs,rfl,q,U⟩:=v;exact⟨ad,xs,q,U,rfl⟩|cons _ _=>cases v
 subst w;obtain⟨u,rfl,W⟩:=r1.one;cases W;obtain⟨c,C,y,hz⟩:=m.list O;have hsz:c.toArray.size=xs.length:=by rw[size_toArray,<-C.length]
 refine call_reversed_list y.isList (Calls.spliced_nil ?_);have z:ad≠s1.heap.objs.size:=ne_of_lt (let⟨_,ho,_⟩:=y.isList;lt_size ho);have A:(s1.heap.push (revObj ad ((c.toArray.size:Int)-1))).IsList ad c.toArray:=y.isList.at λo e=>gY e;refine qx (m.ok.hd hc) (I:=s1.heap.objs.size) (l:=ad) (items:=c.toArray) ⟨_,get?_push_size _ rfl,rfl,rfl⟩ A z (by rw[hsz];exact le_trans hz (by decide)) λh' Y G j=>?_;have k:(s1.heap.push (revObj ad ((c.toArray.size:Int)-1))).objs.size=s1.heap.objs.size+1:=size_push ..;dsimp only at G j ⊢;rw[k]at j;have Z:c.toArray.reverse=c.reverse.toArray:=by simp
 rw[Z];refine⟨.ref h'.objs.size,_,m.laid (t':=Y) (o:=.tup xs.reverse) (h':=h'.push {cls:=.type "tuple",data:=.seq c.reverse.toArray}) (λb o e=>gY (G b o (ne_of_lt (lt_size e)) (gY e))) (by omega) ?_,rfl,q _ (m.hok.fresh (by omega))⟩;exact⟨by rw[List.length_reverse];exact hz,_,C.reverse,IsTup.new _ _⟩
end
end _L
namespace _H
open PySem _L Spec PyProof.Rows
section
variable{X:Cx}{c:Call}{a:Expr}{pa:P}{pos:Pos}
theorem zH{x y:Str}{p' o b:Pos}(p:y="tuple")(q:x="reversed")(hc:X.calm=true)(j:Gl X y)(m:X.mg y=none)(t:Gl X x)(u:X.mg x=none)(w:SX X c a pa)(hs:starEach [a] X.env=[(false,eval a X.env)]:=by rfl)(n:starEach [.Call (.Name x p') [a] [] pos] X.env=[(false,eval (.Call (.Name x p') [a] [] pos) X.env)]:=by rfl):SX X c (.Call (.Name y o) [.Call (.Name x p') [a] [] pos] [] b) (.blt .rvT [pa]):=by subst q p;obtain⟨Y,h1,z⟩:=w.cL;refine⟨cP (zQ hc j m t u h1 hs n) ?_,λi h=>by cases h⟩;rintro σ H Q⟨F,ρ,r,A,g,e,k⟩;rw[_H.E17]at e;obtain⟨d,B,C,f⟩:=aj e;have E:=aD f;clear f;obtain⟨f,G⟩:=E;subst G;cases d with|lst Z=>cases f;refine z g C ?_;rintro v F' H' s I;obtain⟨ad,xs,rfl,J,L⟩:=I.lst s.gs.sub;exact⟨ad,xs,rfl,J,λl M=>zL s.gs.sub (aH.rev L) M λv N O U W=>k v N O (s.trans (U.stp s.gs)) (.later s (W.o9 s.gs))⟩|_=>cases f
end
end _H
namespace _L
open PySem Spec PyProof.Rows Calls
section
variable{X:Cx}
theorem JC:aaw X (aah X.K):=by
 intro a s σ H x y v u Q I g k h;obtain⟨p,xs,i,z,rfl,rfl,l,he,q⟩:=h;cases g;obtain⟨t,rfl⟩:=k;obtain⟨b,r,e,hz⟩:=I.list l;obtain⟨j,h1,m,C,n,o⟩:=wC he;obtain⟨w,f,A⟩:=r.get m;have B:=r.length;have E:=tW;have fin:EP X a σ Q w s:=⟨z,H,I,A,q⟩;by_cases h0:0<=i
 . have c:i.toNat=j:=by rw[seqIndex_of h0 o]at h1;exact Option.some.inj h1
   exact wpAny_getItem_list e.isList h0 (by omega) (by rw[c];simpa using f) fin
 . have c:(i+(b.toArray.size:Int)).toNat=j:=by rw[seqIndex_neg (by omega) n]at h1;rw[size_toArray,<-B];exact Option.some.inj h1
   exact wpAny_getItem_list_neg e.isList (by omega) (by rw[size_toArray]<;>omega) (by omega) (by rw[c];simpa using f) fin
end
end _L
namespace _H
open PySem _L Spec PyProof.Rows Calls W
section
variable{X:Cx}{c:Call}{n:Nat}{a b e:Expr}{pa pb p:P}{pos:Pos}
set_option maxHeartbeats 800000 in
theorem Df{k e:Int}{t1 t2 p1 p2 p3}:SX X c (.Dict [some (.Constant (.int k) t1 p1)] [.Constant (.int e) t2 p2] p3) (.Bp k e):=by
 refine⟨?_,λi h=>by cases h⟩;intro f s σ H Q I h;obtain⟨F,ρ,r,x,g,m,kk⟩:=h;rw[_H.E28]at m;cases m;have y:pO [] [((Sum.inl k:Key),V.int e)]=ent [k] [.int e]:=rfl;have A:=Nf (X:=X) (pos:=p3) (K1 (wN (i:=k) (j:=t1) (pos:=p1)) (wN (i:=e) (j:=t2) (pos:=p2)) Qa) rfl rfl (by simp) (by simp);refine bU (A f s σ H (λv H'=>∃q,v=.ref q/\H q=none/\H'=upd H q (BX [k] [.int e])) I ?_) λu s1⟨v,H1,I1,r1,q,e1,hn,e2⟩=>?_;.intro q B;refine⟨aL,[(Sum.inl k,.int e)],rfl,by simp,q,rfl,B,?_⟩;rw[BP,y];rfl
 subst e1 e2;obtain⟨o,t⟩:=Inv.Jt I1 (a:=q) (kvs:=ent [k] [.int e]) aL;rw[BP]at t;have C:F q=none:=by cases z:F q with|none=>rfl|some o=>rw[g.sub q o z]at hn;cases hn
 have sm:aJ F (upd F q (.dz o (BX [k] [.int e]))):=aJ.cu C;refine⟨.ref q,_,t,r1,kk _ (upd F q (.dz o (BX [k] [.int e]))) _ (Ext.stp g ⟨aJ.cu hn,sm,λb o e=>?_,λb n w=>?_⟩) ?_⟩
 . by_cases l:b=q;.subst l;rw[aL]at e ⊢;exact e
   .rw[aB l]at e ⊢;exact g.sub b o e
 . by_cases l:b=q;.subst l;exact lO hn
   .rw[aB l]at w;exact absurd n w
 .show Rep X.K _ _ (.dv [k] [.int e]);rw[Rep];exact⟨q,o,[.int e],rfl,aL,.cons (bY _) .nil,rfl⟩
theorem Pa{x:Str}{k:Nat}{px m:Pos}{op:Operator}{sub:Bool}(ho:PIp X op (ipI λi j=>if sub then i-j else i+j))(hN:X.N[k]?=some x)(hv:vC X.env.scope x)(hi:SX X c b pb)(he:SX X c e p)(ha:∀y iv new,augStore b y iv new=(do holding [new,y,iv] (setItem y iv new);release [new,y,iv] [];pure .next):=by intros;rfl)(hd:(x==("__debug__":Str))=false:=by decide)(C:(x==("__classdict__":Str))=false:=by decide):SS X c n (.AugAssign (.Subscript (.Name x px) b m) op e pos) (.Lg k pb sub p):=by
 obtain⟨ti,E,G⟩:=hi.cL;obtain⟨te,I,J⟩:=he.cL;refine cz (O9 (dO hN hv hd C) E JC I ho set_list ha) ?_;rintro D σ H⟨F,ρ,fl,ac,g,e,kk⟩;rw[_H.X16]at e;obtain⟨x0,ae,o,Y⟩:=aj e;clear e;obtain⟨e0,GD⟩:=aD o;clear o;subst GD;obtain⟨dk,L,e1,Z⟩:=aj Y;clear Y;obtain⟨l,af,f,eC⟩:=aj Z;clear Z;obtain⟨A,M⟩:=aD f;clear f;subst M;obtain⟨ra,ag,r,eD⟩:=aj eC;clear eC;obtain⟨e3,O⟩:=aD r;clear r;subst O;obtain⟨db,ah,e4,s⟩:=aj eD;clear eD;obtain⟨Q,QF,h,_⟩:=wg g e0;refine⟨.ref Q,h,G g e1 λvi F1 H1 s1 pi=>?_⟩;split at s
 . rename_i u v bb ds kz q;split at s
   . rename_i j hj;cases s;obtain⟨B,f3,f5⟩:=cU e3;have U:B=kz:=by cases f3;rfl
     subst U;have f:pk L k=some (.lst l):=by
      unfold Ad at A;split at A;.rename_i z;cases A;exact z
      .cases A
     obtain⟨o',t,po⟩:=s1.gs.pk f;rw[h]at t;cases t;obtain⟨ad,xs,hr,hL,rs⟩:=po.lst s1.gs.sub;cases hr;obtain⟨j0,h1,h2⟩:=G6 f5;obtain⟨w,h3,h4⟩:=rs.get h2;have W:JT xs B=some w:=by unfold JT;rw[rs.length,h1];exact h3
     have hw:w=.int u:=by rw[Rep]at h4;exact h4
     subst hw;refine⟨Q,xs,B,.int u,rfl,pi.int,hL,W,J s1.gs e4 λvb F2 H2 s2 pb=>⟨u,v,rfl,pb.int,?_⟩⟩;obtain⟨ai,zs,z1,z2,z3,z4⟩:=s2.gs.uw k _ ds q rfl;rw[h]at z1;cases z1;refine⟨Q,zs,B,j,rfl,pi.int,z2,by rw[z4.length];exact hj,?_⟩;exact kk F2 σ _ ((s1.trans s2).trans (s2.gs.mut q h (z4.set (bY _) j)))
   .cases s
 .cases s
end
section
variable{X:Cx}{c:Call}{n:Nat}{a b e:Expr}{pa pb p:P}{pos:Pos}
theorem N7{neg:Bool}{o:Op}{op:CmpOp}(h:(op=.In/\neg=false)\/(op=.NotIn/\neg=true))(j:uG o=yP neg)(l:X.A.units+8<cLine)(m:SX X c a pa)(y:SX X c b pb)(B:behindInMarks op b=false):ST X c (.Compare a [op] [b] pos) (.bin o pa pb):=by obtain⟨C,E,h1,G,I⟩:=m.jm y;refine uR (Ck (O2 h l) h1 G B) λσ H Q q=>m5 (t:=Vw (rD X.K (yP neg)) C E) (λQ z=>?_) q;obtain⟨F,ρ,r,J,g,e,k⟩:=z;rw[_H.E4]at e;obtain⟨i,L,M,f⟩:=aj e;have N:=aD f;clear f;obtain⟨f,O⟩:=N;subst O;rw[j]at f;refine I g M λv u F' H' s U W=>⟨F',i.1,i.2,r,s.gs.sub,U,W,f,λw Y Z x rn=>?_⟩;exact k w Y Z (s.trans (x.stp s.gs)) (.later s (rn.o9 s.gs))
theorem Vr(f:X.A.units+8<cLine)(g:SX X c a pa)(h:SX X c b pb)(i:behindInMarks .In b=false):ST X c (.Compare a [.In] [b] pos) (.bin .din pa pb):=N7 (.inl ⟨rfl,rfl⟩) rfl f g h i
theorem S6{i:Nat}{x:Str}{h:Pos}{pk:P}{neg:Bool}{op:CmpOp}(f:(op=.In/\neg=false)\/(op=.NotIn/\neg=true))(j:X.A.units+8<cLine)(k:X.N[i]?=some x)(l:vC X.env.scope x)(m:SX X c a pk)(o:behindInMarks op (.Name x h)=false)(hd:(x==("__debug__":Str))=false:=by decide)(g:(x==("__classdict__":Str))=false:=by decide):ST X c (.Compare a [op] [.Name x h] pos) (.RT i pk neg):=uR (Wk (Th f j k l m hd g) o) λσ H Q q=>m5 (λ_ z=>z) q
end
end _H
namespace _H
open PySem _L Spec PyProof.Rows
section
variable{X:Cx}{c:Call}{n:Nat}{W:Nat->Hp->Prop}{e:Expr}{pos:Pos}
theorem Od{cl:Nat->Addr}{kk g np:Nat}{y:Str}{p' cpos:Pos}{es:List Expr}{ps:List P}(a:X.ex=[])(i:vN X (EW cl W))(j:fu X.prog X.w X.K X.mg X.base cl kk c g y np)(hr:gM kk X.A)(k:SG X c (e::es) ps)(l:Gl X y:=by rfl)(m:(e::es).length=np:=by rfl)(b:(y==("__debug__":Str))=false:=by rfl)(he:starEach (e::es) X.env=(false,eval e X.env)::starEach es X.env:=by exact aR rfl)(hpl:(backTo cpos (starEach es X.env)).any (·.1)=false:=by rfl)(f:ps.length=(e::es).length:=by rfl):XE X c W (.Call (.Name y p') (e::es) [] cpos) (.call g ps):=by obtain⟨te,h1,o⟩:=sr (p':=p') (cpos:=cpos) a i j hr k l m b he hpl f;exact cP h1 λσ H Q h=>o σ H Q h
end
section
variable{X:Cx}{c:Call}{n:Nat}{W:Nat->Hp->Prop}{e a:Expr}{p:P}{pos:Pos}
theorem CQ(he:SX X c e p):SS X c n (.Return (some e) pos) (.Bq p):=by refine cz (xg he.ev) ?_;rintro D σ H⟨F,ρ,fl,f,g,b,k⟩;rw[_H.X28]at b;obtain⟨r,h,i,b⟩:=aj b;cases b;exact⟨F,ρ,r,_,g,i,λv F1 j s1 l=>k F1 σ j s1 v l⟩
theorem Hk{k i np:Nat}{y:Str}{p' cpos:Pos}{es:List Expr}{q:P}{ps b:List P}(l:aW X.prog X.w X.K X.mg X.base k c i y np)(hr:gM k X.A)(h1:XE X c W e q)(m:SG X c es b)(o:Gl X y:=by rfl)(f:(y==("__debug__":Str))=false:=by rfl)(he:starEach (e::es) X.env=(false,eval e X.env)::starEach es X.env:=by exact aR rfl)(hpl:(backTo cpos (starEach es X.env)).any (·.1)=false:=by rfl):Rh X c n W (.Return (some (.Call (.Name y p') (e::es) [] cpos)) pos) (.Bq (.call i (q::ps))):=by obtain⟨s,fd,t,f1,f2,f3,f4,f5⟩:=l.ex;have r:=qR (p:=p') (pos:=cpos) (E:=E0) f1 hr o f2 f3 f4 .nil QG (bz h1 m he) f he hpl;refine cz (xg r) ?_;rintro D σ H⟨F,ρ,k,h,g,j,q⟩;rw[zy]at j;exact⟨F,ρ,k,h,g,j,q⟩
noncomputable def GV(X:Cx)(i:Nat)(e:Addr)(j:Nat)(b0:Bool)(x:Expr)(b:Bool):Prop:=PE X x (λσ H Q=>Gd i e σ/\σ[j]?=some (some (V.bl b0))/\∀H',aJ H H'->Q (.bl b) H')
variable{i j:Nat}{ea:Addr}{b0 b b1 b2:Bool}{x:Expr}
theorem Cr(h:GB X i ea x b):GV X i ea j b0 x b:=cP h λ_ _ _ q=>⟨q.1,q.2.2⟩
theorem Jl{y:Str}{g:Pos}(h:X.N[j]?=some y)(k:vC X.env.scope y)(hd:(y==("__debug__":Str))=false:=by rfl)(f:(y==("__classdict__":Str))=false:=by rfl):GV X i ea j b0 (.UnaryOp .Not (.Name y g) pos) (!b0):=cP (Jj (dO h k hd f)) λ_ H _ q=>⟨_,q.2.1,b0,rfl,q.2.2 H (aJ.refl _)⟩
theorem Ha(h:GV X i ea j b0 x b):GV X i ea j b0 (.BoolOp .And [x] pos) b:=IK h
theorem wU{y:Expr}{f:List Expr}{b':Bool}(h:GV X i ea j b0 x b)(g:GV X i ea j b0 (.BoolOp .And (y::f) pos) b'):GV X i ea j b0 (.BoolOp .And (x::y::f) pos) (b&&b'):=by refine cP (HX h g) λσ H Q q=>⟨q.1,q.2.1,λk s1=>⟨b,rfl,?_⟩⟩;cases b with|true=>exact⟨q.1,q.2.1,λl s2=>q.2.2 l (s1.trans s2)⟩|false=>exact q.2.2 k s1
theorem JP{k:Nat}{z A:Expr}{o s:Str}{U Y h l:Pos}(Z:X.N.Nodup)(B:i≠j)(hj:X.N[j]?=some o)(C:Loc X.env.scope o)(hk:X.N[k]?=some s)(E:Loc X.env.scope s)(h1:GB X i ea z b1)(h2:GV X i ea j b1 A b2)(G:swapsWith z (some (.Name o U)) h.line X.env=pure false:=by rfl)(I:X.fn o=true\/X.env.scope.names.lookup o=some .local:=by first|(left;rfl)|(right;rfl)|assumption)(J:swapsWith A (some (.Name s Y)) l.line X.env=pure false:=by rfl)(L:X.fn s=true\/X.env.scope.names.lookup s=some .local:=by first|(left;rfl)|(right;rfl)|assumption):HB X c n i ea [.Assign [.Name o U] z h,.Assign [.Name s Y] A l] [.asg j (.con (.bl b1)),.asg k (.con (.bl b2))]:=by
 refine jJ (je (mV Z hj C h1 G I) (MF (mV Z hk E h2 J L))) ?_;rintro D σ H⟨g,F,ρ,ac,gs,f,q⟩;rw[QF]at f;obtain⟨ae,af,t,f⟩:=aj f;rw[_H.X6,_H.ev]at t;obtain⟨r,ag,e2,t⟩:=aj t;cases e2;obtain⟨ah,ai,u,t⟩:=aj t;cases t;have M:=aD u;clear u;obtain⟨u,e4⟩:=M;replace f:=DW f;rw[_H.X6,_H.ev]at f;obtain⟨r,al,e5,f⟩:=aj f;cases e5;obtain⟨am,ap,w,f⟩:=aj f;cases f;have M:=aD w;clear w;obtain⟨w,e7⟩:=M;refine⟨g,λH1 s1=>?_⟩;have st:aC X.K F ρ σ H F ρ σ H1:=Ext.stp gs ⟨s1,.refl _,gs.sub.trans s1,λ_ x y=>absurd x y⟩;have m:=st.put (v:=.bl b1) (r:=.val (.bl b1)) (show Rep X.K F _ _ from fO _) u;have O:j<σ.length:=by obtain⟨s0,h0,_⟩:=uc u;rw[<-gs.len];exact(eV h0).1
 refine⟨?_,by rw[getElem?_set_self O],λH2 s2=>?_⟩;.show(σ.set j _)[i]?=_;rw[fL B];exact g
 have Q:=Ext.stp (F':=F) (H':=H2) m.gs ⟨s2,.refl _,m.gs.sub.trans s2,λ_ x y=>absurd x y⟩;exact q F _ H2 ((m.trans Q).put (v:=.bl b2) (r:=.val (.bl b2)) (show Rep X.K F _ _ from fO _) w)
end
end _H
noncomputable section
set_option maxHeartbeats 4000000
namespace _T
open PySem _L Spec PyProof.Rows _H
local macro_rules|`(term|⇑$n)=>`(P.con (.int $n))
local macro_rules|`(term|↑$n)=>`(P.var $n)
local macro_rules|`(tactic|ac_rfl)=>`(tactic|first|exact Or.inl rfl|exact Or.inr (Or.inl rfl))
set_option hygiene false
local macro_rules|`(term|↥($a,$b,$d))=>`(iT Pg w K mg base Jv (k+1) f fd $a (Ql K $b (λargs=>enter c n $d args)))
local macro_rules|`(term|↥($a,$b,$d,0))=>`(aW Pg w K mg base k c $a $b $d)
set_option hygiene true
local macro_rules|`(term|⇑($x))=>`(λ_ _ _ _ _=>$x)
local macro_rules|`(tactic|exists$e)=>`(tactic|with_reducible refine$e)
local macro_rules|`(tactic|lia)=>`(tactic|with_reducible refine aP ?_ ?_)
set_option hygiene false
local macro_rules|`(tactic|exists$i,$e)=>`(tactic|((with_reducible refine pH (i:=$i) ?_ ?_ ?_ ?_ ?_ ?_);exact nd;exact rfl;exact oi;rotate_left;rfl;exact oi;exact$e))
local macro_rules|`(tactic|exists$i,$e,0)=>`(tactic|((with_reducible refine rF (i:=$i) ?_ ?_ ?_ ?_ ?_ ?_ ?_ ?_ ?_);exact PassesOwn.never;exact hc;exact nd;exact rfl;exact oi;exact$e;rotate_left;(· intro _;rfl);exact oi))
local macro_rules|`(tactic|exists$a,$b,0,0)=>`(tactic|(refine ZP $a $b rfl rfl λcdv A outer s H E hr=>?_;have nd:=($b).nd))
local macro_rules|`(tactic|exists(),$e)=>`(tactic|((with_reducible refine Vo ?_);exact$e))
set_option hygiene true
local macro_rules|`(term|‹$l›)=>`((show(($l):List Str).Nodup by decide+kernel))
theorem hc:true=true:=rfl
theorem oi{b:Type}{a:b}{p:Prop}:a=a\/p:=.inl rfl
theorem aG{X:Cx}{c:Call}{a:Expr}{es:List Expr}{b:P}{ps:List P}(e:SX X c a b)(hr:SG X c es ps)(h:nst a=true):SG X c (a::es) (b::ps):=O4 e hr (aR h)
theorem dh{X:Cx}{c:Call}{a:Expr}{es:List Expr}{b:P}{ps:List P}(e:SX X c a b)(hr:SA X c es ps)(h:nst a=true):SA X c (a::es) (b::ps):=Cu e hr (aR h)
variable{Pg:Program}{w:World}{K:PySem.W.Frag}{mg:Str->Option Value}{base:Heap}{f:Addr}{fd:FuncData}{k n:Nat}{c:Call}{cl:Nat->Addr}
noncomputable def top(i:Nat):Stmt:=PySem.Challenge.pw_hourhaul_k89_worths_losses_gaps.main.body.getD i (.Pass ⟨0,0,0,0⟩)
noncomputable abbrev s0:Stmt:=top 8
noncomputable def b0:List S:=[.asg 2 (.idx (.idx ↑0 ⇑1) (.idx ↑1 ⇑0)),.ret (.RP (.idx ↑1 ⇑1) (.tup [.idx ↑2 ⇑0,.idx ↑2 ⇑1]) (.tup [.idx ↑2 ⇑1,.idx ↑2 ⇑0]))]
noncomputable def f0:Fd:=⟨2,3,b0⟩
theorem sc0:aM ["net","step","way"] ["net","step"] (aA s0):={}
include cl in
theorem d0(a:ig K "step_places" "step_places" s0 f fd):↥(["net","step"],2,f0):=by
 exists a,sc0,0,0;refine aP ?_ ?_;.exists 2,au (au (sv 0) aa) (au (sv 1) aa)
 lia;.exists(),wQ (gw (au (sv 1) aa)) (dj (dh (au (sv 2) aa) (dh (au (sv 2) aa) aN rfl) rfl)) (dj (dh (au (sv 2) aa) (dh (au (sv 2) aa) aN rfl) rfl))
 exact aq
noncomputable abbrev s1:Stmt:=top 9
noncomputable def b1:List S:=[.asg 2 (.idx (.idx (.idx ↑0 ⇑1) (.idx ↑1 ⇑0)) ⇑3),.ret (.RP (.idx ↑1 ⇑1) ↑2 (.neg ↑2))]
noncomputable def f1:Fd:=⟨2,3,b1⟩
theorem sc1:aM ["net","step","hours"] ["net","step"] (aA s1):={}
include cl in
theorem d1(a:ig K "step_hours" "step_hours" s1 f fd):↥(["net","step"],2,f1):=by
 exists a,sc1,0,0;refine aP ?_ ?_;.exists 2,au (au (au (sv 0) aa) (au (sv 1) aa)) aa
 lia;.exists(),wQ (gw (au (sv 1) aa)) (sv 2) (sG (sv 2))
 exact aq
noncomputable abbrev s2:Stmt:=top 10
noncomputable def b2:List S:=[.asg 3 (.idx ↑1 (.idx ↑2 ⇑0)),.ret (.RP (.idx ↑2 ⇑1) (.bin .sub (.idx (.idx (.idx ↑0 ⇑1) (.idx ↑2 ⇑0)) ⇑2) ↑3) ↑3)]
noncomputable def f2:Fd:=⟨3,4,b2⟩
theorem sc2:aM ["net","stream","step","loads"] ["net","stream","step"] (aA s2):={}
include cl in
theorem d2(a:ig K "step_room" "step_room" s2 f fd):↥(["net","stream","step"],3,f2):=by
 exists a,sc2,0,0;refine aP ?_ ?_;.exists 3,au (sv 1) (au (sv 2) aa)
 lia;.exists(),wQ (gw (au (sv 2) aa)) (ao bj (au (au (au (sv 0) aa) (au (sv 2) aa)) aa) (sv 3)) (sv 3)
 exact aq
noncomputable abbrev s3:Stmt:=top 11
noncomputable def b3:List S:=[.ret (.blt .sum [.comp ↑1 1 [2] true none (.call 1 [↑0,↑2])])]
noncomputable def f3:Fd:=⟨2,2,b3⟩
theorem sc3:aM ["net","steps"] ["net","steps"] (aA s3):={}
include cl in
theorem d3(a:ig K "steps_hours" "steps_hours" s3 f fd)(vQ:mg "sum"=none)(b:↥(1,"step_hours",2,0)):↥(["net","steps"],2,f3):=by
 exists a,sc3,0,0;refine aP ?_ ?_;.exists(),Kw rfl hc (by rfl) vQ (jD (N':=["net","steps","step"]) hc (Mx rfl (by rfl)) (fc (sv 1)) ⇑(bf (i:=2) ‹["net","steps","step"]› rfl (Or.inl rfl) (Or.inr rfl)) (gf (eG)) ⇑(iJ) ⇑((cN b hr (aG (sv 0) (aG (sv 2) az rfl) rfl))))
 exact aq
noncomputable abbrev s4:Stmt:=top 12
noncomputable def b4:List S:=[.Lj 2 (.vO ⇑0 (.idx ↑0 ⇑0)) 1 [5] true (.lst []),.Gy (.vO ⇑0 (.blt .len [.idx ↑0 ⇑1])) [3] true [.Gy (.tup [.tup [↑3,.con (.bl true)],.tup [↑3,.con (.bl false)]]) [4] true [.ifs (.cmp .gt (.call 2 [↑0,↑1,↑4]) ⇑0) [.Lk 2 (.idx (.call 0 [↑0,↑4]) ⇑0) ↑4] []]],.dz 2,.ret ↑2]
noncomputable def f4:Fd:=⟨2,5,b4⟩
theorem sc4:aM ["net","stream","steps","number","step"] ["net","stream"] (aA s4):={}
include cl in
theorem d4(a:ig K "open_steps" "open_steps" s4 f fd)(bw:mg "len"=none)(bL:mg "range"=none)(b:↥(0,"step_places",2,0))(e:↥(2,"step_room",3,0)):↥(["net","stream"],2,f4):=by exists a,sc4,0,0;exact(by(refine Ni (i:=2) (N':=["net","stream","steps","number","step","place"]) (g:=kE 5) ?_ ?_ ?_ ?_ ?_ ?_ ?_ ?_ ?_ ?_ ?_ ?_ ?_ ?_);exact hc;exact nd;exact rfl;exact oi;exact Mx rfl (by rfl);exact iK rfl (by rfl) bL (au (sv 0) aa);exact ⇑(bf (i:=5) ‹["net","stream","steps","number","step","place"]› rfl (Or.inl rfl) (Or.inr rfl));exact gf (eG);exact ⇑(iJ);exact ⇑((cO aN));(· exists Hr ?_ ?_;(· exists Ci (g:=kE 3) ?_ ?_ ?_ ?_ ?_ ?_ ?_;exact PassesOwn.never;exact hc;(· exists JF ?_ ?_ ?_ ?_ ?_;exact rfl;rfl;exact bL;exact dg rfl (by rfl) bw (au (sv 0) aa);rfl);exact bf (i:=3) nd rfl oi oi;(· rw[pL];exact xj 3);(· exists sO ?_ ?_;(· exists Ci (g:=kE 4) ?_ ?_ ?_ ?_ ?_ ?_ ?_;exact PassesOwn.never;exact hc;exact Ny (dj (dh (dj (dh (sv 3) (dh qg aN rfl) rfl)) (dh (dj (dh (sv 3) (dh qg aN rfl) rfl)) aN rfl) rfl));exact bf (i:=4) nd rfl oi oi;(· rw[pL];exact xj 4);(· exists sO ?_ ?_;(· exists V7 ?_ ?_ ?_;exact cj sV (cN e hr (aG (sv 0) (aG (sv 1) (aG (sv 4) az rfl) rfl) rfl)) aa (bO _);(· exists sO ?_ ?_;(· exists Ib (k:=2) ?_ ?_ ?_ ?_ ?_ ?_ ?_ ?_ ?_ ?_ ?_ ?_;exact rfl;(· first|exact Or.inl rfl|exact Or.inr (Or.inl rfl));exact au (cN b hr (aG (sv 0) (aG (sv 4) az rfl) rfl)) aa;exact sv 4;(· intro _ _;rfl);rfl;rfl;rfl;rfl;rfl;rfl;rfl);exact qO);exact qO);exact qO);(· intro _;rfl));exact qO);(· intro _;rfl));(· exists M9 ?_;(· lia;(· exists(),sv 2);exact aq)));rfl;(· intro _;rfl);exact oi)
noncomputable abbrev s5:Stmt:=top 13
noncomputable def b5:List S:=[.asg 3 (.call 4 [↑0,↑1]),.Gz 4,.iW (.blt .keys [↑2]) [5] true [.iD 4 ↑5 (.tup [.bin .Gw ↑2 ↑5,⇑0,.con .non])],.asg 6 (.blt .Yn [↑2]),.whl (.cmp .gt (.blt .len [↑6]) ⇑0) [.Gz 7,.iW ↑6 [5] true [.iW (.idx ↑3 ↑5) [8] true [.asg 9 (.idx (.call 0 [↑0,↑8]) ⇑1),.asg 10 (.tup [.bin .add (.idx (.RQ 4 ↑5) ⇑0) (.call 1 [↑0,↑8]),.bin .add (.idx (.RQ 4 ↑5) ⇑1) ⇑1]),.ifs (.or (.RT 4 ↑9 true) (.cmp .lt ↑10 (.slice (.RQ 4 ↑9) (.con .non) ⇑2))) [.iD 4 ↑9 (.bin .add ↑10 (.tup [↑8])),.iD 7 ↑9 (.con (.bl true))] []]],.asg 6 (.blt .Yn [.vw 7])],.ret ↑4]
noncomputable def f5:Fd:=⟨3,11,b5⟩
theorem sc5:aM ["net","stream","begun","steps","come","place","row","changed","step","to","found"] ["net","stream","begun"] (aA s5):={}
include cl in
theorem d5(a:ig K "shortest_come" "shortest_come" s5 f fd)(bw:mg "len"=none)(iY:mg "list"=none)(b:↥(4,"open_steps",2,0))(e:↥(1,"step_hours",2,0))(g:↥(0,"step_places",2,0)):↥(["net","stream","begun"],3,f5):=by
 exists a,sc5,0,0;refine aP ?_ ?_;.exists 3,cN b hr (aG (sv 0) (aG (sv 1) az rfl) rfl)
 lia;.exact(BR (i:=4) nd rfl oi (by rfl) (Or.inl rfl))
 lia;.exists 5,Pj (sv 2),0;(· lia;exact xm (i:=4) (aX hr) rfl (by ac_rfl) (sv 5) (dj (dh (xG (aX hr) (sv 2) (sv 5) (λ_ _=>rfl)) (dh aa (dh HR aN rfl) rfl) rfl)) (by rfl);exact aq)
 lia;.exists 6,Hc rfl hc (by rfl) iY (sv 2)
 lia;.exact(Aw PassesOwn.never (cj sV (dg rfl (by rfl) bw (sv 6)) aa (bO _)) (by lia;exact BR (i:=7) nd rfl oi (by rfl) (Or.inl rfl);(· lia;(· exists 5,fc (sv 6),0;(· lia;(· exists 8,fc (au (sv 3) (sv 5)),0;(· lia;(· exists 9,au (cN g hr (aG (sv 0) (aG (sv 8) az rfl) rfl)) aa);(· lia;(· exists 10,dj (dh (ao aF (au (Ay (i:=4) (aX hr) rfl (by ac_rfl) (sv 5) (λ_ _=>rfl)) aa) (cN e hr (aG (sv 0) (aG (sv 8) az rfl) rfl))) (dh (ao aF (au (Ay (i:=4) (aX hr) rfl (by ac_rfl) (sv 5) (λ_ _=>rfl)) aa) aa) aN rfl) rfl));(· lia;(· exists dN ?_ ?_ ?_;exact SW.st (Dq (S6 (i:=4) (Or.inr ⟨rfl,rfl⟩) (aX hr) rfl (by ac_rfl) (sv 9) (by with_unfolding_all rfl)) (v9 (cj (xf (aX hr)) (sv 10) (jo (Ay (i:=4) (aX hr) rfl (by ac_rfl) (sv 9) (λ_ _=>rfl)) lL (lR aa)) (bO _))));(· lia;exact xm (i:=4) (aX hr) rfl (by ac_rfl) (sv 9) (ao aF (sv 10) (dj (dh (sv 8) aN rfl))) (by rfl);(· lia;exact xm (i:=7) (aX hr) rfl (by ac_rfl) (sv 9) qg (by rfl);exact aq));exact aq);exact aq))));exact aq));(· lia;(· exists 6,Hc rfl hc (by rfl) iY (Q3 (i:=7) rfl (by ac_rfl)));exact aq))))
 lia;.exists(),sv 4
 exact aq
noncomputable abbrev s6:Stmt:=top 14
noncomputable def b6:List S:=[.asg 3 (.lst []),.asg 4 ↑2,.whl (.cmp .Qu (.idx (.bin .Gw ↑1 ↑4) ⇑2) (.con .non)) [.asg 5 (.idx (.bin .Gw ↑1 ↑4) ⇑2),.app 3 ↑5,.asg 4 (.idx (.call 0 [↑0,↑5]) ⇑0)],.ret (.blt .rvT [↑3])]
noncomputable def f6:Fd:=⟨3,6,b6⟩
theorem sc6:aM ["net","come","place","steps","here","step"] ["net","come","place"] (aA s6):={}
include cl in
theorem d6(a:ig K "steps_to" "steps_to" s6 f fd)(m6:mg "reversed"=none)(fZ:mg "tuple"=none)(b:↥(0,"step_places",2,0)):↥(["net","come","place"],3,f6):=by
 exists a,sc6,0,0;refine aP ?_ ?_;.exists 3,cO aN
 lia;.exists 4,sv 2
 lia;.exact(Aw PassesOwn.never (cj Nm (au (xG (aX hr) (sv 1) (sv 4) (λ_ _=>rfl)) aa) HR (bO _)) (by lia;(· exists 5,au (xG (aX hr) (sv 1) (sv 4) (λ_ _=>rfl)) aa);(· lia;exact eX (k:=3) rfl (by ac_rfl) (sv 5);(· lia;(· exists 4,au (cN b hr (aG (sv 0) (aG (sv 5) az rfl) rfl)) aa);exact aq))))
 lia;.exists(),zH rfl rfl hc (by rfl) fZ (by rfl) m6 (sv 3)
 exact aq
noncomputable abbrev s7:Stmt:=top 15
noncomputable def b7:List S:=[.asg 3 (.blt .list [↑0]),.iW ↑1 [4,5] false [.Lg 3 ↑4 false (.RP ↑5 ↑2 (.neg ↑2))],.ret ↑3]
noncomputable def f7:Fd:=⟨3,6,b7⟩
theorem sc7:aM ["stream","steps","loads","changed","number","forth"] ["stream","steps","loads"] (aA s7):={}
include cl in
theorem d7(a:ig K "stream_with" "stream_with" s7 f fd)(iY:mg "list"=none):↥(["stream","steps","loads"],3,f7):=by
 exists a,sc7,0,0;refine aP ?_ ?_;.exists 3,Nk rfl (by rfl) iY (sv 0)
 lia;.exact(xu PassesOwn.never hc (fc (sv 1)) (o7 hc (bV (bf (i:=4) nd rfl oi oi) (bV (bf (i:=5) nd rfl oi oi) lV))) (sy rfl (dq _ _ (dq _ _ nY 5) 4)) (by lia;exact Pa (k:=3) (sub:=false) O7 rfl (by ac_rfl) (sv 4) (wQ (gw (sv 5)) (sv 2) (sG (sv 2)));exact aq))
 lia;.exists(),sv 3
 exact aq
noncomputable abbrev s8:Stmt:=top 16
noncomputable def b8:List S:=[.asg 1 (.bin .sub (.idx ↑0 ⇑0) ⇑1),.asg 2 (.bin .mul (.lst [⇑0]) (.blt .len [.idx ↑0 ⇑1])),.asg 3 (.lst []),.asg 4 (.call 5 [↑0,↑2,.Bp 0 0]),.whl (.bin .din ↑1 ↑4) [.asg 5 (.call 6 [↑0,↑4,↑1]),.asg 6 (.blt .Gx [.comp ↑5 1 [7] true none (.call 2 [↑0,↑2,↑7])]),.app 3 (.tup [↑5,↑6]),.asg 2 (.call 7 [↑2,↑5,↑6]),.asg 4 (.call 5 [↑0,↑2,.Bp 0 0])],.ret ↑3]
noncomputable def f8:Fd:=⟨1,7,b8⟩
theorem sc8:aM ["net","end","stream","chains","come","steps","loads"] ["net"] (aA s8):={}
include cl in
theorem d8(b:ig K "chains_to_end" "chains_to_end" s8 f fd)(bw:mg "len"=none)(oR:mg "min"=none)(a:↥(5,"shortest_come",3,0))(e:↥(2,"step_room",3,0))(g:↥(6,"steps_to",3,0))(h:↥(7,"stream_with",3,0)):↥(["net"],1,f8):=by
 exists b,sc8,0,0;refine aP ?_ ?_;.exists 1,ao bj (au (sv 0) aa) aa
 lia;.exists pH (i:=2) ?_ ?_ ?_ ?_ ?_ ?_;exact nd;exact rfl;exact Or.inr rfl;rotate_left;rfl;exact oi;exact ao dZ (cO (dh aa aN rfl)) (dg rfl (by rfl) bw (au (sv 0) aa))
 lia;.exists 3,cO aN
 lia;.exists 4,cN a hr (aG (sv 0) (aG (sv 2) (aG Df az rfl) rfl) rfl)
 lia;.exact(Aw PassesOwn.never (Vr (aX hr) (sv 1) (sv 4) (by with_unfolding_all rfl)) (by lia;(· exists 5,cN g hr (aG (sv 0) (aG (sv 4) (aG (sv 1) az rfl) rfl) rfl));(· lia;(· exists 6,Cd rfl hc (by rfl) oR (jD (N':=["net","end","stream","chains","come","steps","loads","step"]) hc (Mx rfl (by rfl)) (fc (sv 5)) ⇑(bf (i:=7) ‹["net","end","stream","chains","come","steps","loads","step"]› rfl (Or.inl rfl) (Or.inr rfl)) (gf (eG)) ⇑(iJ) ⇑((cN e hr (aG (sv 0) (aG (sv 2) (aG (sv 7) az rfl) rfl) rfl)))));(· lia;exact eX (k:=3) rfl (by ac_rfl) (dj (dh (sv 5) (dh (sv 6) aN rfl) rfl));(· lia;(· exists pH (i:=2) ?_ ?_ ?_ ?_ ?_ ?_;exact nd;exact rfl;exact Or.inr rfl;rotate_left;rfl;exact oi;exact cN h hr (aG (sv 2) (aG (sv 5) (aG (sv 6) az rfl) rfl) rfl));(· lia;(· exists 4,cN a hr (aG (sv 0) (aG (sv 2) (aG Df az rfl) rfl) rfl));exact aq))))))
 lia;.exists(),sv 3
 exact aq
noncomputable abbrev s9:Stmt:=top 18
noncomputable def b9:List S:=[.Li 1 false,.iW (.call 8 [↑0]) [2,3] false [.asg 4 (.call 3 [↑0,↑2]),.dput 1 ↑4 (.bin .add (.Yo 1 ↑4 ⇑0) ↑3)],.ret (.blt .Ld [.vw 1])]
noncomputable def f9:Fd:=⟨1,5,b9⟩
theorem sc9:aM ["net","bends","steps","loads","length"] ["net"] (aA s9):={}
include cl in
theorem d9(a:ig K "bends_of" "bends_of" s9 f fd)(uC:mg "sorted"=none)(b:↥(8,"chains_to_end",1,0))(e:↥(3,"steps_hours",2,0)):↥(["net"],1,f9):=by
 exists a,sc9,0,0;refine aP ?_ ?_;.exact(Nq (i:=1) nd rfl oi (by rfl) (Or.inl rfl))
 lia;.exact(xu PassesOwn.never hc (fc (cN b hr (aG (sv 0) az rfl))) (o7 hc (bV (bf (i:=2) nd rfl oi oi) (bV (bf (i:=3) nd rfl oi oi) lV))) (sy rfl (dq _ _ (dq _ _ nY 3) 2)) (by lia;(· exists 4,cN e hr (aG (sv 0) (aG (sv 2) az rfl) rfl));(· lia;exact Nx (i:=1) (aX hr) rfl (by ac_rfl) (sv 4) (ao aF (Sq (i:=1) (aX hr) rfl (by ac_rfl) (sv 4) aa ⟨rfl,rfl,rfl,rfl⟩) (sv 3)) (by rfl);exact aq)))
 lia;.exists(),Ow rfl hc (by rfl) uC rfl (Q3 (i:=1) rfl (by ac_rfl))
 exact aq
noncomputable abbrev jj:Stmt:=top 20
noncomputable def b10:List S:=[.ret (.and (.inst [.int] ↑0) (.not (.inst [.bool] ↑0)))]
noncomputable def f10:Fd:=⟨1,1,b10⟩
theorem aeN:aM ["thing"] ["thing"] (aA jj):={}
include cl in
theorem d10(a:ig K "is_whole" "is_whole" jj f fd)(pW:mg "bool"=none)(vR:mg "int"=none)(aK:mg "isinstance"=none):↥(["thing"],1,f10):=by
 exists a,aeN,0,0;refine aP ?_ ?_;.exists(),kW (oh .int rfl (by rfl) aK (sv 0) (by rfl) vR (by kernel_rfl) (by decide) (by rfl)) (wG (Sh (oh .bool rfl (by rfl) aK (sv 0) (by rfl) pW (by kernel_rfl) (by decide) (by rfl))))
 exact aq
noncomputable abbrev rB:Stmt:=top 21
noncomputable def b11:List S:=[.ret (.and (.call 10 [↑0]) (.chain .le .le ↑1 ↑0 ↑2))]
noncomputable def f11:Fd:=⟨3,3,b11⟩
theorem adW:aM ["thing","least","most"] ["thing","least","most"] (aA rB):={}
include cl in
theorem d11(a:ig K "whole_within" "whole_within" rB f fd)(b:↥(10,"is_whole",1,0)):↥(["thing","least","most"],3,f11):=by
 exists a,adW,0,0;refine aP ?_ ?_;.exists(),kW (cN b hr (aG (sv 0) az rfl)) (wG (J8 pQ pQ (sv 1) (sv 0) (sv 2)))
 exact aq
noncomputable abbrev s12:Stmt:=top 22
noncomputable def b12:List S:=[.ret (.inst [.list,.tuple] ↑0)]
noncomputable def Xh:Fd:=⟨1,1,b12⟩
theorem afs:aM ["thing"] ["thing"] (aA s12):={}
include cl in
theorem d12(a:ig K "is_row" "is_row" s12 f fd)(aK:mg "isinstance"=none)(iY:mg "list"=none)(fZ:mg "tuple"=none):↥(["thing"],1,Xh):=by
 exists a,afs,0,0;refine aP ?_ ?_;.exists(),Ho rfl (by rfl) aK (sv 0) (xU .list (by rfl) iY (by kernel_rfl) (xU .tuple (by rfl) fZ (by kernel_rfl) Oi (by decide) (by rfl)) (by decide) (by rfl))
 exact aq
noncomputable abbrev s13:Stmt:=top 29
noncomputable def b13:List S:=[.ret (.and (.call 12 [↑1]) (.and (.cmp .eq (.blt .len [↑1]) ⇑4) (.and (.call 11 [.idx ↑1 ⇑0,⇑0,.bin .sub ↑0 ⇑1]) (.and (.call 11 [.idx ↑1 ⇑1,⇑0,.bin .sub ↑0 ⇑1]) (.and (.cmp .ne (.idx ↑1 ⇑0) (.idx ↑1 ⇑1)) (.and (.call 11 [.idx ↑1 ⇑2,⇑0,.glob "MOST_ROOM" (.int 1000000000)]) (.call 11 [.idx ↑1 ⇑3,⇑1,.glob "MOST_HOURS" (.int 1000000)])))))))]
noncomputable def f13:Fd:=⟨2,2,b13⟩
theorem afr:aM ["many","thing"] ["many","thing"] (aA s13):={}
include cl in
theorem d13(b:ig K "is_way" "is_way" s13 f fd)(bw:mg "len"=none)(jN:∃t,mg "MOST_HOURS"=some (Value.int 1000000 t))(lB:∃t,mg "MOST_ROOM"=some (Value.int 1000000000 t))(e:↥(12,"is_row",1,0))(a:↥(11,"whole_within",3,0)):↥(["many","thing"],2,f13):=by
 exists b,afr,0,0;refine aP ?_ ?_;.exists(),kW (cN e hr (aG (sv 1) az rfl)) (kW (wW (dR (aX hr)) (dg rfl (by rfl) bw (sv 1)) aa (bO _)) (kW (cN a hr (aG (au (sv 1) aa) (aG aa (aG (ao bj (sv 0) aa) az rfl) rfl) rfl)) (kW (cN a hr (aG (au (sv 1) aa) (aG aa (aG (ao bj (sv 0) aa) az rfl) rfl) rfl)) (kW (wW (Jp (aX hr)) (au (sv 1) aa) (au (sv 1) aa) (bO _)) (kW (cN a hr (aG (au (sv 1) aa) (aG aa (aG (kj (by rfl) lB.choose_spec (by rfl)) az rfl) rfl) rfl)) (wG (cN a hr (aG (au (sv 1) aa) (aG aa (aG (kj (by rfl) jN.choose_spec (by rfl)) az rfl) rfl) rfl)))).ev).ev).ev).ev).ev
 exact aq
noncomputable abbrev s14:Stmt:=top 30
noncomputable def b14:List S:=[.ifs (.or (.not (.call 11 [↑0,.glob "LEAST_PLACES" (.int 2),.glob "MOST_PLACES" (.int 6)])) (.not (.call 12 [↑1]))) [.bad] [],.iW (.enm ↑1) [2,3] false [.ifs (.not (.call 13 [↑0,↑3])) [.bad] []],.ifs (.cmp .gt (.blt .len [↑1]) (.glob "MOST_WAYS" (.int 12))) [.zq 2] [],.ret (.tup [↑0,.blt .tuple [.comp ↑1 1 [4] true none (.blt .tuple [↑4])]])]
noncomputable def f14:Fd:=⟨2,4,b14⟩
theorem aeT:aM ["many","ways","at","thing"] ["many","ways"] (aA s14):={}
include cl in
theorem d14(a:ig K "made_net" "made_net" s14 f fd)(lC:mg "enumerate"=none)(bw:mg "len"=none)(fZ:mg "tuple"=none)(iz:∃t,mg "LEAST_PLACES"=some (Value.int 2 t))(iZ:∃t,mg "MOST_PLACES"=some (Value.int 6 t))(lD:∃t,mg "MOST_WAYS"=some (Value.int 12 t))(b:↥(12,"is_row",1,0))(e:↥(13,"is_way",2,0))(g:↥(11,"whole_within",3,0)):↥(["many","ways"],2,f14):=by
 exists a,aeT,0,0;refine aP ?_ ?_;.exists dN ?_ ?_ ?_;exact SW.st (Dq (jG (gw (cN g hr (aG (sv 0) (aG (kj (by rfl) iz.choose_spec (by rfl)) (aG (kj (by rfl) iZ.choose_spec (by rfl)) az rfl) rfl) rfl)))) (v9 (jG (gw (cN b hr (aG (sv 1) az rfl))))));(· lia;exact Iu;exact aq);exact aq
 lia;.exact(xu PassesOwn.never hc (UW rfl (by rfl) lC (sv 1)) (o7 hc (bV (bf (i:=2) nd rfl oi oi) (bV (bf (i:=3) nd rfl oi oi) lV))) (sy rfl (dq _ _ (dq _ _ nY 3) 2)) (by lia;(· exists dN ?_ ?_ ?_;exact jG (gw (cN e hr (aG (sv 0) (aG (sv 3) az rfl) rfl)));(· lia;exact Iu;exact aq);exact aq);exact aq))
 lia;.exists dN ?_ ?_ ?_;exact cj sV (dg rfl (by rfl) bw (sv 1)) (kj (by rfl) lD.choose_spec (by rfl)) (bO _);(· lia;exact rK;exact aq);exact aq
 lia;.exists(),dj (dh (sv 0) (dh (xW rfl (by rfl) fZ (jD (N':=["many","ways","at","thing","way"]) hc (Mx rfl (by rfl)) (fc (sv 1)) ⇑(bf (i:=4) ‹["many","ways","at","thing","way"]› rfl (Or.inl rfl) (Or.inr rfl)) (gf (eG)) ⇑(iJ) ⇑((xW rfl (by rfl) fZ (sv 4))))) aN rfl) rfl)
 exact aq
noncomputable abbrev Zw:Stmt:=top 31
noncomputable def b15:List S:=[.ifs (.not (.chain .le .lt ⇑0 ↑1 (.blt .len [.idx ↑0 ⇑1]))) [.zq 3] [],.ret (.idx (.idx ↑0 ⇑1) ↑1)]
noncomputable def QK:Fd:=⟨2,2,b15⟩
theorem VB:aM ["net","number"] ["net","number"] (aA Zw):={}
include cl in
theorem d15(a:ig K "known_way" "known_way" Zw f fd)(bw:mg "len"=none):↥(["net","number"],2,QK):=by
 exists a,VB,0,0;refine aP ?_ ?_;.exists dN ?_ ?_ ?_;exact jG (tZ pQ (xf (aX hr)) aa (sv 1) (dg rfl (by rfl) bw (au (sv 0) aa)));(· lia;exact rK;exact aq);exact aq
 lia;.exists(),au (au (sv 0) aa) (sv 1)
 exact aq
include cl in
theorem aeg(a:ig K "known_way" "known_way" Zw f fd)(bw:mg "len"=none)(rM:OwnCls "NoWay" (cl 3) [.type "ValueError",.type "Exception",.type "BaseException",.type "object"] "ValueError.__new__" mg base):iT Pg w K mg base (yO Pg w) (k+1) f fd ["net","number"] (Ma K cl 2 (λargs=>enter c n QK args)):=by
 refine ud a VB rfl rfl λcdv A outer s H E W hr b=>?_;have nd:=VB.nd;have e:vN (m9 (yO Pg w) Pg w K mg base ["net","number"] "known_way" (aA Zw) f cdv A outer s H E) E:=kY;refine bR ?_ ?_ ?_;.exists dN ?_ ?_ ?_;exact jG (tZ pQ (xf (aX hr)) aa (sv 1) (dg rfl (by rfl) bw (au (sv 0) aa)));(· lia;exact rK;exact aq);exact aq
 .exact(wu (jG (tZ pQ (xf (aX hr)) aa (sv 1) (dg rfl (by rfl) bw (au (sv 0) aa)))) (bR rK (Ka hc rfl (by rfl) rM PySem.F.excBase_ValueError e (λH z=>b 3 H z)) dw) dw)
 exists bR ?_ ?_ ?_;.exists(),au (au (sv 0) aa) (sv 1)
 .exact jY
 exact dw
noncomputable abbrev Zq:Stmt:=top 32
noncomputable def b16:List S:=[.asg 3 (.call 15 [↑0,↑1]),.asg 4 (.tup [.idx ↑3 ⇑0,.idx ↑3 ⇑1,↑2,.idx ↑3 ⇑3]),.ret (.tup [.idx ↑0 ⇑0,.bin .add (.bin .add (.slice (.idx ↑0 ⇑1) (.con .non) ↑1) (.tup [↑4])) (.slice (.idx ↑0 ⇑1) (.bin .add ↑1 ⇑1) (.con .non))])]
noncomputable def Yy:Fd:=⟨3,5,b16⟩
theorem Vq:aM ["net","number","room","way","changed"] ["net","number","room"] (aA Zq):={}
include cl in
theorem d16(a:ig K "with_room" "with_room" Zq f fd)(b:↥(15,"known_way",2,0)):↥(["net","number","room"],3,Yy):=by
 exists a,Vq,0,0;refine aP ?_ ?_;.exists 3,cN b hr (aG (sv 0) (aG (sv 1) az rfl) rfl)
 lia;.exists 4,dj (dh (au (sv 3) aa) (dh (au (sv 3) aa) (dh (sv 2) (dh (au (sv 3) aa) aN rfl) rfl) rfl) rfl)
 lia;.exists(),dj (dh (au (sv 0) aa) (dh (ao aF (ao aF (jo (au (sv 0) aa) lL (lR (sv 1))) (dj (dh (sv 4) aN rfl))) (jo (au (sv 0) aa) (lR (ao aF (sv 1) aa)) lL)) aN rfl) rfl)
 exact aq
include cl in
theorem aej(a:ig K "with_room" "with_room" Zq f fd)(b:↥(15,"known_way",2,0))(e:fu Pg w K mg base cl k c 15 "known_way" 2):iT Pg w K mg base (yO Pg w) (k+1) f fd ["net","number","room"] (Ma K cl 3 (λargs=>enter c n Yy args)):=by
 refine ud a Vq rfl rfl λcdv A outer s H E W hr g=>?_;have nd:=Vq.nd;have h:vN (m9 (yO Pg w) Pg w K mg base ["net","number","room","way","changed"] "with_room" (aA Zq) f cdv A outer s H E) E:=kY;refine bR ?_ ?_ ?_;.exists 3,cN b hr (aG (sv 0) (aG (sv 1) az rfl) rfl)
 .exact(O8 (i:=3) rfl (xF h g) e hr nd rfl oi (aG (sv 0) (aG (sv 1) az rfl) rfl))
 exists bR ?_ ?_ ?_;.exists 4,dj (dh (au (sv 3) aa) (dh (au (sv 3) aa) (dh (sv 2) (dh (au (sv 3) aa) aN rfl) rfl) rfl) rfl)
 .exact(jY (by intro _;rfl))
 exists bR ?_ ?_ ?_;.exists(),dj (dh (au (sv 0) aa) (dh (ao aF (ao aF (jo (au (sv 0) aa) lL (lR (sv 1))) (dj (dh (sv 4) aN rfl))) (jo (au (sv 0) aa) (lR (ao aF (sv 1) aa)) lL)) aN rfl) rfl)
 .exact jY
 exact dw
noncomputable abbrev s17:Stmt:=top 34
noncomputable def b17:List S:=[.ret (.blt .sum [.comp ↑0 2 [2,3] false (some (.cmp .le ↑2 ↑1)) (.bin .mul ↑3 (.bin .add (.bin .sub ↑1 ↑2) ⇑1))])]
noncomputable def f17:Fd:=⟨2,2,b17⟩
theorem ae3:aM ["bends","last"] ["bends","last"] (aA s17):={}
include cl in
theorem d17(a:ig K "most_of" "most_of" s17 f fd)(vQ:mg "sum"=none):↥(["bends","last"],2,f17):=by
 exists a,ae3,0,0;refine aP ?_ ?_;.exists(),Kw rfl hc (by rfl) vQ (jD (N':=["bends","last","length","loads"]) hc (Mx rfl (by rfl)) (fc (sv 0)) ⇑(o7 hc (bV (bf (i:=2) ‹["bends","last","length","loads"]› rfl (Or.inl rfl) (Or.inr rfl)) (bV (bf (i:=3) ‹["bends","last","length","loads"]› rfl (Or.inl rfl) (Or.inr rfl)) lV))) (Oe rfl (yF (show 2<=2 by decide) (yF (show 2<=3 by decide) Qk))) ⇑(Py (cj pQ (sv 2) (sv 1) (bO _))) ⇑((ao dZ (sv 3) (ao aF (ao bj (sv 1) (sv 2)) aa))))
 exact aq
noncomputable abbrev s18:Stmt:=top 35
noncomputable def b18:List S:=[.ret (.call 17 [.call 9 [↑0],↑1])]
noncomputable def f18:Fd:=⟨2,2,b18⟩
theorem adO:aM ["net","last"] ["net","last"] (aA s18):={}
include cl in
theorem d18(a:ig K "most_by" "most_by" s18 f fd)(b:↥(9,"bends_of",1,0))(e:↥(17,"most_of",2,0)):↥(["net","last"],2,f18):=by
 exists a,adO,0,0;refine aP ?_ ?_;.exists(),cN e hr (aG (cN b hr (aG (sv 0) az rfl)) (aG (sv 1) az rfl) rfl)
 exact aq
noncomputable abbrev s19:Stmt:=top 36
noncomputable def b19:List S:=[.ret (.blt .max2 [⇑0,.bin .sub (.bin .sub (.idx ↑1 (.idx ↑0 ⇑1)) (.idx ↑1 (.idx ↑0 ⇑0))) (.idx ↑0 ⇑3)])]
noncomputable def f19:Fd:=⟨2,2,b19⟩
theorem ae5:aM ["way","closed"] ["way","closed"] (aA s19):={}
include cl in
theorem d19(a:ig K "closed_gap" "closed_gap" s19 f fd)(fP:mg "max"=none):↥(["way","closed"],2,f19):=by
 exists a,ae5,0,0;refine aP ?_ ?_;.exists(),lZ rfl hc (by rfl) fP (dh aa (dh (ao bj (ao bj (au (sv 1) (au (sv 0) aa)) (au (sv 1) (au (sv 0) aa))) (au (sv 0) aa)) aN rfl) rfl)
 exact aq
noncomputable abbrev YB:Stmt:=top 38
noncomputable def b20:List S:=[.asg 3 (.idx (.call 15 [↑0,↑2]) ⇑2),.ret (.bin .sub (.call 18 [.call 16 [↑0,↑2,.bin .add ↑3 ⇑1],↑1]) (.call 18 [↑0,↑1]))]
noncomputable def VD:Fd:=⟨3,4,b20⟩
theorem Ss:aM ["net","last","number","room"] ["net","last","number"] (aA YB):={}
include cl in
theorem d20(b:ig K "room_worth" "room_worth" YB f fd)(e:↥(15,"known_way",2,0))(a:↥(18,"most_by",2,0))(g:↥(16,"with_room",3,0)):↥(["net","last","number"],3,VD):=by
 exists b,Ss,0,0;refine aP ?_ ?_;.exists 3,au (cN e hr (aG (sv 0) (aG (sv 2) az rfl) rfl)) aa
 lia;.exists(),ao bj (cN a hr (aG (cN g hr (aG (sv 0) (aG (sv 2) (aG (ao aF (sv 3) aa) az rfl) rfl) rfl)) (aG (sv 1) az rfl) rfl)) (cN a hr (aG (sv 0) (aG (sv 1) az rfl) rfl))
 exact aq
include cl in
theorem ady(b:ig K "room_worth" "room_worth" YB f fd)(e:↥(15,"known_way",2,0))(a:↥(18,"most_by",2,0))(g:↥(16,"with_room",3,0))(h:fu Pg w K mg base cl k c 15 "known_way" 2):iT Pg w K mg base (yO Pg w) (k+1) f fd ["net","last","number"] (Ma K cl 3 (λargs=>enter c n VD args)):=by
 refine ud b Ss rfl rfl λcdv A outer s H E W hr j=>?_;have nd:=Ss.nd;have l:vN (m9 (yO Pg w) Pg w K mg base ["net","last","number","room"] "room_worth" (aA YB) f cdv A outer s H E) E:=kY;refine bR ?_ ?_ ?_;.exists 3,au (cN e hr (aG (sv 0) (aG (sv 2) az rfl) rfl)) aa
 .exact(yI (i:=3) rfl (xF l j) h hr nd rfl oi (aG (sv 0) (aG (sv 2) az rfl) rfl))
 exists bR ?_ ?_ ?_;.exists(),ao bj (cN a hr (aG (cN g hr (aG (sv 0) (aG (sv 2) (aG (ao aF (sv 3) aa) az rfl) rfl) rfl)) (aG (sv 1) az rfl) rfl)) (cN a hr (aG (sv 0) (aG (sv 1) az rfl) rfl))
 .exact jY
 exact dw
noncomputable abbrev s21:Stmt:=top 39
noncomputable def b21:List S:=[.asg 3 (.idx (.call 15 [↑0,↑2]) ⇑2),.ret (.bin .sub (.call 18 [↑0,↑1]) (.call 18 [.call 16 [↑0,↑2,.blt .max2 [⇑0,.bin .sub ↑3 ⇑1]],↑1]))]
noncomputable def V6:Fd:=⟨3,4,b21⟩
theorem Tj:aM ["net","last","number","room"] ["net","last","number"] (aA s21):={}
include cl in
theorem d21(b:ig K "room_loss" "room_loss" s21 f fd)(fP:mg "max"=none)(e:↥(15,"known_way",2,0))(a:↥(18,"most_by",2,0))(g:↥(16,"with_room",3,0)):↥(["net","last","number"],3,V6):=by
 exists b,Tj,0,0;refine aP ?_ ?_;.exists 3,au (cN e hr (aG (sv 0) (aG (sv 2) az rfl) rfl)) aa
 lia;.exists(),ao bj (cN a hr (aG (sv 0) (aG (sv 1) az rfl) rfl)) (cN a hr (aG (cN g hr (aG (sv 0) (aG (sv 2) (aG (lZ rfl hc (by rfl) fP (dh aa (dh (ao bj (sv 3) aa) aN rfl) rfl)) az rfl) rfl) rfl)) (aG (sv 1) az rfl) rfl))
 exact aq
include cl in
theorem aep(b:ig K "room_loss" "room_loss" s21 f fd)(fP:mg "max"=none)(e:↥(15,"known_way",2,0))(a:↥(18,"most_by",2,0))(g:↥(16,"with_room",3,0))(h:fu Pg w K mg base cl k c 15 "known_way" 2):iT Pg w K mg base (yO Pg w) (k+1) f fd ["net","last","number"] (Ma K cl 3 (λargs=>enter c n V6 args)):=by
 refine ud b Tj rfl rfl λcdv A outer s H E W hr j=>?_;have nd:=Tj.nd;have l:vN (m9 (yO Pg w) Pg w K mg base ["net","last","number","room"] "room_loss" (aA s21) f cdv A outer s H E) E:=kY;refine bR ?_ ?_ ?_;.exists 3,au (cN e hr (aG (sv 0) (aG (sv 2) az rfl) rfl)) aa
 .exact(yI (i:=3) rfl (xF l j) h hr nd rfl oi (aG (sv 0) (aG (sv 2) az rfl) rfl))
 exists bR ?_ ?_ ?_;.exists(),ao bj (cN a hr (aG (sv 0) (aG (sv 1) az rfl) rfl)) (cN a hr (aG (cN g hr (aG (sv 0) (aG (sv 2) (aG (lZ rfl hc (by rfl) fP (dh aa (dh (ao bj (sv 3) aa) aN rfl) rfl)) az rfl) rfl) rfl)) (aG (sv 1) az rfl) rfl))
 .exact jY
 exact dw
noncomputable abbrev s22:Stmt:=top 40
noncomputable def b22:List S:=[.Bq (.call 19 [.call 15 [↑0,↑2],↑1])]
noncomputable def VR:Fd:=⟨3,3,b22⟩
theorem Vc:aM ["net","closed","number"] ["net","closed","number"] (aA s22):={}
include cl in
theorem d22(a:ig K "gap_of" "gap_of" s22 f fd)(b:↥(19,"closed_gap",2,0))(e:↥(15,"known_way",2,0)):↥(["net","closed","number"],3,VR):=by
 exists a,Vc,0,0;refine aP ?_ ?_;.exists CQ ?_;exact cN b hr (aG (cN e hr (aG (sv 0) (aG (sv 2) az rfl) rfl)) (aG (sv 1) az rfl) rfl)
 exact aq
include cl in
theorem adG(b:ig K "gap_of" "gap_of" s22 f fd)(a:↥(19,"closed_gap",2,0))(e:↥(15,"known_way",2,0))(g:fu Pg w K mg base cl k c 15 "known_way" 2):iT Pg w K mg base (yO Pg w) (k+1) f fd ["net","closed","number"] (Ma K cl 3 (λargs=>enter c n VR args)):=by
 refine ud b Vc rfl rfl λcdv A outer s H E W hr h=>?_;have nd:=Vc.nd;have i:vN (m9 (yO Pg w) Pg w K mg base ["net","closed","number"] "gap_of" (aA s22) f cdv A outer s H E) E:=kY;refine bR ?_ ?_ ?_;.exists CQ ?_;exact cN a hr (aG (cN e hr (aG (sv 0) (aG (sv 2) az rfl) rfl)) (aG (sv 1) az rfl) rfl)
 .exact(Hk a hr (Od rfl (xF i h) g hr (aG (sv 0) (aG (sv 2) az rfl) rfl)) (aG (sv 1) az rfl))
 exact dw
noncomputable abbrev s23:Stmt:=top 42
noncomputable def b23:List S:=[.asg 2 (.slice ↑0 (.con .non) ⇑63),.ifs (.cmp .eq ↑2 (.lst [])) [.asg 2 (.lst [⇑0])] [],.asg 3 (.comp ↑2 1 [9] true none (.blt .abs [↑9])),.asg 4 (.lst []),.iW (.vO ⇑0 ↑1) [5] true [.asg 6 (.bin .mod ↑5 (.blt .len [↑2])),.ifs (.and (.cmp .ge (.blt .abs [.idx ↑2 ↑6]) (.bin .pow ⇑10 ⇑18)) (.cmp .gt (.idx ↑3 ↑6) ⇑0)) [.app 4 (.bin .mod (.idx ↑3 ↑6) (.bin .pow ⇑10 ⇑6)),.Lf 3 ↑6 (.bin .fdiv (.idx ↑3 ↑6) (.bin .pow ⇑10 ⇑6))] [.asg 7 (.bin .add (.bin .add (.bin .mul (.bin .mul ⇑977 ↑5) ↑5) (.bin .mul ⇑131 ↑5)) ⇑1),.asg 8 (.bin .mod (.bin .add (.bin .mul (.bin .mod (.idx ↑2 ↑6) ⇑1000000007) ⇑48271) ↑7) ⇑2147483647),.asg 8 (.bin .mod (.bin .mul ↑8 ↑8) ⇑2147483647),.app 4 (.bin .mod (.bin .fdiv (.bin .mod (.bin .mul (.bin .add ↑8 (.bin .mul ⇑40692 (.bin .add ↑5 ⇑3))) ⇑69621) ⇑2147483629) ⇑8) (.bin .pow ⇑10 ⇑6))]],.ret ↑4]
noncomputable def f23:Fd:=⟨2,9,b23⟩
theorem aeP:aM ["script","many","cells","left","found","k","at","step","mixed"] ["script","many"] (aA s23):={}
include cl in
theorem d23(a:ig K "_law_all" "_law_all" s23 f fd)(Ei:mg "abs"=none)(bw:mg "len"=none)(bL:mg "range"=none):↥(["script","many"],2,f23):=by
 exists a,aeP,0,0;refine aP ?_ ?_;.exists 2,jo (sv 0) lL (lR aa)
 lia;.exists dN ?_ ?_ ?_;exact cj (dR (aX hr)) (sv 2) (cO aN) (bO _);(· lia;(· exists 2,cO (dh aa aN rfl));exact aq);exact aq
 lia;.exact(Nh (i:=3) (N':=["script","many","cells","left","found","k","at","step","mixed","cell"]) hc nd rfl oi (Mx rfl (by rfl)) (fc (sv 2)) ⇑(bf (i:=9) ‹["script","many","cells","left","found","k","at","step","mixed","cell"]› rfl (Or.inl rfl) (Or.inr rfl)) (gf (eG)) ⇑(iJ) ⇑((Hm rfl (by rfl) Ei (sv 9))) (by rfl) (by intro _;rfl) (Or.inl rfl))
 lia;.exists 4,cO aN
 lia;.exists 5,iK rfl (by rfl) bL (sv 1),0;(· lia;(· exists 6,ao dM (sv 5) (dg rfl (by rfl) bw (sv 2)));(· lia;(· exists dN ?_ ?_ ?_;exact SW.st (Tp (cj V2 (Hm rfl (by rfl) Ei (au (sv 2) (sv 6))) (ao fX aa aa) (bO _)) (M7 (cj sV (au (sv 3) (sv 6)) aa (bO _))));(· lia;exact eX (k:=4) rfl (by ac_rfl) (ao dM (au (sv 3) (sv 6)) (ao fX aa aa));(· lia;exact Dv (k:=3) rfl (by ac_rfl) (sv 6) (ao yV (au (sv 3) (sv 6)) (ao fX aa aa));exact aq));(· lia;(· exists 7,ao aF (ao aF (ao dZ (ao dZ aa (sv 5)) (sv 5)) (ao dZ aa (sv 5))) aa);(· lia;(· exists 8,ao dM (ao aF (ao dZ (ao dM (au (sv 2) (sv 6)) aa) aa) (sv 7)) aa);(· lia;(· exists 8,ao dM (ao dZ (sv 8) (sv 8)) aa);(· lia;exact eX (k:=4) rfl (by ac_rfl) (ao dM (ao yV (ao dM (ao dZ (ao aF (sv 8) (ao dZ aa (ao aF (sv 5) aa))) aa) aa) aa) (ao fX aa aa));exact aq)))));exact aq))
 lia;.exists(),sv 4
 exact aq
noncomputable abbrev s24:Stmt:=top 43
noncomputable def b24:List S:=[.ret (.bin .mod (.idx ↑0 (.bin .mod ↑1 (.blt .len [↑0]))) ↑2)]
noncomputable def f24:Fd:=⟨3,3,b24⟩
theorem adK:aM ["draws","at","many"] ["draws","at","many"] (aA s24):={}
include cl in
theorem d24(a:ig K "_law_draw" "_law_draw" s24 f fd)(bw:mg "len"=none):↥(["draws","at","many"],3,f24):=by
 exists a,adK,0,0;refine aP ?_ ?_;.exists(),ao dM (au (sv 0) (ao dM (sv 1) (dg rfl (by rfl) bw (sv 0)))) (sv 2)
 exact aq
noncomputable abbrev s25:Stmt:=top 44
noncomputable def b25:List S:=[.asg 3 (.bin .mul (.idx ↑0 (.bin .mod ↑1 (.blt .len [↑0]))) (.bin .pow ⇑10 ⇑6)),.ret (.bin .mod (.bin .add ↑3 (.idx ↑0 (.bin .mod (.bin .add ↑1 ⇑1) (.blt .len [↑0])))) ↑2)]
noncomputable def f25:Fd:=⟨3,4,b25⟩
theorem afw:aM ["draws","at","many","far"] ["draws","at","many"] (aA s25):={}
include cl in
theorem d25(a:ig K "_law_wide" "_law_wide" s25 f fd)(bw:mg "len"=none):↥(["draws","at","many"],3,f25):=by
 exists a,afw,0,0;refine aP ?_ ?_;.exists 3,ao dZ (au (sv 0) (ao dM (sv 1) (dg rfl (by rfl) bw (sv 0)))) (ao fX aa aa)
 lia;.exists(),ao dM (ao aF (sv 3) (au (sv 0) (ao dM (ao aF (sv 1) aa) (dg rfl (by rfl) bw (sv 0))))) (sv 2)
 exact aq
noncomputable abbrev s26:Stmt:=top 45
noncomputable def b26:List S:=[.asg 4 (.bin .add ⇑2 (.call 24 [↑0,↑1,.bin .sub ↑2 ⇑1])),.asg 5 (.cmp .eq (.call 24 [↑0,.bin .add ↑1 ⇑1,⇑4]) ⇑0),.asg 6 (.lst []),.iW (.vO ⇑0 (.call 24 [↑0,.bin .add ↑1 ⇑2,.bin .add ↑3 ⇑1])) [7] true [.asg 8 (.bin .add (.bin .add ↑1 ⇑10) (.bin .mul ⇑10 ↑7)),.asg 9 (.call 24 [↑0,↑8,↑4]),.asg 10 (.bin .mod (.bin .add (.bin .add ↑9 ⇑1) (.call 24 [↑0,.bin .add ↑8 ⇑1,.bin .sub ↑4 ⇑1])) ↑4),.ifs (.cmp .eq (.call 24 [↑0,.bin .add ↑8 ⇑2,⇑2]) ⇑0) [.par 9 10 (.blt .min2 [↑9,↑10]) (.blt .max2 [↑9,↑10])] [],.asg 11 (.idx (.lst [⇑0,⇑1,⇑2,⇑3,⇑4,⇑1,⇑2,⇑7]) (.call 24 [↑0,.bin .add ↑8 ⇑3,⇑8])),.asg 12 (.bin .add ⇑1 (.call 24 [↑0,.bin .add ↑8 ⇑4,⇑4])),.ifs ↑5 [.asg 11 (.idx (.lst [↑11,.bin .sub (.bin .pow ⇑10 ⇑9) ↑11,.call 25 [↑0,.bin .add ↑8 ⇑5,.bin .add (.bin .pow ⇑10 ⇑9) ⇑1]]) (.call 24 [↑0,.bin .add ↑8 ⇑7,⇑3])),.asg 12 (.idx (.lst [↑12,.bin .sub (.bin .pow ⇑10 ⇑6) ↑12,.bin .add ⇑1 (.call 24 [↑0,.bin .add ↑8 ⇑8,.bin .pow ⇑10 ⇑6])]) (.call 24 [↑0,.bin .add ↑8 ⇑9,⇑3]))] [],.app 6 (.tup [↑9,↑10,↑11,↑12])],.ret (.call 14 [↑4,↑6])]
noncomputable def f26:Fd:=⟨4,13,b26⟩
theorem adT:aM ["draws","at","places","most","many","wide","ways","k","spot","one","other","room","hours"] ["draws","at","places","most"] (aA s26):={}
include cl in
theorem d26(b:ig K "_law_net" "_law_net" s26 f fd)(fP:mg "max"=none)(oR:mg "min"=none)(bL:mg "range"=none)(a:↥(24,"_law_draw",3,0))(e:↥(25,"_law_wide",3,0))(g:↥(14,"made_net",2,0)):↥(["draws","at","places","most"],4,f26):=by
 exists b,adT,0,0;refine aP ?_ ?_;.exists 4,ao aF aa (cN a hr (aG (sv 0) (aG (sv 1) (aG (ao bj (sv 2) aa) az rfl) rfl) rfl))
 lia;.exists 5,wW (dR (aX hr)) (cN a hr (aG (sv 0) (aG (ao aF (sv 1) aa) (aG aa az rfl) rfl) rfl)) aa (bO _)
 lia;.exists 6,cO aN
 lia;.exists 7,iK rfl (by rfl) bL (cN a hr (aG (sv 0) (aG (ao aF (sv 1) aa) (aG (ao aF (sv 3) aa) az rfl) rfl) rfl)),0;(· lia;(· exists 8,ao aF (ao aF (sv 1) aa) (ao dZ aa (sv 7)));(· lia;(· exists 9,cN a hr (aG (sv 0) (aG (sv 8) (aG (sv 4) az rfl) rfl) rfl));(· lia;(· exists 10,ao dM (ao aF (ao aF (sv 9) aa) (cN a hr (aG (sv 0) (aG (ao aF (sv 8) aa) (aG (ao bj (sv 4) aa) az rfl) rfl) rfl))) (sv 4));(· lia;(· exists dN ?_ ?_ ?_;exact cj (dR (aX hr)) (cN a hr (aG (sv 0) (aG (ao aF (sv 8) aa) (aG aa az rfl) rfl) rfl)) aa (bO _);(· lia;exact Tu (i:=9) (j:=10) hc nd rfl rfl (by decide) rfl rfl (Qq rfl hc (by rfl) oR (dh (sv 9) (dh (sv 10) aN rfl) rfl)) (lZ rfl hc (by rfl) fP (dh (sv 9) (dh (sv 10) aN rfl) rfl));exact aq);exact aq);(· lia;(· exists 11,au (cO (Dl [0,1,2,3,4,1,2,7] rfl aN)) (cN a hr (aG (sv 0) (aG (ao aF (sv 8) aa) (aG aa az rfl) rfl) rfl)));(· lia;(· exists 12,ao aF aa (cN a hr (aG (sv 0) (aG (ao aF (sv 8) aa) (aG aa az rfl) rfl) rfl)));(· lia;(· exists dN ?_ ?_ ?_;exact gw (sv 5);(· lia;(· exists 11,au (cO (dh (sv 11) (dh (ao bj (ao fX aa aa) (sv 11)) (dh (cN e hr (aG (sv 0) (aG (ao aF (sv 8) aa) (aG (ao aF (ao fX aa aa) aa) az rfl) rfl) rfl)) aN rfl) rfl) rfl)) (cN a hr (aG (sv 0) (aG (ao aF (sv 8) aa) (aG aa az rfl) rfl) rfl)));(· lia;(· exists 12,au (cO (dh (sv 12) (dh (ao bj (ao fX aa aa) (sv 12)) (dh (ao aF aa (cN a hr (aG (sv 0) (aG (ao aF (sv 8) aa) (aG (ao fX aa aa) az rfl) rfl) rfl))) aN rfl) rfl) rfl)) (cN a hr (aG (sv 0) (aG (ao aF (sv 8) aa) (aG aa az rfl) rfl) rfl)));exact aq));exact aq);(· lia;exact eX (k:=6) rfl (by ac_rfl) (dj (dh (sv 9) (dh (sv 10) (dh (sv 11) (dh (sv 12) aN rfl) rfl) rfl) rfl));exact aq))))))))
 lia;.exists(),cN g hr (aG (sv 4) (aG (sv 6) az rfl) rfl)
 exact aq
noncomputable abbrev s27:Stmt:=top 46
noncomputable def b27:List S:=[.asg 2 (.lst [.lst [⇑0]]),.iW (.vO ⇑0 (.bin .sub ↑0 ⇑2)) [3] true [.asg 4 (.lst []),.iW ↑2 [5] true [.Lh 4 (.comp (.vO ⇑0 (.bin .add ↑1 ⇑2)) 1 [6] true none (.bin .add ↑5 (.lst [↑6])))],.asg 2 ↑4],.ret (.comp ↑2 1 [6] true none (.bin .add ↑6 (.lst [.bin .add ↑1 ⇑1])))]
noncomputable def f27:Fd:=⟨2,6,b27⟩
theorem aeA:aM ["many","last","found","place","wider","row"] ["many","last"] (aA s27):={}
include cl in
theorem d27(a:ig K "_law_all_closed" "_law_all_closed" s27 f fd)(bL:mg "range"=none):↥(["many","last"],2,f27):=by
 exists a,aeA,0,0;refine aP ?_ ?_;.exists 2,cO (dh (cO (dh aa aN rfl)) aN rfl)
 lia;.exists 3,iK rfl (by rfl) bL (ao bj (sv 0) aa),0;(· lia;(· exists 4,cO aN);(· lia;(· exists rF (i:=5) ?_ ?_ ?_ ?_ ?_ ?_ ?_ ?_ ?_;exact PassesOwn.never;exact hc;exact nd;exact rfl;exact Or.inr rfl;exact fc (sv 2);(· lia;exact U4 (k:=4) rfl (by ac_rfl) (jD (N':=["many","last","found","place","wider","row","hour"]) hc (Mx rfl (by rfl)) (iK rfl (by rfl) bL (ao aF (sv 1) aa)) ⇑(bf (i:=6) ‹["many","last","found","place","wider","row","hour"]› rfl (Or.inl rfl) (Or.inr rfl)) (gf (eG)) ⇑(iJ) ⇑((ao aF (sv 5) (cO (dh (sv 6) aN rfl)))));exact aq);(· intro _;rfl);exact oi);(· lia;(· exists 2,sv 4);exact aq)))
 lia;.exists(),jD (N':=["many","last","found","place","wider","row#5","row"]) hc (Mx rfl (by rfl)) (fc (sv 2)) ⇑(bf (i:=6) ‹["many","last","found","place","wider","row#5","row"]› rfl (Or.inl rfl) (Or.inr rfl)) (gf (eG)) ⇑(iJ) ⇑((ao aF (sv 6) (cO (dh (ao aF (sv 1) aa) aN rfl))))
 exact aq
noncomputable abbrev s28:Stmt:=top 47
noncomputable def b28:List S:=[.asg 4 (.lst []),.iW ↑1 [5] true [.asg 6 ⇑0,.iW (.vO ⇑0 (.blt .len [.idx ↑0 ⇑1])) [7] true [.unp [8,9,10,11] (.idx (.idx ↑0 ⇑1) ↑7),.ifs (.cmp .eq ↑7 ↑2) [.asg 10 (.bin .add ↑10 ↑3)] [],.asg 6 (.bin .add ↑6 (.bin .mul ↑10 (.blt .max2 [⇑0,.bin .sub (.bin .sub (.idx ↑5 ↑9) (.idx ↑5 ↑8)) ↑11])))],.app 4 ↑6],.ret (.blt .Gx [↑4])]
noncomputable def f28:Fd:=⟨4,12,b28⟩
theorem aed:aM ["net","every","number","more","sums","closed","found","k","one","other","room","hours"] ["net","every","number","more"] (aA s28):={}
include cl in
theorem d28(a:ig K "_law_most" "_law_most" s28 f fd)(bw:mg "len"=none)(fP:mg "max"=none)(oR:mg "min"=none)(bL:mg "range"=none):↥(["net","every","number","more"],4,f28):=by
 exists a,aed,0,0;refine aP ?_ ?_;.exists 4,cO aN
 lia;.exists 5,fc (sv 1),0;(· lia;(· exists 6,aa);(· lia;(· exists 7,iK rfl (by rfl) bL (dg rfl (by rfl) bw (au (sv 0) aa)),0;(· lia;exact Js (au (au (sv 0) aa) (sv 7)) (o7 hc (bV (bf (i:=8) nd rfl oi oi) (bV (bf (i:=9) nd rfl oi oi) (bV (bf (i:=10) nd rfl oi oi) (bV (bf (i:=11) nd rfl oi oi) lV))))) (sy rfl (dq _ _ (dq _ _ (dq _ _ (dq _ _ nY 11) 10) 9) 8));(· lia;(· exists dN ?_ ?_ ?_;exact cj (dR (aX hr)) (sv 7) (sv 2) (bO _);(· lia;(· exists 10,ao aF (sv 10) (sv 3));exact aq);exact aq);(· lia;(· exists 6,ao aF (sv 6) (ao dZ (sv 10) (lZ rfl hc (by rfl) fP (dh aa (dh (ao bj (ao bj (au (sv 5) (sv 9)) (au (sv 5) (sv 8))) (sv 11)) aN rfl) rfl))));exact aq))));(· lia;exact eX (k:=4) rfl (by ac_rfl) (sv 6);exact aq)))
 lia;.exists(),Cd rfl hc (by rfl) oR (sv 4)
 exact aq
noncomputable abbrev s29:Stmt:=top 48
noncomputable def b29:List S:=[.asg 5 (.con (.bl false)),.Qv [.ifs (.cmp .eq ↑4 ⇑0) [.expr (.call 20 [↑0,↑1,↑3])] [],.ifs (.cmp .eq ↑4 ⇑1) [.expr (.call 21 [↑0,↑1,↑3])] [],.ifs (.cmp .eq ↑4 ⇑2) [.expr (.call 22 [↑0,↑2,↑3])] []] 6 [[.bad],[.bad],[.asg 7 (.con (.bl true)),.asg 5 (.con (.bl false))],[.asg 7 (.con (.bl false)),.asg 5 (.con (.bl true))],[.bad],[.bad]],.ret ↑5]
noncomputable def f29:Fd:=⟨5,8,b29⟩
theorem aev:aM ["net","last","closed","number","way","refused","e","others"] ["net","last","closed","number","way"] (aA s29):={}
include cl in
theorem d29(o:ig K "_law_refused" "_law_refused" s29 f fd)(gP:mg "ValueError"=none)(aK:mg "isinstance"=none)(g:↥(22,"gap_of",3,0))(h:↥(21,"room_loss",3,0))(l:↥(20,"room_worth",3,0))(lG:OwnCls "HaulError" (cl 0) [.type "ValueError",.type "Exception",.type "BaseException",.type "object"] "ValueError.__new__" mg base)(p:fu Pg w K mg base cl k c 22 "gap_of" 3)(q:fu Pg w K mg base cl k c 21 "room_loss" 3)(r:fu Pg w K mg base cl k c 20 "room_worth" 3)(xP:Under base (cl 3) (cl 0))(pX:Under base (cl 2) (cl 0))(oU:Fg K (cl 3))(jt:Fg K (cl 2))(fV:mg "BadHour"=some (.ref (cl 5)))(cM:mg "NoWay"=some (.ref (cl 3)))(bQ:mg "TooMany"=some (.ref (cl 2)))(fW:mg "TooMuch"=some (.ref (cl 4)))(gB:kitOne K (.ref (cl 3)) (.ref (cl 5))=some false)(jb:kitOne K (.ref (cl 3)) (.ref (cl 3))=some true)(gC:kitOne K (.ref (cl 3)) (.ref (cl 2))=some false)(gD:kitOne K (.ref (cl 3)) (.ref (cl 4))=some false)(fJ:kitOne K (.ref (cl 2)) (.ref (cl 5))=some false)(gF:kitOne K (.ref (cl 2)) (.ref (cl 3))=some false)(fK:kitOne K (.ref (cl 2)) (.ref (cl 2))=some true)(iM:kitOne K (.ref (cl 2)) (.ref (cl 4))=some false)(eU:kitOne K (.ref (cl 3)) (.type "ValueError")=some true)(dG:kitOne K (.ref (cl 2)) (.type "ValueError")=some true):↥(["net","last","closed","number","way"],5,f29):=by
 exists o,aev,0,0;refine aP ?_ ?_;.exists 5,qg
 lia;.exact(Np (cl:=cl) (kk:=0) (i:=6) (by rfl) lG (by decide+kernel) rfl ⟨rfl,rfl⟩ nd rfl rfl (λ_ _ t=>(by lia;(· exists dN ?_ ?_ ?_;exact cj (dR (aX hr)) (sv 4) aa (bO _);(· lia;exact gJ (cN l hr (aG (sv 0) (aG (sv 1) (aG (sv 3) az rfl) rfl) rfl));exact aq);exact aq);(· lia;(· exists dN ?_ ?_ ?_;exact cj (dR (aX hr)) (sv 4) aa (bO _);(· lia;exact gJ (cN h hr (aG (sv 0) (aG (sv 1) (aG (sv 3) az rfl) rfl) rfl));exact aq);exact aq);(· lia;(· exists dN ?_ ?_ ?_;exact cj (dR (aX hr)) (sv 4) aa (bO _);(· lia;exact gJ (cN g hr (aG (sv 0) (aG (sv 2) (aG (sv 3) az rfl) rfl) rfl));exact aq);exact aq);exact aq)))) (λ_ _ W t m=>(bR (by exists dN ?_ ?_ ?_;exact cj (dR (aX hr)) (sv 4) aa (bO _);(· lia;exact gJ (cN l hr (aG (sv 0) (aG (sv 1) (aG (sv 3) az rfl) rfl) rfl));exact aq);exact aq) (wu (cj (dR (aX hr)) (sv 4) aa (bO _)) (bR (gJ (cN l hr (aG (sv 0) (aG (sv 1) (aG (sv 3) az rfl) rfl) rfl))) (tR rfl m r hr (aG (sv 0) (aG (sv 1) (aG (sv 3) az rfl) rfl) rfl)) dw) dw) (bR (by exists dN ?_ ?_ ?_;exact cj (dR (aX hr)) (sv 4) aa (bO _);(· lia;exact gJ (cN h hr (aG (sv 0) (aG (sv 1) (aG (sv 3) az rfl) rfl) rfl));exact aq);exact aq) (wu (cj (dR (aX hr)) (sv 4) aa (bO _)) (bR (gJ (cN h hr (aG (sv 0) (aG (sv 1) (aG (sv 3) az rfl) rfl) rfl))) (tR rfl m q hr (aG (sv 0) (aG (sv 1) (aG (sv 3) az rfl) rfl) rfl)) dw) dw) (bR (by exists dN ?_ ?_ ?_;exact cj (dR (aX hr)) (sv 4) aa (bO _);(· lia;exact gJ (cN g hr (aG (sv 0) (aG (sv 2) (aG (sv 3) az rfl) rfl) rfl));exact aq);exact aq) (wu (cj (dR (aX hr)) (sv 4) aa (bO _)) (bR (gJ (cN g hr (aG (sv 0) (aG (sv 2) (aG (sv 3) az rfl) rfl) rfl))) (tR rfl m p hr (aG (sv 0) (aG (sv 2) (aG (sv 3) az rfl) rfl) rfl)) dw) dw) dw)))) (jf (.inl rfl) (jf (.inl rfl) (jf (.inr ⟨pX,λe u a=>(JP (b1:=true) (b2:=false) (j:=7) (k:=5) nd (by decide) rfl (Or.inl rfl) rfl (Or.inl rfl) (Hl a jt rfl (by rfl) aK rfl (by ac_rfl) (lU (gH (v:=.ref (cl 5)) (by rfl) fV rfl (by rfl)) (lU (gH (v:=.ref (cl 2)) (by rfl) bQ rfl (by rfl)) (lU (gH (v:=.ref (cl 4)) (by rfl) fW rfl (by rfl)) Ky))) (jd iI (jd iI (jd iI BK))) (wK fJ (Vn fK)) (show 3<=sizeLine by decide)) (wU (b:=false) (b':=false) (Cr (v5 a jt rfl (by rfl) aK rfl (by ac_rfl) (gH (v:=.ref (cl 3)) (by rfl) cM rfl (by rfl)) iI gF)) (wU (b:=true) (b':=false) (Cr (v5 a jt rfl (by rfl) aK rfl (by ac_rfl) (rJ (v:=.ty "ValueError") (by rfl) gP (by kernel_rfl) rfl (by decide) (by rfl)) K9 dG)) (Ha (b:=false) (Jl rfl (by ac_rfl))))) (by rfl) (Or.inl rfl) (by rfl) (Or.inl rfl))⟩) (jf (.inr ⟨xP,λe u a=>(JP (b1:=false) (b2:=true) (j:=7) (k:=5) nd (by decide) rfl (Or.inl rfl) rfl (Or.inl rfl) (Hl a oU rfl (by rfl) aK rfl (by ac_rfl) (lU (gH (v:=.ref (cl 5)) (by rfl) fV rfl (by rfl)) (lU (gH (v:=.ref (cl 2)) (by rfl) bQ rfl (by rfl)) (lU (gH (v:=.ref (cl 4)) (by rfl) fW rfl (by rfl)) Ky))) (jd iI (jd iI (jd iI BK))) (wK gB (wK gC (wK gD Hz))) (show 3<=sizeLine by decide)) (wU (b:=true) (b':=true) (Cr (v5 a oU rfl (by rfl) aK rfl (by ac_rfl) (gH (v:=.ref (cl 3)) (by rfl) cM rfl (by rfl)) iI jb)) (wU (b:=true) (b':=true) (Cr (v5 a oU rfl (by rfl) aK rfl (by ac_rfl) (rJ (v:=.ty "ValueError") (by rfl) gP (by kernel_rfl) rfl (by decide) (by rfl)) K9 eU)) (Ha (b:=true) (Jl rfl (by ac_rfl))))) (by rfl) (Or.inl rfl) (by rfl) (Or.inl rfl))⟩) (jf (.inl rfl) (jf (.inl rfl) Mu)))))))
 lia;.exists(),sv 5
 exact aq
noncomputable abbrev s30:Stmt:=top 49
noncomputable def b30:List S:=[.unp [5,6,7,8] (.idx (.idx ↑0 ⇑1) ↑4),.asg 9 (.call 28 [↑0,↑1,↑4,⇑0]),.asg 10 (.lst [.call 20 [↑0,↑2,↑4],.call 21 [↑0,↑2,↑4],.call 22 [↑0,↑3,↑4]]),.asg 11 (.lst [.bin .sub (.call 28 [↑0,↑1,↑4,⇑1]) ↑9,⇑0,.blt .max2 [⇑0,.bin .sub (.bin .sub (.idx ↑3 ↑6) (.idx ↑3 ↑5)) ↑8]]),.ifs (.cmp .gt ↑7 ⇑0) [.Lf 11 ⇑1 (.bin .sub ↑9 (.call 28 [↑0,↑1,↑4,.neg ⇑1]))] [],.iW ↑10 [12] true [.ifs (.or (.inst [.bool] ↑12) (.not (.inst [.int] ↑12))) [.ret (.con (.bl false))] []],.ret (.cmp .eq ↑10 ↑11)]
noncomputable def f30:Fd:=⟨5,13,b30⟩
theorem aeU:aM ["net","every","last","closed","number","one","other","room","hours","most","found","due","part"] ["net","every","last","closed","number"] (aA s30):={}
include cl in
theorem d30(b:ig K "_law_way_right" "_law_way_right" s30 f fd)(pW:mg "bool"=none)(vR:mg "int"=none)(aK:mg "isinstance"=none)(fP:mg "max"=none)(a:↥(28,"_law_most",4,0))(e:↥(22,"gap_of",3,0))(g:↥(21,"room_loss",3,0))(h:↥(20,"room_worth",3,0)):↥(["net","every","last","closed","number"],5,f30):=by
 exists b,aeU,0,0;refine aP ?_ ?_;.exact(Js (au (au (sv 0) aa) (sv 4)) (o7 hc (bV (bf (i:=5) nd rfl oi oi) (bV (bf (i:=6) nd rfl oi oi) (bV (bf (i:=7) nd rfl oi oi) (bV (bf (i:=8) nd rfl oi oi) lV))))) (sy rfl (dq _ _ (dq _ _ (dq _ _ (dq _ _ nY 8) 7) 6) 5)))
 lia;.exists 9,cN a hr (aG (sv 0) (aG (sv 1) (aG (sv 4) (aG aa az rfl) rfl) rfl) rfl)
 lia;.exists 10,cO (dh (cN h hr (aG (sv 0) (aG (sv 2) (aG (sv 4) az rfl) rfl) rfl)) (dh (cN g hr (aG (sv 0) (aG (sv 2) (aG (sv 4) az rfl) rfl) rfl)) (dh (cN e hr (aG (sv 0) (aG (sv 3) (aG (sv 4) az rfl) rfl) rfl)) aN rfl) rfl) rfl)
 lia;.exists 11,cO (dh (ao bj (cN a hr (aG (sv 0) (aG (sv 1) (aG (sv 4) (aG aa az rfl) rfl) rfl) rfl)) (sv 9)) (dh aa (dh (lZ rfl hc (by rfl) fP (dh aa (dh (ao bj (ao bj (au (sv 3) (sv 6)) (au (sv 3) (sv 5))) (sv 8)) aN rfl) rfl)) aN rfl) rfl) rfl)
 lia;.exists dN ?_ ?_ ?_;exact cj sV (sv 7) aa (bO _);(· lia;exact Dv (k:=11) rfl (by ac_rfl) aa (ao bj (sv 9) (cN a hr (aG (sv 0) (aG (sv 1) (aG (sv 4) (aG (sG aa) az rfl) rfl) rfl) rfl)));exact aq);exact aq
 lia;.exists 12,fc (sv 10),0;(· lia;(· exists dN ?_ ?_ ?_;exact SW.st (Dq (gw (oh .bool rfl (by rfl) aK (sv 12) (by rfl) pW (by kernel_rfl) (by decide) (by rfl))) (v9 (jG (gw (oh .int rfl (by rfl) aK (sv 12) (by rfl) vR (by kernel_rfl) (by decide) (by rfl))))));(· lia;(· exists(),qg);exact aq);exact aq);exact aq)
 lia;.exists(),wW (dR (aX hr)) (sv 10) (sv 11) (bO _)
 exact aq
noncomputable abbrev s31:Stmt:=top 50
noncomputable def b31:List S:=[.asg 1 (.call 23 [↑0,⇑300]),.asg 2 (.call 26 [↑1,⇑0,⇑4,⇑5]),.asg 3 (.call 24 [↑1,⇑160,⇑6]),.asg 4 (.call 27 [.idx ↑2 ⇑0,↑3]),.iW (.vO ⇑0 (.blt .len [.idx ↑2 ⇑1])) [5] true [.asg 6 (.idx ↑4 (.call 24 [↑1,.bin .add ⇑170 ↑5,.blt .len [↑4]])),.ifs (.not (.call 30 [↑2,↑4,↑3,↑6,↑5])) [.ret (.con (.bl false))] []],.asg 7 (.call 25 [↑1,⇑180,.bin .pow ⇑10 ⇑9]),.iW (.lst [.blt .len [.idx ↑2 ⇑1],.bin .add (.blt .len [.idx ↑2 ⇑1]) ↑7,.neg ⇑1,.bin .sub (.neg ⇑1) ↑7,.bin .sub ⇑0 (.blt .len [.idx ↑2 ⇑1])]) [5] true [.ifs (.or (.cmp .ne ↑5 ⇑0) (.cmp .eq (.idx ↑2 ⇑1) (.tup []))) [.ifs (.not (.blt .all [.comp (.vO ⇑0 ⇑3) 1 [8] true none (.call 29 [↑2,↑3,.idx ↑4 ⇑0,↑5,↑8])])) [.ret (.con (.bl false))] []] []],.ret (.con (.bl true))]
noncomputable def f31:Fd:=⟨1,8,b31⟩
theorem afa:aM ["script","draws","net","last","every","number","closed","far"] ["script"] (aA s31):={}
include cl in
theorem d31(b:ig K "law" "law" s31 f fd)(Ej:mg "all"=none)(bw:mg "len"=none)(bL:mg "range"=none)(e:↥(23,"_law_all",2,0))(g:↥(27,"_law_all_closed",2,0))(a:↥(24,"_law_draw",3,0))(h:↥(26,"_law_net",4,0))(j:↥(29,"_law_refused",5,0))(l:↥(30,"_law_way_right",5,0))(m:↥(25,"_law_wide",3,0)):↥(["script"],1,f31):=by
 exists b,afa,0,0;refine aP ?_ ?_;.exists 1,cN e hr (aG (sv 0) (aG aa az rfl) rfl)
 lia;.exists pH (i:=2) ?_ ?_ ?_ ?_ ?_ ?_;exact nd;exact rfl;exact Or.inr rfl;rotate_left;rfl;exact oi;exact cN h hr (aG (sv 1) (aG aa (aG aa (aG aa az rfl) rfl) rfl) rfl)
 lia;.exists pH (i:=3) ?_ ?_ ?_ ?_ ?_ ?_;exact nd;exact rfl;exact Or.inr rfl;rotate_left;rfl;exact oi;exact cN a hr (aG (sv 1) (aG aa (aG aa az rfl) rfl) rfl)
 lia;.exists pH (i:=4) ?_ ?_ ?_ ?_ ?_ ?_;exact nd;exact rfl;exact Or.inr rfl;rotate_left;rfl;exact oi;exact cN g hr (aG (au (sv 2) aa) (aG (sv 3) az rfl) rfl)
 lia;.exists rF (i:=5) ?_ ?_ ?_ ?_ ?_ ?_ ?_ ?_ ?_;exact PassesOwn.never;exact hc;exact nd;exact rfl;exact Or.inr rfl;exact iK rfl (by rfl) bL (dg rfl (by rfl) bw (au (sv 2) aa));(· lia;(· exists 6,au (sv 4) (cN a hr (aG (sv 1) (aG (ao aF aa (sv 5)) (aG (dg rfl (by rfl) bw (sv 4)) az rfl) rfl) rfl)));(· lia;(· exists dN ?_ ?_ ?_;exact jG (gw (cN l hr (aG (sv 2) (aG (sv 4) (aG (sv 3) (aG (sv 6) (aG (sv 5) az rfl) rfl) rfl) rfl) rfl)));(· lia;(· exists(),qg);exact aq);exact aq);exact aq));(· intro _;rfl);exact oi
 lia;.exists 7,cN m hr (aG (sv 1) (aG aa (aG (ao fX aa aa) az rfl) rfl) rfl)
 lia;.exists rF (i:=5) ?_ ?_ ?_ ?_ ?_ ?_ ?_ ?_ ?_;exact PassesOwn.never;exact hc;exact nd;exact rfl;exact Or.inr rfl;exact fc (cO (dh (dg rfl (by rfl) bw (au (sv 2) aa)) (dh (ao aF (dg rfl (by rfl) bw (au (sv 2) aa)) (sv 7)) (dh (sG aa) (dh (ao bj (sG aa) (sv 7)) (dh (ao bj aa (dg rfl (by rfl) bw (au (sv 2) aa))) aN rfl) rfl) rfl) rfl) rfl));(· lia;(· exists dN ?_ ?_ ?_;exact SW.st (Dq (cj (Jp (aX hr)) (sv 5) aa (bO _)) (v9 (cj (dR (aX hr)) (au (sv 2) aa) (dj aN) (bO _))));(· lia;(· exists dN ?_ ?_ ?_;exact jG (gw (Tt rfl hc (by rfl) Ej (jD (N':=["script","draws","net","last","every","number","closed","far","way"]) hc (Mx rfl (by rfl)) (iK rfl (by rfl) bL aa) ⇑(bf (i:=8) ‹["script","draws","net","last","every","number","closed","far","way"]› rfl (Or.inl rfl) (Or.inr rfl)) (gf (eG)) ⇑(iJ) ⇑((cN j hr (aG (sv 2) (aG (sv 3) (aG (au (sv 4) aa) (aG (sv 5) (aG (sv 8) az rfl) rfl) rfl) rfl) rfl))))));(· lia;(· exists(),qg);exact aq);exact aq);exact aq);exact aq);exact aq);(· intro _;rfl);exact oi
 lia;.exists(),qg
 exact aq
end _T
end
noncomputable section
namespace _T
open PySem _L Spec PyProof.Rows _H
noncomputable def Γ:Tab:=λi=>[f0,f1,f2,f3,f4,f5,f6,f7,f8,f9,f10,f11,Xh,f13,f14,QK,Yy,f17,f18,f19,VD,V6,VR,f23,f24,f25,f26,f27,f28,f29,f30,f31][i]?
end _T
end
noncomputable section
namespace _T
open _H
variable{a b m i g p k:Int}{n j w N l:Nat}{Q:R->List Sl->Prop}{f:Bool}{ch:List Int}{F q:Int->Int}{ρ:List Sl}{kvs r:List (Int×Int)}
local macro_rules|`(tactic|symm)=>`(tactic|first|apply ak|apply Ge)
structure Wy where(s t r h:Int)
variable{v:Wy}{ws:List Wy}
noncomputable def Wy.d(w:Wy):D:=.tup [.int w.s,.int w.t,.int w.r,.int w.h]
structure Wy.Ok(m:Int)(w:Wy):Prop where
 s0:0<=w.s
 s1:w.s<m
 t0:0<=w.t
 t1:w.t<m
 ne:w.s≠w.t
 r0:0<=w.r
 r1:w.r<=1000000000
 h0:1<=w.h
 h1:w.h<=1000000
theorem other(h1:0<=a)(c:a<m)(o:0<=b)(s:b<m-1):0<=(a+1+b)%m/\(a+1+b)%m<m/\(a+1+b)%m≠a:=by
 by_cases h:a+1+b<m;.rw[Int.emod_eq_of_lt (by omega) h];omega
 . have e:(a+1+b)%m=a+1+b-m:=by rw[<-Int.sub_emod_right,Int.emod_eq_of_lt (by omega) (by omega)]
   rw[e];omega
noncomputable def aZ(m:Int)(ws:List Wy):D:=.tup [.int m,.tup (ws.map Wy.d)]
structure jh(m:Int)(ws:List Wy):Prop where
 m0:2<=m
 m1:m<=6
 len:ws.length<=12
 ok:∀w∈ws,w.Ok m
@[simp]theorem ag0{m:Int}{ws:List Wy}:Ey (aZ m ws) (.int 0)=some (.val (.int m)):=rfl
@[simp]theorem ag1{m:Int}{ws:List Wy}:Ey (aZ m ws) (.int 1)=some (.val (.tup (ws.map Wy.d))):=rfl
noncomputable def ab(i:Int):Int:=if i<0 then-i else i
theorem Ce:blt .abs [.int i]=some (.val (.int (ab i))):=rfl
noncomputable def aay(d:D):D:=.int (ab (qt d))
inductive FAl(a0 a1 a2 a3 a4 a5 a6 a7 a8:Sl)(ρ:List Sl):Prop where|mk(s:Sl)(q0:ρ=[a0,a1,a2,a3,a4,a5,a6,a7,a8,s])(q1:fr s=true)
noncomputable def Dr(c:List Int):Prop:=∀d∈c,0<=d/\d<1000000
inductive JAl(N:Nat)(a0 a1:Sl)(i:Nat)(ρ:List Sl):Prop where|mk(cs ls fd:List Int)(s5 s6 s7 s8:Sl)(q0:ρ=[a0,a1,.own false (cs.map D.int),.own false (ls.map D.int),.own false (fd.map D.int),s5,s6,s7,s8])(q1:A4 (fr s5=true) (fr s6=true) (fr s7=true) (fr s8=true))(q2:cs.length=N)(q3:ls.length=N)(q4:fd.length=i)(q5:Dr fd)
theorem qD(a:Int)(h:0<b):0<=a%b/\a%b<b:=⟨Int.emod_nonneg _ (by omega),Int.emod_lt_of_pos _ h⟩
theorem Om{cs:List Int}{a b:Option Int}:cut (cs.map D.int) a b=(cut cs a b).map D.int:=by unfold cut;simp
theorem afh{c:List D}:PB (.lst c) (part (.con .non) .non) (part (.con (.int i)) (.int i))=some (.own (cut c none (some i))):=rfl
theorem T3{c:Call}{A B:List S}{o s t u s7 s8:Sl}{cs h:List Int}{c0 y:Int}{Q:Fl->List Sl->Prop}(z:at' (cs.map D.int) (j:Int)=some (.int c0))(C:at' (h.map D.int) (j:Int)=some (.int y))(h1:(eO c n A [o,s,.own false (cs.map D.int),.own false (h.map D.int),t,u,.val false (.int j),s7,s8]).sat Q)(x:(eO c n B [o,s,.own false (cs.map D.int),.own false (h.map D.int),t,u,.val false (.int j),s7,s8]).sat Q):(ex c n (.ifs (.and (.cmp .ge (.blt .abs [.idx (.var 2) (.var 6)]) (.bin .pow (.con (.int 10)) (.con (.int 18)))) (.cmp .gt (.idx (.var 3) (.var 6)) (.con (.int 0)))) A B) [o,s,.own false (cs.map D.int),.own false (h.map D.int),t,u,.val false (.int j),s7,s8]).sat Q:=by have e:=Ce (i:=c0);generalize ab c0=E at e;simp[z,C,e];exact⟨λ_=>⟨λ_=>h1,λ_=>x⟩,λ_=>x⟩
set_option maxHeartbeats 400000 in
theorem OD{M:Nat}{ns:List Int}(hn:ns.length<=63)(hM:M<=1000)(k:∀z:List Int,z.length=M->Dr z->Q (.own (z.map D.int)) [.val false (.lst (ns.map D.int)),.val false (.int M)]):(run Γ w (n+1) 23 [.val false (.lst (ns.map D.int)),.val false (.int M)]).sat Q:=by
 refine aO (d:=f23) rfl rfl (by decide) ?_;refine dJ (λρ=>∃cs:List Int,ρ=[.val false (.lst (ns.map D.int)),.val false (.int M),.own false (cs.map D.int),.aQ,.aQ,.aQ,.aQ,.aQ,.aQ]/\cs.length<=63) ?_ ?_;.simp[f23,afh,Om];refine⟨_,rfl,?_⟩;unfold cut;simp;omega
 rintro _⟨cs,rfl,hc⟩;refine dJ (λρ=>∃cs:List Int,ρ=[.val false (.lst (ns.map D.int)),.val false (.int M),.own false (cs.map D.int),.aQ,.aQ,.aQ,.aQ,.aQ,.aQ]/\cs.length<=63/\0<cs.length) ?_ ?_;.simp[PL];cases cs with|nil=>simp;apply ak;simp;exact⟨[0],rfl,by simp,by simp⟩|cons c cs=>simp;exact⟨c::cs,rfl,by simpa using hc,by simp⟩
 rintro _⟨cs,rfl,hc,ac⟩;symm;simp[show cs.length<=16777216 by omega];refine fU (FAl _ _ _ _ _ _ _ _ _) aay ⟨.aQ,rfl,rfl⟩ ?_ ?_;.rintro d hd _⟨s,rfl,hs⟩;obtain⟨c,_,rfl⟩:=mem_map.mp hd;simp[hs,Ce];exact⟨rfl,_,rfl,rfl⟩
 rintro _⟨s,rfl,hs⟩;have e:(cs.map D.int).map aay=(cs.map ab).map D.int:=by rw[map_map,map_map];rfl
 rw[e];have A:(cs.map ab).length=cs.length:=length_map _;generalize(cs.map ab)=o at*;simp;apply ak;simp;apply ak;simp[show(M:Int)<=1000000000 by omega];refine jl (JAl cs.length _ _) ?_ ?_ ⟨cs,o,[],.aQ,.aQ,.aQ,.aQ,rfl,⟨rfl,rfl,rfl,rfl⟩,rfl,A,rfl,λd hd=>by cases hd⟩
 . rintro i _ hi⟨h,o,fd,s5,s6,s7,s8,rfl,⟨h5,h6,U,W⟩,h1,B,X,C⟩;obtain⟨j,hj,j0⟩:∃j:Nat,(i:Int)%(h.length:Int)=(j:Int)/\j<h.length:=⟨i%h.length,by omega,Nat.mod_lt _ (by omega)⟩;have Y:at' (h.map D.int) (j:Int)=some (.int h[j]):=fB (by simp[j0]);have Z:j<o.length:=by omega
   have E:at' (o.map D.int) (j:Int)=some (.int o[j]):=fB (by simp[Z]);have hx:j9 o.length (j:Int)=some j:=V8 Z;generalize h[j]=c0 at*;generalize o[j]=G at*;have H:0<h.length:=by omega
   have I:∃t:Int,t=(i:Int):=⟨_,rfl⟩;obtain⟨t,J⟩:=I;have snoc:∀{x:Int},0<=x->x<1000000->Dr (fd++[x]):=λ{x}x0 x1 d hd=>by
    rcases mem_append.mp hd with hd|hd;.exact C d hd
    .rw[mem_singleton.mp hd];exact⟨x0,x1⟩
   simp[h5];apply ak;simp[h6,H,hj];apply ak;refine T3 Y E ?_ ?_;.symm;have y:=qD G (b:=1000000) (by decide);simp[E,show fd.length<16777216 by omega];apply ak;simp[E,hx];exact⟨h,o.set j (G/1000000),fd++[G%1000000],.val false (.int i),.val false (.int j),s7,s8,by simp[map_set],⟨rfl,rfl,U,W⟩,h1,by simpa using B,by simp;omega,snoc y.1 y.2⟩
   . have i1:-18446744073709551616<977*t/\977*t<18446744073709551616:=by omega
     rw[<-J];symm;simp[i1,U];generalize 977*t*t+131*t+1=st;symm;simp[Y,W];generalize hm:(c0%1000000007*48271+st)%2147483647=u;have m0:=qD (c0%1000000007*48271+st) (b:=2147483647) (by decide);rw[hm]at m0;have m1:-18446744073709551616<u/\u<18446744073709551616:=by omega
     symm;simp[m1];generalize L:u*u%2147483647=O;have n0:=qD (u*u) (b:=2147483647) (by decide);rw[L]at n0;symm;simp[show fd.length<16777216 by omega];have y:=qD ((O+40692*(t+3))*69621%2147483629/8) (b:=1000000) (by decide);exact⟨h,o,fd++[(O+40692*(t+3))*69621%2147483629/8%1000000],.val false (.int t),.val false (.int j),.val false (.int st),.val false (.int O),by simp,⟨rfl,rfl,rfl,rfl⟩,h1,B,by simp;omega,snoc y.1 y.2⟩
 .rintro _⟨h,o,fd,s5,s6,s7,s8,rfl,_,h1,B,X,C⟩;symm;simp;exact k fd X C
theorem cQ{e:List Int}{c:Int}(hd:0<e.length)(u:0<=c)(m0:0<m)(m1:m<=1000000000000000000000)(k:∀d,0<=d->d<m->Q (.val (.int d)) [.own true (e.map D.int),.val false (.int c),.val false (.int m)]):(run Γ w (n+1) 24 [.own true (e.map D.int),.val false (.int c),.val false (.int m)]).sat Q:=by
 have h:m<1606938044258990275541962092341162602522202993782792835301376:=by omega
 obtain⟨j,o,s⟩:∃j:Nat,c%(e.length:Int)=(j:Int)/\j<e.length:=⟨(c%(e.length:Int)).toNat,by have:=qD c (b:=(e.length:Int)) (by omega);omega,by have:=qD c (b:=(e.length:Int)) (by omega);omega⟩;have t:at' (e.map D.int) (j:Int)=some (.int e[j]):=fB (by simp[s]);generalize e[j]=d0 at*;refine aO (d:=f24) rfl rfl (by decide) ?_;symm;simp[f24,hd,o,t,m0,h];exact k _ (qD d0 m0).1 (qD d0 m0).2
theorem yq{c:List Int}{e:Int}(y:Dr c)(hd:0<c.length)(z:0<=e)(m0:0<m)(m1:m<=1000000000000000000000)(k:∀d,0<=d->d<m->Q (.val (.int d)) [.own true (c.map D.int),.val false (.int e),.val false (.int m)]):(run Γ w (n+1) 25 [.own true (c.map D.int),.val false (.int e),.val false (.int m)]).sat Q:=by
 have h:m<1606938044258990275541962092341162602522202993782792835301376:=by omega
 have get:∀a:Int,∃j:Nat,a%(c.length:Int)=(j:Int)/\j<c.length:=λa=>⟨(a%(c.length:Int)).toNat,by have:=qD a (b:=(c.length:Int)) (by omega);omega,by have:=qD a (b:=(c.length:Int)) (by omega);omega⟩;obtain⟨j,o,s⟩:=get e;obtain⟨i,hi,t⟩:=get (e+1);have u:at' (c.map D.int) (j:Int)=some (.int c[j]):=fB (by simp[s]);have x:at' (c.map D.int) (i:Int)=some (.int c[i]):=fB (by simp[t]);generalize c[j]=d0 at*;generalize c[i]=d1 at*;refine aO (d:=f25) rfl rfl (by decide) ?_;symm;simp[f25,hd,o,u];apply ak;simp[hd,hi,x,m0,h];exact k _ (qD _ m0).1 (qD _ m0).2
theorem Gu(k:Q (.val (.bl true)) [.val false (.int i)]):(run Γ w (n+1) 10 [.val false (.int i)]).sat Q:=by refine aO (d:=f10) rfl rfl (by decide) ?_;symm;simp[f10];exact k
theorem iy(h1:a<=i)(c:i<=b)(k:Q (.val (.bl true)) [.val false (.int i),.val false (.int a),.val false (.int b)]):(run Γ w (n+2) 11 [.val false (.int i),.val false (.int a),.val false (.int b)]).sat Q:=by refine aO (d:=f11) rfl rfl (by decide) ?_;symm;simp[f11];refine Gu ?_;simp[h1,c];exact k
theorem Iw{c:List D}(k:Q (.val (.bl true)) [.val false (.tup c)]):(run Γ w (n+1) 12 [.val false (.tup c)]).sat Q:=by refine aO (d:=Xh) rfl rfl (by decide) ?_;symm;simp[Xh];exact k
theorem Jk{b:Bool}{c:List D}(k:Q (.val (.bl true)) [.own b c]):(run Γ w (n+1) 12 [.own b c]).sat Q:=by refine aO (d:=Xh) rfl rfl (by decide) ?_;symm;simp[Xh];exact k
theorem FQ(h:v.Ok m)(k:Q (.val (.bl true)) [.val false (.int m),.val false v.d]):(run Γ w (n+3) 13 [.val false (.int m),.val false v.d]).sat Q:=by obtain⟨s,t,r,c⟩:=v;obtain⟨s0,s1,t0,t1,ne,r0,r1,h0,h1⟩:=h;simp only at s0 s1 t0 t1 ne r0 r1 h0 h1;refine aO (d:=f13) rfl rfl (by decide) ?_;symm;simp[f13,Wy.d];refine Iw ?_;simp;refine iy s0 (by omega) ?_;simp;refine iy t0 (by omega) ?_;simp[ne];refine iy r0 r1 ?_;simp;refine iy h0 h1 ?_;simp;exact k
inductive JMd(m:Int)(ws:List Wy)(a0 a1:Sl)(r:List D)(ρ:List Sl):Prop where|mk(s2:Sl)(s3:Sl)(q0:ρ=[a0,a1,s2,s3])(q1:(fr s2=true/\fr s3=true))(q2:∀d∈r,∃(i:Nat)(v:Wy),d=.tup [.int i,v.d]/\v.Ok m)
inductive F4m(a0 a1 a2 a3:Sl)(ρ:List Sl):Prop where|mk(s:Sl)(q0:ρ=[a0,a1,a2,a3,s])(q1:fr s=true)
theorem Jb(h:jh m ws)(k:Q (.val (aZ m ws)) [.val false (.int m),.val true (.lst (ws.map Wy.d))]):(run Γ w (n+4) 14 [.val false (.int m),.own true (ws.map Wy.d)]).sat Q:=by
 have m0:=h.m0;have m1:=h.m1;have u:=h.len;refine aO (d:=f14) rfl rfl (by decide) ?_;symm;simp[f14];refine iy m0 m1 ?_;simp;refine Jk ?_;simp;apply ak;simp;refine cA (JMd m ws _ _) ?_ ?_ ⟨.aQ,.aQ,rfl,⟨rfl,rfl⟩,λd hd=>?_⟩;.rintro d r _⟨s2,s3,rfl,⟨e,o⟩,hd⟩;obtain⟨i,v,rfl,t⟩:=hd d (by simp);simp[e,o];apply ak;simp;refine FQ t ?_;simp;exact⟨_,_,rfl,⟨rfl,rfl⟩,λd h=>hd d (mem_cons_of_mem _ h)⟩
 . rintro _⟨s2,s3,rfl,⟨e,o⟩,_⟩;simp;apply ak;simp[show ¬(12:Int)<(ws.length:Int)by omega,show ¬ 12<ws.length by omega];apply ak;simp[show ws.length<=16777216 by omega];refine fU (F4m _ _ _ _) (λd=>d) ⟨.aQ,rfl,rfl⟩ ?_ ?_;.rintro d hd _⟨s,rfl,hs⟩;obtain⟨v,_,rfl⟩:=mem_map.mp hd;simp[hs,Wy.d];exact⟨_,rfl,rfl⟩
   .rintro _⟨s,rfl,hs⟩;simp;exact k
 . rw[List.mem_mapIdx]at hd;obtain⟨i,hi,rfl⟩:=hd;have c:i<ws.length:=by simpa using hi
   exact⟨i,ws[i],by simp,h.ok _ (getElem_mem c)⟩
theorem Ax{ns:List Int}{lo hi:Int}(h0:0<=i)(h1:i<(ns.length:Int))(k:∀x∈ns,lo<=x/\x<=hi):∃r,at' (ns.map D.int) i=some (.int r)/\lo<=r/\r<=hi:=by
 have c:i.toNat<ns.length:=by omega
 refine⟨ns[i.toNat],?_,k _ (getElem_mem c)⟩;rw[o4 h0 (by simpa using h1)];simp[c]
inductive JNt(m:Int)(wd:Bool)(a0 a1 a2 a3:Sl)(i:Nat)(ρ:List Sl):Prop where|mk(ws:List Wy)(s7 s8 s9 jj rB s12:Sl)(q0:ρ=[a0,a1,a2,a3,.val false (.int m),.val false (.bl wd),.own false (ws.map Wy.d),s7,s8,s9,jj,rB,s12])(q1:A6 (fr s7=true) (fr s8=true) (fr s9=true) (fr jj=true) (fr rB=true) (fr s12=true))(q2:(∀v∈ws,v.Ok m))(q3:ws.length=i)
theorem Hb{x:List Int}{o u:Int}(L:Dr x)(hd:0<x.length)(p0:2<=o)(p1:o<=6)(o0:0<=u)(o1:u<=12)(k:∀m ws,jh m ws->m<=o->(ws.length:Int)<=u->Q (.val (aZ m ws)) [.own true (x.map D.int),.val false (.int 0),.val false (.int o),.val false (.int u)]):(run Γ w (n+5) 26 [.own true (x.map D.int),.val false (.int 0),.val false (.int o),.val false (.int u)]).sat Q:=by
 refine aO (d:=f26) rfl rfl (by decide) ?_;symm;simp[f26];refine cQ hd (by omega) (by omega) (by omega) λd d0 d1=>?_;simp;generalize hm:2+d=m;have m0:2<=m:=by omega
 have m1:m<=o:=by omega
 symm;simp;refine cQ hd (by omega) (by omega) (by omega) λd2 _ _=>?_;simp;generalize(d2==0)=A;symm;simp;apply ak;simp;refine cQ hd (by omega) (by omega) (by omega) λN n0 n1=>?_;simp[show N<=1000000000 by omega];refine⟨by omega,?_⟩;refine jl (JNt m A _ _ _ _) ?_ ?_ ⟨[],.aQ,.aQ,.aQ,.aQ,.aQ,.aQ,rfl,⟨rfl,rfl,rfl,rfl,rfl,rfl⟩,by simp,rfl⟩
 . rintro i _ hi⟨ws,s7,s8,s9,jj,rB,s12,rfl,⟨M,O,U,B,C,E⟩,hok,W⟩;simp[M];apply ak;simp[O];generalize hsp:(10:Int)+10*(i:Int)=sp;have X:0<=sp:=by omega
   symm;simp;refine cQ hd (by omega) (by omega) (by omega) λa G H=>?_;simp[U];apply ak;simp;refine cQ hd (by omega) (by omega) (by omega) λb b0 b1=>?_;obtain⟨t0,t1,Y⟩:=other G H b0 (by omega);simp[show 0<m by omega,B,show m<1606938044258990275541962092341162602522202993782792835301376 by omega];generalize(a+1+b)%m=t at*;refine dJ (λρ=>∃s t:Int,ρ=[.own true (x.map D.int),.val false (.int 0),.val false (.int o),.val false (.int u),.val false (.int m),.val false (.bl A),.own false (ws.map Wy.d),.val false (.int i),.val false (.int sp),.val false (.int s),.val false (.int t),rB,s12]/\(0<=s/\s<m)/\(0<=t/\t<m)/\s≠t) ?_ ?_
   . simp;refine cQ hd (by omega) (by omega) (by omega) λc _ _=>?_;simp;refine⟨λ_=>?_,λ_=>?_⟩;.symm;simp;refine⟨_,_,⟨rfl,rfl⟩,?_⟩;split<;>split<;>omega
     .exact⟨_,_,⟨rfl,rfl⟩,⟨G,H⟩,⟨t0,t1⟩,λe=>Y e.symm⟩
   rintro _⟨s,t,rfl,⟨s0,s1⟩,⟨t0,t1⟩,ne⟩;symm;simp;refine cQ hd (by omega) (by omega) (by omega) λc c0 c1=>?_;obtain⟨r,I,r0,r1⟩:=Ax (ns:=[0,1,2,3,4,1,2,7]) (lo:=0) (hi:=7) c0 (by simpa using c1) (by simp);simp only[map_cons,map_nil]at I;simp[I,C];apply ak;simp;refine cQ hd (by omega) (by omega) (by omega) λc c0 c1=>?_;simp[E];generalize hh:1+c=hr;refine dJ (λρ=>∃r h:Int,ρ=[.own true (x.map D.int),.val false (.int 0),.val false (.int o),.val false (.int u),.val false (.int m),.val false (.bl A),.own false (ws.map Wy.d),.val false (.int i),.val false (.int sp),.val false (.int s),.val false (.int t),.val false (.int r),.val false (.int h)]/\(0<=r/\r<=1000000000)/\(1<=h/\h<=1000000)) ?_ ?_;.cases A with|false=>simp;exact⟨_,_,⟨rfl,rfl⟩,by omega⟩|true=>simp;apply ak;simp;refine yq L hd (by omega) (by omega) (by omega) λe Z e1=>?_;simp;refine cQ hd (by omega) (by omega) (by omega) λc c0 c1=>?_;obtain⟨r',y,ac,ae⟩:=Ax (ns:=[r,1000000000-r,e]) (lo:=0) (hi:=1000000000) c0 (by simpa using c1) (by simp;omega);simp only[map_cons,map_nil]at y;simp[y];apply ak;simp;refine cQ hd (by omega) (by omega) (by omega) λe Z e1=>?_;simp;refine cQ hd (by omega) (by omega) (by omega) λc c0 c1=>?_;obtain⟨h',z,af,ag⟩:=Ax (ns:=[hr,1000000-hr,1+e]) (lo:=1) (hi:=1000000) c0 (by simpa using c1) (by simp;omega);simp only[map_cons,map_nil]at z;simp[z];exact⟨_,_,⟨rfl,rfl⟩,by omega⟩
   rintro _⟨r,h,rfl,⟨r0,r1⟩,⟨h0,h1⟩⟩;symm;simp[show ws.length<16777216 by omega];refine⟨ws++[⟨s,t,r,h⟩],.val false (.int i),.val false (.int sp),.val false (.int s),.val false (.int t),.val false (.int r),.val false (.int h),by simp[Wy.d],⟨rfl,rfl,rfl,rfl,rfl,rfl⟩,λv hv=>?_,by simp;omega⟩;rcases mem_append.mp hv with hv|hv;.exact hok v hv
   .rw[mem_singleton.mp hv];exact⟨s0,s1,t0,t1,ne,r0,r1,h0,h1⟩
 .rintro _⟨ws,s7,s8,s9,jj,rB,s12,rfl,_,hok,W⟩;have J:jh m ws:=⟨m0,by omega,by omega,hok⟩;symm;simp;refine Jb J ?_;simp;exact k m ws J m1 (by omega)
noncomputable def gj(j:Nat)(f:Bool):D:=.tup [.int j,.bl f]
noncomputable def frm(v:Wy)(f:Bool):Int:=if f then v.s else v.t
noncomputable def too(v:Wy)(f:Bool):Int:=if f then v.t else v.s
theorem mO(e:ws[j]?=some v)(k:Q (.val (.tup [.int (frm v f),.int (too v f)])) [.val false (aZ m ws),.val false (gj j f)]):(run Γ w (n+1) 0 [.val false (aZ m ws),.val false (gj j f)]).sat Q:=by refine aO (d:=f0) rfl rfl (by decide) ?_;symm;simp[f0,gj,fB e];apply ak;cases f with|true=>simp[Wy.d];exact k|false=>simp[Wy.d];exact k
noncomputable def hsp(v:Wy)(f:Bool):Int:=if f then v.h else-v.h
theorem vz(e:ws[j]?=some v)(k:Q (.val (.int (hsp v f))) [.val false (aZ m ws),.val false (gj j f)]):(run Γ w (n+1) 1 [.val false (aZ m ws),.val false (gj j f)]).sat Q:=by refine aO (d:=f1) rfl rfl (by decide) ?_;symm;simp[f1,gj,fB e,Wy.d];apply ak;cases f with|true=>simp;exact k|false=>simp;exact k
noncomputable def ZX(s:Sl)(fs:List Int):Prop:=s=.val false (.lst (fs.map D.int))\/∃b,s=.own b (fs.map D.int)
noncomputable def qG(v:Wy)(g:Int)(f:Bool):Int:=if f then v.r-g else g
theorem vg{s:Sl}{fs:List Int}(hs:ZX s fs)(e:ws[j]?=some v)(c:fs[j]?=some g)(k:Q (.val (.int (qG v g f))) [.val false (aZ m ws),s,.val false (gj j f)]):(run Γ w (n+1) 2 [.val false (aZ m ws),s,.val false (gj j f)]).sat Q:=by refine aO (d:=f2) rfl rfl (by decide) ?_;symm;rcases hs with rfl|⟨b,rfl⟩;all_goals simp[f2,gj,fB c];apply ak;cases f with|true=>simp[fB e,Wy.d];exact k|false=>simp;exact k
@[simp]theorem abH{c:Call}{n x k:Nat}{src o:P}{is:List Nat}{one:Bool}{ρ:List Sl}:ex c n (.Lj x src k is one o) ρ=(srcOf (isVar src) (ev c src) ρ).bind λu e=>if u.length<=lim then(gZ is one (ev c o) u [] (e++replicate k .aQ)).bind λs h=>(lift (put (bB ρ (isVar src) (h.take e.length)) x (.hold s)) ρ).bind λt _=>.ok .next t else .stuck:=(rfl)
@[simp]theorem abN{c:Call}{n:Nat}{src:P}{is:List Nat}{one:Bool}{body:List S}{ρ:List Sl}:ex c n (.Gy src is one body) ρ=(ev c src ρ).bind λr e=>(lift (items r.d) e).bind λh e=>jB is one (eO c n body) h e:=(rfl)
@[simp]theorem adi{c:Call}{n x:Nat}{ρ:List Sl}:ex c n (.dz x) ρ=match ρ[x]?with|some (.hold e)=>.ok .next (ρ.set x (.val false (.lst (e.map D.lst))))|_=>.stuck:=(rfl)
@[simp]theorem acN{c:Call}{n x:Nat}{i e:P}{ρ:List Sl}:ex c n (.Lk x i e) ρ=(cL (isVar i) (ev c i) ρ).bind λk ρ=>(lift (wZ ρ x k) ρ).bind λ_ ρ=>(ev c e ρ).bind λr ρ=>Fb ρ x ((jO ρ x).bind λh=>(jc k).bind λk=>lz h k λrow=>if row.length<lim then some (row++[r.d])else none):=(rfl)
@[simp]theorem abO{a:Sl}{l:List Sl}{x:Nat}:jO (a::l) x=match(a::l)[x]?with|some (.hold c)=>some c|_=>none:=rfl
@[simp]theorem Xp{ρ:List Sl}{x:Nat}{c:List (List D)}:Fb ρ x (some c)=.ok .next (ρ.set x (.hold c)):=rfl
@[simp]theorem afp{a:Sl}{l:List Sl}{x:Nat}{k:Int}:wZ (a::l) x (.int k)=match(a::l)[x]?with|some (.hold c)=>rowAt c k|_=>none:=by unfold wZ jO;cases h:(a::l)[x]?with|none=>rfl|some s=>cases s<;>rfl
theorem uo{is:List Nat}{one:Bool}{s:Ev}(J:List Sl->Prop)(g:D->List D){Q:List (List D)->List Sl->Prop}:∀{u:List D}{c:List (List D)}{ρ:List Sl},J ρ->(∀d,d∈u->∀ρ,J ρ->∃o,cI ρ is one d=some o/\(s o).sat λr t=>r=.own (g d)/\J t)->(∀ρ,J ρ->Q (c++u.map g) ρ)->(gZ is one s u c ρ).sat Q|[],c,ρ,j,h,k=>by rw[Lb];simpa using k ρ j|d::r,c,ρ,j,h,k=>by obtain⟨o,e,h1⟩:=h d (by simp) ρ j;rw[J1,e];show((s o).bind _).sat Q;rw[cB];refine h1.imp λx t⟨A,j3⟩=>?_;subst A;exact uo J g j3 (λd' y=>h d' (by simp[y])) λz B=>by simpa using k z B
@[simp]theorem ael{c:Call}{x:Nat}{k:P}{ρ:List Sl}:ev c (.RQ x k) ρ=match ρ[x]?with
 |some (.dC _)=>(cL (isVar k) (ev c k) ρ).bind λe ρ=>match ρ[x]?with|some (.dC kvs)=>lift ((jc e).bind λk=>(mX kvs k).map .val) ρ|_=>.stuck
 |_=>.stuck:=(rfl)
noncomputable def qX(kvs:List (Int×D))(k:Int):Bool:=(kvs.map (·.1)).contains k
noncomputable def Mg(kvs:List (Int×D)):List Int:=kvs.map (·.1)
noncomputable def dsV(kvs:List (Int×D)):List D:=kvs.map (·.2)
@[simp]theorem ad6{c:Call}{x:Nat}{k:P}{neg:Bool}{ρ:List Sl}:ev c (.RT x k neg) ρ=(cL (isVar k) (ev c k) ρ).bind λe ρ=>match ρ[x]?with|some (.dC kvs)=>lift ((jc e).map λk=>.val (.bl (if neg then !qX kvs k else qX kvs k))) ρ|_=>.stuck:=(rfl)
@[simp]theorem acv{c:Call}{k e:Int}{ρ:List Sl}:ev c (.Bp k e) ρ=.ok (.val (.dv [k] [.int e])) ρ:=(rfl)
@[simp]theorem agR{c:Call}{x:Nat}{ρ:List Sl}:ev c (.vw x) ρ=match ρ[x]?with|some (.iC m)=>.ok (.val (.eN m)) (ρ.set x (.val false (.eN m)))|some (.dC kvs)=>.ok (.val (.dv (Mg kvs) (dsV kvs))) (ρ.set x (.val false (.dv (Mg kvs) (dsV kvs))))|some (.own b e)=>.ok (.val (.lst e)) (ρ.set x (.val b (.lst e)))|some (.val _ d)=>.ok (.val d) ρ|_=>.stuck:=(rfl)
@[simp]theorem abS{c:Call}{n x:Nat}{ρ:List Sl}:ex c n (.Gz x) ρ=match ρ[x]?with|some .aQ=>.ok .next (ρ.set x (.dC []))|some (.dC _)=>.ok .next (ρ.set x (.dC []))|some (.val false _)=>.ok .next (ρ.set x (.dC []))|_=>.stuck:=(rfl)
@[simp]theorem abJ{c:Call}{n x:Nat}{k e:P}{ρ:List Sl}:ex c n (.iD x k e) ρ=(ev c e ρ).bind λr ρ=>match ρ[x]?with
 |some (.dC _)=>(cL (isVar k) (ev c k) ρ).bind λh ρ=>match ρ[x]?,h with|some (.dC kvs),.int k=>if kvs.length<lim then .ok .next (ρ.set x (.dC (iD kvs k r.d)))else .stuck|_,_=>.stuck
 |_=>.stuck:=(rfl)
@[simp]theorem ab4{c:Call}{n x:Nat}{i e:P}{sub:Bool}{ρ:List Sl}:ex c n (.Lg x i sub e) ρ=(lift (Ad ρ x) ρ).bind λ_ ρ=>(cL (isVar i) (ev c i) ρ).bind λk ρ=>(lift (Ad ρ x) ρ).bind λl ρ=>(lift ((jc k).bind λi=>at' l i) ρ).bind λa ρ=>(cL (isVar e) (ev c e) ρ).bind λb ρ=>match a,b,ρ[x]?,k with
 |.int u,.int v,some (.own o h),.int k=>match j9 h.length k with|some j=>.ok .next (ρ.set x (.own o (h.set j (.int (if sub then u-v else u+v)))))|none=>.stuck
 |_,_,_,_=>.stuck:=(rfl)
@[simp]theorem Xv{x:Nat}{k:P}:isVar (.RQ x k)=none:=rfl
@[simp]theorem Yj{x:Nat}{k:P}{b:Bool}:isVar (.RT x k b)=none:=rfl
@[simp]theorem ZM{x:Nat}:isVar (.vw x)=none:=rfl
@[simp]theorem Wd{k e:Int}:isVar (.Bp k e)=none:=rfl
@[simp]theorem aew{kvs:List (Int×D)}:fr (.dC kvs)=false:=rfl
@[simp]theorem abV{r:List (List D)}:fr (.hold r)=false:=rfl
@[simp]theorem aaE:uG .Gw=Cp:=rfl
@[simp]theorem abG:uG .din=yP false:=rfl
@[simp]theorem ZW{ks:List Int}{c:List D}{k:Int}:Cp (.dv ks c) (.int k)=(mX (ks.zip c) k).map .val:=rfl
@[simp]theorem abY{ks:List Int}{c:List D}{k:Int}:yP false (.int k) (.dv ks c)=some (.val (.bl (ks.contains k))):=rfl
@[simp]theorem Yi{ks:List Int}{c:List D}:blt .keys [.dv ks c]=some (.val (.tup (ks.map D.int))):=rfl
@[simp]theorem acj{ks:List Int}{c:List D}:blt .Yn [.dv ks c]=if ks.length<=16777216 then some (.own (ks.map D.int))else none:=rfl
@[simp]theorem acg{c:List D}:blt .rvT [.lst c]=some (.val (.tup c.reverse)):=rfl
@[simp]theorem Xk{kvs:List (Int×D)}{x:Option Sl}:dm (.dC kvs) x=.dC kvs:=by cases x<;>rfl
@[simp]theorem Wm{r:List (List D)}{x:Option Sl}:dm (.hold r) x=.hold r:=by cases x<;>rfl
structure HN(m:Int)(ws:List Wy):Prop where
 m0:2<=m
 m1:m<=6
 len:ws.length<=12
 ok:∀w∈ws,(0<=w.s/\w.s<m)/\(0<=w.t/\w.t<m)/\0<=w.h
theorem HN.of(h:jh m ws):HN m ws:=⟨h.m0,h.m1,h.len,λw c=>by have:=h.ok w c;exact⟨⟨this.s0,this.s1⟩,⟨this.t0,this.t1⟩,by have:=this.h0;omega⟩⟩
noncomputable abbrev aC:=Nat×Bool
variable{s:aC}{x:Nat×(Option aC×Int)}{o:Option aC×Int}{c:List aC}{cs:List (List aC×Int)}
noncomputable def sD(s:aC):D:=gj s.1 s.2
noncomputable def lK(ws:List Wy)(fs:List Int)(p:Int)(s:aC):Bool:=match ws[s.1]?,fs[s.1]?with|some v,some g=>decide (frm v s.2=p)&&decide (0<qG v g s.2)|_,_=>false
theorem pA{fs:List Int}(e:ws[s.1]?=some v)(h:fs[s.1]?=some g):lK ws fs p s=(decide (frm v s.2=p)&&decide (0<qG v g s.2)):=by unfold lK;rw[e,h]
noncomputable def jW(ws:List Wy)(fs:List Int)(M:Nat)(l:List aC):List (List aC):=(List.range M).map λ(p:Nat)=>l.filter (lK ws fs (p:Int))
noncomputable def rD(l:List (List aC)):List (List D):=l.map λr=>r.map sD
noncomputable def iV(N:Nat):List aC:=(List.range N).flatMap λj=>[(j,true),(j,false)]
theorem uZ:iV (N+1)=(iV N++[(N,true)])++[(N,false)]:=by simp[iV,List.range_succ]
theorem yK:(iV N).length=2*N:=by induction N with|zero=>rfl|succ N e=>rw[uZ];simp[e];omega
theorem Vz(h:HN m ws)(e:ws[j]?=some v)(f:Bool):0<=frm v f/\frm v f<m:=by have:=h.ok v (mem_of_getElem? e);cases f<;>simp only[frm]<;>simp<;>omega
theorem Jq(h:HN m ws)(e:ws[j]?=some v)(f:Bool):0<=too v f/\too v f<m:=by have:=h.ok v (mem_of_getElem? e);cases f<;>simp only[too]<;>simp<;>omega
theorem Hs{fs:List Int}{M:Nat}{l:List aC}(e:ws[s.1]?=some v)(t:fs[s.1]?=some g)(h:¬ 0<qG v g s.2):jW ws fs M (l++[s])=jW ws fs M l:=by unfold jW;refine map_congr_left λp _=>?_;rw[List.filter_append];simp[pA e t,h]
theorem Pq{fs:List Int}{l:List aC}(e:ws[s.1]?=some v)(u:fs[s.1]?=some g)(h:0<qG v g s.2)(y:0<=frm v s.2/\frm v s.2<m)(C:l.length<1000):(∃row,rowAt (rD (jW ws fs m.toNat l)) (frm v s.2)=some row)/\lz (rD (jW ws fs m.toNat l)) (frm v s.2) (λrow=>if row.length<lim then some (row++[sD s])else none)=some (rD (jW ws fs m.toNat (l++[s]))):=by
 have t:(rD (jW ws fs m.toNat l)).length=m.toNat:=by simp[rD,jW]
 have z:j9 (rD (jW ws fs m.toNat l)).length (frm v s.2)=some (frm v s.2).toNat:=by unfold j9;rw[t,if_pos y.1,if_pos (by omega)]
 have A:(rD (jW ws fs m.toNat l))[(frm v s.2).toNat]?=some ((l.filter (lK ws fs (frm v s.2))).map sD):=by simp[rD,jW,show(frm v s.2).toNat<m.toNat by omega,Int.toNat_of_nonneg y.1]
 refine⟨⟨_,by unfold rowAt;rw[z];exact A⟩,?_⟩;unfold lz;rw[z];show((rD (jW ws fs m.toNat l))[(frm v s.2).toNat]?).bind _=_;rw[A];have B:((l.filter (lK ws fs (frm v s.2))).map sD).length<lim:=by have:=List.length_filter_le (lK ws fs (frm v s.2)) l;rw[length_map];show _<16777216;omega
 show Option.map _ (if _ then _ else _)=_;rw[if_pos B];show some _=some _;congr 1;refine ext_getElem (by simp[rD,jW]) λi E G=>?_;rw[List.getElem_set];by_cases c:(frm v s.2).toNat=i
 . rw[if_pos c];have:(i:Int)=frm v s.2:=by omega
   simp[rD,jW,this,List.filter_append,pA e u,h]
 . rw[if_neg c];have:¬ frm v s.2=(i:Int):=by omega
   simp[rD,jW,List.filter_append,pA e u,this]
inductive JOp(m:Int)(ws:List Wy)(fs:List Int)(s:Sl)(i:Nat)(ρ:List Sl):Prop where|mk(s3 s4:Sl)(q0:ρ=[.val false (aZ m ws),s,.hold (rD (jW ws fs m.toNat (iV i))),s3,s4])(q1:fr s3=true)(q2:fr s4=true)
inductive JOq(m:Int)(ws:List Wy)(fs:List Int)(s:Sl)(i:Nat)(r:List D)(ρ:List Sl):Prop where|mk(l us:List aC)(s4:Sl)(q0:ρ=[.val false (aZ m ws),s,.hold (rD (jW ws fs m.toNat l)),.val false (.int i),s4])(q1:fr s4=true)(q2:r=us.map sD)(q3:l++us=iV (i+1))(q4:∀u∈us,u.1=i)
inductive F1n(a b c d e:Sl)(ρ:List Sl):Prop where|mk(s:Sl)(q0:ρ=[a,b,c,d,e,s])(q1:fr s=true)
theorem Jh{s:Sl}{fs:List Int}(hs:ZX s fs)(h:HN m ws)(W:fs.length=ws.length)(k:Q (.val (.lst ((rD (jW ws fs m.toNat (iV ws.length))).map D.lst))) [.val false (aZ m ws),s]):(run Γ w (n+2) 4 [.val false (aZ m ws),s]).sat Q:=by
 have X:=h.len;have m0:=h.m0;have m1:=h.m1;refine aO (d:=f4) rfl rfl (by decide) ?_;refine dJ (λρ=>ρ=[.val false (aZ m ws),s,.hold (rD (jW ws fs m.toNat (iV 0))),.aQ,.aQ]) ?_ ?_
 . simp[f4,show m<=1000000000 by omega,show-1000000000<=m by omega];refine⟨λ_=>?_,by omega⟩;rw[cB];refine uo (F1n _ _ _ _ _) (λ_=>[]) ⟨.aQ,rfl,rfl⟩ ?_ ?_;.rintro d hd _⟨L,rfl,y⟩;simp[y];exact⟨_,rfl,rfl⟩
   .rintro _⟨L,rfl,y⟩;simp[rD,jW,iV]
 rintro _ rfl;refine dJ (JOp m ws fs s ws.length) ?_ ?_
 . simp[show(ws.length:Int)<=1000000000 by omega];refine jl (JOp m ws fs s) ?_ ?_ ⟨.aQ,.aQ,rfl,rfl,rfl⟩
   . rintro i _ hi⟨s3,s4,rfl,C,t⟩;have G:i<fs.length:=by omega
     have z:ws[i]?=some ws[i]:=by simp[hi]
     have H:fs[i]?=some fs[i]:=by simp[G]
     generalize ws[i]=v at*;generalize fs[i]=g at*;simp[C];apply ak;simp;refine cA (JOq m ws fs s i) ?_ ?_ ⟨iV i,[(i,true),(i,false)],s4,rfl,t,rfl,by rw[uZ];simp,by simp⟩;.rintro d r _⟨l,e,s4,rfl,t,hr,A,E⟩;cases e with|nil=>cases hr|cons u e=>
         obtain⟨rfl,rfl⟩:d=sD u/\r=e.map sD:=by simpa using hr
         obtain rfl:=E u (by simp);have B:(l++[u])++e=iV (u.1+1):=by rw[append_assoc];exact A
         have I:l.length<1000:=by have:=congrArg List.length A;rw[yK]at this;simp at this;omega
         simp[t];apply ak;rcases hs with rfl|⟨b,rfl⟩;all_goals
          simp[sD];refine vg (by first|exact .inl rfl|exact .inr ⟨_,rfl⟩) z H ?_;simp;refine⟨λho=>?_,λho=>?_⟩;.obtain⟨⟨row,M⟩,O⟩:=Pq (ws:=ws) (fs:=fs) (l:=l) z H ho (Vz h z u.2) I;symm;simp;refine mO z ?_;simp[M];have U:lz (rD (jW ws fs m.toNat l)) (frm v u.2) (λrow=>if row.length<lim then some (row++[gj u.1 u.2])else none)=_:=O;rw[U];simp;exact⟨l++[u],e,_,rfl,rfl,rfl,B,λx J=>E x (by simp[J])⟩
          .exact⟨l++[u],e,_,by rw[Hs z H (by omega)],rfl,rfl,B,λx J=>E x (by simp[J])⟩
     . rintro _⟨l,e,s4,rfl,t,hr,A,E⟩;have:e=[]:=by cases e with|nil=>rfl|cons _ _=>cases hr
       subst this;rw[append_nil]at A;subst A;simp;exact⟨_,_,rfl,rfl,t⟩
   .rintro _⟨s3,s4,rfl,C,t⟩;exact⟨rfl,_,_,rfl,C,t⟩
 rintro _⟨s3,s4,rfl,C,t⟩;symm;simp;apply ak;simp;exact k
structure WyR(m:Int)(v:Wy):Prop where
 s0:0<=v.s
 s1:v.s<m
 t0:0<=v.t
 t1:v.t<m
 r0:0<=v.r
 h0:1<=v.h
 h1:v.h<=1000000
structure uK(m:Int)(ws:List Wy):Prop where
 m0:2<=m
 m1:m<=6
 len:ws.length<=12
 ok:∀v∈ws,WyR m v
theorem jh.XF(h:jh m ws):uK m ws:=⟨h.m0,h.m1,h.len,λv e=>by have ho:=h.ok v e;exact⟨ho.s0,ho.s1,ho.t0,ho.t1,ho.r0,ho.h0,ho.h1⟩⟩
theorem HN.ofR(h:uK m ws):HN m ws:=⟨h.m0,h.m1,h.len,λv e=>by have ho:=h.ok v e;exact⟨⟨ho.s0,ho.s1⟩,⟨ho.t0,ho.t1⟩,by have:=ho.h0;omega⟩⟩
theorem uK.set{m r:Int}{ws:List Wy}{j:Nat}{v:Wy}(h:uK m ws)(e:ws[j]?=some v)(h0:0<=r):uK m (ws.set j ⟨v.s,v.t,r,v.h⟩):=⟨h.m0,h.m1,by simpa using h.len,λu y=>by
 rcases List.mem_or_eq_of_mem_set y with y|rfl;.exact h.ok u y
 .have ho:=h.ok v (mem_of_getElem? e);exact⟨ho.s0,ho.s1,ho.t0,ho.t1,h0,ho.h0,ho.h1⟩⟩
noncomputable abbrev En:=Int×Nat×(Option aC×Int)
variable{es vU:List En}
noncomputable def oS:Option aC->D|none=>.non|some s=>sD s
noncomputable def Cz(e:En):D:=.tup [.int e.2.2.2,.int (e.2.1:Int),oS e.2.2.1]
noncomputable def en(e:En):Int×D:=(e.1,Cz e)
noncomputable def nU(es:List En):D:=.dv (es.map (·.1)) (es.map Cz)
noncomputable def Av(p:Int):Int×D:=(p,.bl true)
@[simp]theorem TX{l:List Int}:Mg (l.map Av)=l:=by simp[Mg,Av,Function.comp_def]
theorem Ac{l:List En}:Mg (l.map en)=l.map (·.1):=by simp[Mg,en,Function.comp_def]
theorem Az{l:List En}:qX (l.map en) p=true↔∃n o,(p,n,o)∈l:=by show(Mg (l.map en)).contains p=true↔_;rw[Ac];simp
theorem kin_no{l:List En}(h:¬ ∃n o,(p,n,o)∈l):qX (l.map en) p=false:=by cases e:qX (l.map en) p with|false=>rfl|true=>exact absurd (Az.mp e) h
theorem v7{u:Type}{p:Int}{x y:u}:∀{l:List (Int×u)},(l.map (·.1)).Nodup->(p,x)∈l->(p,y)∈l->x=y
 |[],_,h,_=>by cases h|e::l,t,h1,h2=>by
   rw[map_cons,nodup_cons]at t;rcases mem_cons.mp h1 with h1|h1<;>rcases mem_cons.mp h2 with h2|h2;.rw[<-h2]at h1;cases h1;rfl
   .exact absurd (mem_map.mpr ⟨_,h2,by rw[<-h1]⟩) t.1
   .exact absurd (mem_map.mpr ⟨_,h1,by rw[<-h2]⟩) t.1
   .exact v7 t.2 h1 h2
theorem qT{p:Int}{x:Nat×(Option aC×Int)}:∀{l:List En},(l.map (·.1)).Nodup->(p,x)∈l->mX (l.map en) p=some (Cz (p,x))
 |[],_,h=>by cases h|e::l,t,h=>by
   have u:=t;rw[map_cons,nodup_cons]at t;unfold mX;rw[map_cons,find?_cons];by_cases c:e.1=p;.obtain⟨q,y⟩:=e;cases c;have:=v7 u h (by simp:(q,y)∈(q,y)::l);subst this;simp[en]
   . have h':(p,x)∈l:=by
      rcases mem_cons.mp h with h|h;.exact absurd (by rw[<-h]) c
      .exact h
     simp[en,c];have:=qT t.2 h';unfold mX at this;simpa[en]using this
theorem ur{kvs:List (Int×D)}{d:D}(h:qX kvs p=false):iD kvs p d=kvs++[(p,d)]:=by
 unfold iD;rw[if_neg];intro t;obtain⟨x,u,e⟩:=any_eq_true.mp t;have:qX kvs p=true:=by show(kvs.map (·.1)).contains p=true;rw[List.contains_iff_mem];exact mem_map.mpr ⟨x,u,by simpa using e⟩
 rw[this]at h;cases h
theorem zc{kvs:List (Int×D)}{d:D}(h:qX kvs p=true):iD kvs p d=kvs.map λe=>if e.1=p then(p,d)else e:=by
 unfold iD;rw[if_pos]
 . refine map_congr_left λe _=>?_;by_cases c:e.1=p;.simp[c]
   .simp[c]
 .have h':(kvs.map (·.1)).contains p=true:=h;rw[List.contains_iff_mem]at h';obtain⟨x,t,e⟩:=mem_map.mp h';exact any_eq_true.mpr ⟨x,t,by simpa using e⟩
noncomputable def yU(p:Int)(x:Nat×(Option aC×Int))(e:En):En:=if e.1=p then(p,x)else e
noncomputable def qu(es:List En)(p:Int)(x:Nat×(Option aC×Int)):List En:=if p∈es.map (·.1)then es.map (yU p x)else es++[(p,x)]
noncomputable def tD(ch:List Int)(p:Int):List Int:=if p∈ch then ch else ch++[p]
theorem Ou:iD (es.map en) p (Cz (p,x))=(qu es p x).map en:=by
 have h:qX (es.map en) p=true↔p∈es.map (·.1):=by show(Mg (es.map en)).contains p=true↔_;rw[Ac,List.contains_iff_mem]
 unfold qu;by_cases c:p∈es.map (·.1)
 . rw[if_pos c,zc (h.mpr c),map_map,map_map];refine map_congr_left λe _=>?_;show(if e.1=p then _ else _)=en (yU p x e);unfold yU;by_cases z:e.1=p;.rw[if_pos z,if_pos z];rfl
   .rw[if_neg z,if_neg z]
 .rw[if_neg c,ur (by cases e:qX (es.map en) p with|false=>rfl|true=>exact absurd (h.mp e) c)];simp[en]
theorem O6:iD (ch.map Av) p (.bl true)=(tD ch p).map Av:=by
 have h:qX (ch.map Av) p=true↔p∈ch:=by show(Mg (ch.map Av)).contains p=true↔_;rw[TX,List.contains_iff_mem]
 unfold tD;by_cases c:p∈ch
 . rw[if_pos c,zc (h.mpr c),map_map];refine map_congr_left λe _=>?_;show(if e=p then _ else _)=Av e;by_cases z:e=p;.rw[if_pos z,z];rfl
   .rw[if_neg z]
 .rw[if_neg c,ur (by cases e:qX (ch.map Av) p with|false=>rfl|true=>exact absurd (h.mp e) c)];simp[Av]
theorem yt{q:Int}:q∈tD ch p↔q∈ch\/q=p:=by
 unfold tD;split;.exact⟨.inl,λh=>h.elim id λe=>by rw[e];assumption⟩
 .simp
theorem Eb(h:ch.Nodup):(tD ch p).Nodup:=by
 unfold tD;split;.exact h
 .rename_i t;rw[nodup_append];exact⟨h,by simp,λa u b y e=>t (by rw[<-mem_singleton.mp y,<-e];exact u)⟩
theorem Ek:(qu es p x).map (·.1)=tD (es.map (·.1)) p:=by
 unfold qu tD;split
 . rw[map_map];refine map_congr_left λe _=>?_;show(yU p x e).1=e.1;unfold yU;split;.rename_i h;exact h.symm
   .rfl
 .simp
theorem iw{q:Int}{y:Nat×(Option aC×Int)}:(q,y)∈qu es p x↔(q=p/\y=x)\/(q≠p/\(q,y)∈es):=by
 unfold qu;split
 . rename_i t;obtain⟨C,u,z⟩:=mem_map.mp t;rw[mem_map];constructor
   . rintro⟨e,he,h⟩;unfold yU at h;split at h;.cases h;exact .inl ⟨rfl,rfl⟩
     .rename_i A;subst h;exact .inr ⟨A,he⟩
   . rintro(⟨rfl,rfl⟩|⟨h1,B⟩);.exact⟨C,u,by unfold yU;rw[if_pos z]⟩
     .exact⟨_,B,by unfold yU;rw[if_neg h1]⟩
 . rename_i t;rw[mem_append,mem_singleton];constructor
   . rintro(h|h);.refine .inr ⟨λe=>t ?_,h⟩;rw[<-e];exact mem_map.mpr ⟨_,h,rfl⟩
     .cases h;exact .inl ⟨rfl,rfl⟩
   . rintro(⟨rfl,rfl⟩|⟨_,B⟩);.exact .inr rfl
     .exact .inl B
theorem oH{h:Type}[BEq h][LawfulBEq h]:∀{l l2:List h},l.Nodup->(∀a∈l,a∈l2)->l.length<=l2.length
 |[],_,_,_=>wB|a::l,l2,z,hs=>by
   have u:=hs a (by simp);have e:=nodup_cons.mp z;have:=oH (l:=l) (l2:=l2.erase a) e.2 λb y=>by
    have t:b≠a:=by rintro rfl;exact e.1 y
    exact(List.mem_erase_of_ne t).mpr (hs b (by simp[y]))
   rw[List.length_erase_of_mem u]at this;have:=List.length_pos_of_mem u;simp only[length_cons];omega
theorem six{l:List Int}(m1:m<=6)(e:l.Nodup)(h:∀p∈l,0<=p/\p<m):l.length<=6:=by
 have:=oH (l2:=[0,1,2,3,4,5]) e λq t=>by
  have:=h q t;have:q=0\/q=1\/q=2\/q=3\/q=4\/q=5:=by omega
  simpa using this
 simpa using this
theorem sW{fs:List Int}(h:lK ws fs p s=true):∃v g,ws[s.1]?=some v/\fs[s.1]?=some g/\frm v s.2=p/\0<qG v g s.2:=by
 unfold lK at h;split at h;.rename_i v g e t;simp at h;exact⟨v,g,e,t,h.1,h.2⟩
 .cases h
theorem yz(h:s.1<N):s∈iV N:=by unfold iV;rw[List.mem_flatMap];refine⟨s.1,by simp[h],?_⟩;obtain⟨j,f⟩:=s;cases f<;>simp
noncomputable def jC(ws:List Wy)(b:Int):List aC->Int->Prop|[],a=>a=b|s::c,a=>∃v,ws[s.1]?=some v/\frm v s.2=a/\jC ws b c (too v s.2)
noncomputable def hst(ws:List Wy)(s:aC):Int:=match ws[s.1]?with|some v=>hsp v s.2|none=>0
theorem iU(e:ws[s.1]?=some v):hst ws s=hsp v s.2:=by unfold hst;rw[e]
noncomputable def cC(ws:List Wy):List aC->Int|[]=>0|s::c=>hst ws s+cC ws c
theorem lW{ws:List Wy}{c2:List aC}:∀{c1:List aC},cC ws (c1++c2)=cC ws c1+cC ws c2|[]=>by simp[cC]|s::c=>by rw[cons_append,cC,lW,cC];omega
noncomputable def u9(ws:List Wy)(fs:List Int)(c:List aC):Prop:=∀s∈c,∃v,ws[s.1]?=some v/\lK ws fs (frm v s.2) s=true
theorem jC.app{ws:List Wy}{b q:Int}{c2:List aC}(t:jC ws b c2 q):∀{c1:List aC}{a:Int},jC ws q c1 a->jC ws b (c1++c2) a|[],a,h=>by have:a=q:=h;rw[this];exact t|s::c,a,⟨v,e,u,h⟩=>⟨v,e,u,jC.app t h⟩
theorem CT{ws:List Wy}{b:Int}{c2:List aC}:∀{c1:List aC}{a:Int},jC ws b (c1++c2) a->∃q,jC ws q c1 a/\jC ws b c2 q|[],a,h=>⟨a,rfl,h⟩|s::c,a,⟨v,e,t,h⟩=>by obtain⟨q,h1,u⟩:=CT (c1:=c) h;exact⟨q,⟨v,e,t,h1⟩,u⟩
noncomputable def Pt(ws:List Wy)(fs:List Int)(F:Int->Int):Prop:=∀(s:aC)(v:Wy),ws[s.1]?=some v->lK ws fs (frm v s.2) s=true->F (too v s.2)<=F (frm v s.2)+hsp v s.2
theorem o6{ws:List Wy}{fs:List Int}{F:Int->Int}(h:Pt ws fs F){b:Int}:∀{c:List aC}{a:Int},jC ws b c a->u9 ws fs c->F b<=F a+cC ws c|[],a,t,_=>by have:a=b:=t;rw[this,cC];omega|s::c,a,⟨v,e,z,t⟩,ho=>by have h1:=o6 h t λu A=>ho u (mem_cons_of_mem _ A);obtain⟨C,y,o⟩:=ho s (by simp);rw[e]at y;cases y;have B:=h s v e o;rw[z]at B;rw[cC,iU e];omega
noncomputable def zK(ws:List Wy)(s:aC):Int:=match ws[s.1]?with|some v=>too v s.2|none=>0
noncomputable def yG(ws:List Wy):List aC->Int->List Int|[],a=>[a]|s::c,a=>a::yG ws c (zK ws s)
theorem DQ{ws:List Wy}:∀{c:List aC}{a:Int},(yG ws c a).length=c.length+1|[],_=>rfl|s::c,a=>by rw[yG,length_cons,DQ];rfl
theorem Ia{m:Int}{ws:List Wy}{b:Int}(t:HN m ws):∀{c:List aC}{a:Int},jC ws b c a->0<=a/\a<m->∀q∈yG ws c a,0<=q/\q<m
 |[],a,_,h,q,hq=>by rw[yG,mem_singleton]at hq;rw[hq];exact h|s::c,a,⟨v,e,y,u⟩,h,q,hq=>by
   rw[yG,mem_cons]at hq;rcases hq with rfl|hq;.exact h
   . have:zK ws s=too v s.2:=by unfold zK;rw[e]
     rw[this]at hq;exact Ia t u (Jq t e s.2) q hq
theorem BW{ws:List Wy}{b q:Int}:∀{c:List aC}{a:Int},jC ws b c a->q∈yG ws c a->∃c1 c2,c=c1++c2/\jC ws q c1 a/\jC ws b c2 q
 |[],a,h,hq=>by rw[yG,mem_singleton]at hq;exact⟨[],[],rfl,hq.symm,by rw[hq];exact h⟩|s::c,a,h,hq=>by
   rw[yG,mem_cons]at hq;rcases hq with rfl|hq;.exact⟨[],s::c,rfl,rfl,h⟩
   . obtain⟨v,e,t,u⟩:=h;have:zK ws s=too v s.2:=by unfold zK;rw[e]
     rw[this]at hq;obtain⟨c1,c2,rfl,h1,y⟩:=BW u hq;exact⟨s::c1,c2,rfl,⟨v,e,t,h1⟩,y⟩
theorem Cg{ws:List Wy}{b:Int}:∀{c:List aC}{a:Int},jC ws b c a->¬(yG ws c a).Nodup->∃c1 c2 c3 q,c=c1++(c2++c3)/\0<c2.length/\jC ws q c1 a/\jC ws q c2 q/\jC ws b c3 q
 |[],a,_,h=>absurd (by simp[yG]) h|s::c,a,⟨v,e,u,y⟩,h=>by
   have B:zK ws s=too v s.2:=by unfold zK;rw[e]
   rw[yG,B,nodup_cons]at h;by_cases A:a∈yG ws c (too v s.2);.obtain⟨c1,c2,rfl,h1,t⟩:=BW y A;exact⟨[],s::c1,c2,a,rfl,by simp,rfl,⟨v,e,u,h1⟩,t⟩
   .obtain⟨c1,c2,c3,q,rfl,h0,h1,t,C⟩:=Cg y λz=>h ⟨A,z⟩;exact⟨s::c1,c2,c3,q,rfl,h0,⟨v,e,u,h1⟩,t,C⟩
noncomputable def Le(h:Int)(n:Nat)(h':Int)(e:Nat):Prop:=h<h'\/(h=h'/\n<=e)
theorem Le.refl{h:Int}:Le h n h n:=.inr ⟨rfl,eG⟩
theorem Le.trans{c:Int}{k:Nat}(h1:Le a k b l)(e:Le b l c n):Le a k c n:=by unfold Le at*;omega
theorem Le.add{k:Nat}(x:Int)(h1:Le a k b l):Le (a+x) (k+1) (b+x) (l+1):=by unfold Le at*;omega
theorem short{fs:List Int}(z:HN m ws)(h:Pt ws fs F)(A:0<=a/\a<m):∀(n:Nat){c:List aC},c.length<=n->jC ws b c a->u9 ws fs c->∃e,jC ws b e a/\u9 ws fs e/\e.length<=5/\Le (cC ws e) e.length (cC ws c) c.length/\(yG ws e a).Nodup:=by
 intro n;have done:∀{c:List aC},jC ws b c a->(yG ws c a).Nodup->c.length<=5:=λt u=>by have:=six z.m1 u (Ia z t A);rw[DQ]at this;omega
 induction n with|zero=>intro c hc t ho;have:c=[]:=List.eq_nil_of_length_eq_zero (by omega);subst this;exact⟨[],t,ho,by simp,.refl,by simp[yG]⟩|succ n B=>
   intro c hc t ho;by_cases u:(yG ws c a).Nodup;.exact⟨c,t,ho,done t u,.refl,u⟩
   .obtain⟨c1,c2,c3,q,rfl,h0,h1,C,E⟩:=Cg t u;have y:u9 ws fs c2:=λs hs=>ho s (by simp[hs]);have hr:=o6 h C y;simp only[length_append]at hc;obtain⟨e,G,H,I,J,L⟩:=B (c:=c1++c3) (by simp only[length_append];omega) (jC.app E h1) λs hs=>ho s (by rcases mem_append.mp hs with hs|hs<;>simp[hs]);refine⟨e,G,H,I,J.trans ?_,L⟩;rw[lW,lW,lW];simp only[length_append];unfold Le;omega
structure Er(m:Int)(ws:List Wy)(fs:List Int)(bs:List (Int×Int))(es:List En):Prop where
 nd:(es.map (·.1)).Nodup
 inm:∀p l o,(p,l,o)∈es->0<=p/\p<m
 z:(0,0,(none,0))∈es
 wk:∀p l o,(p,l,o)∈es->∃a b c,(a,b)∈bs/\jC ws p c a/\u9 ws fs c/\c.length=l/\b+cC ws c=o.2
 stp:∀p l o,(p,l,o)∈es->(o.1=none/\(p,o.2)∈bs/\l=0)\/∃(s:aC)(v:Wy)(l':Nat)(o':Option aC×Int),o.1=some s/\ws[s.1]?=some v/\too v s.2=p/\lK ws fs (frm v s.2) s=true/\(frm v s.2,l',o')∈es/\Le (o'.2+hsp v s.2) (l'+1) o.2 l
theorem Er.len{fs:List Int}{bs:List (Int×Int)}(h:Er m ws fs bs es)(m1:m<=6):es.length<=6:=by
 have:=six m1 h.nd λp e=>by obtain⟨⟨p,l,o⟩,he,rfl⟩:=mem_map.mp e;exact h.inm p l o he
 simpa using this
theorem jX{l:List En}{a b:Nat}{u:Option aC×Int}(e:(l.map (·.1)).Nodup)(h1:(p,a,o)∈l)(h:(p,b,u)∈l):a=b/\o=u:=by have:=v7 e h1 h;cases this;exact⟨rfl,rfl⟩
noncomputable def At(es:List En)(p h:Int)(n:Nat):Prop:=∃l o,(p,l,o)∈es/\Le o.2 l h n
theorem At.le{h h':Int}{e:Nat}(a:At es p h n)(z:Le h n h' e):At es p h' e:=by obtain⟨l,o,h1,t⟩:=a;exact⟨l,o,h1,t.trans z⟩
structure Wh(m:Int)(ws:List Wy)(fs:List Int)(bs:List (Int×Int))(n:Nat)(R:List Int)(es:List En):Prop where
 cm:Er m ws fs bs es
 row:∀p∈R,∃l o,(p,l,o)∈es
 nr:R.Nodup
 wl:∀a b c p,(a,b)∈bs->jC ws p c a->u9 ws fs c->c.length<=n->At es p (b+cC ws c) c.length
 cl:∀l o(s:aC)v,ws[s.1]?=some v->frm v s.2∉R->(frm v s.2,l,o)∈es->lK ws fs (frm v s.2) s=true->At es (too v s.2) (o.2+hsp v s.2) (l+1)few:6<=n->R=[]
structure In(m:Int)(ws:List Wy)(fs:List Int)(bs:List (Int×Int))(n:Nat)(R:List Int)(vU:List En)(K:aC->Prop)(es:List En)(ch:List Int):Prop where
 wh:Wh m ws fs bs n R vU
 cm:Er m ws fs bs es
 le:∀p l o,(p,l,o)∈vU->At es p o.2 l
 out:∀p l o,p∉ch->(p,l,o)∈es->(p,l,o)∈vU
 chg:∀p∈ch,∃l o,(p,l,o)∈es
 nc:ch.Nodup
 dn:∀s,K s->∀v,ws[s.1]?=some v->∀l o,(frm v s.2,l,o)∈vU->At es (too v s.2) (o.2+hsp v s.2) (l+1)few:5<=n->ch=[]
theorem In.row{m:Int}{ws:List Wy}{fs:List Int}{bs:List (Int×Int)}{n:Nat}{R:List Int}{vU:List En}{K:aC->Prop}{es:List En}{ch:List Int}(h:In m ws fs bs n R vU K es ch){p:Int}(e:p∈R):∃l o,(p,l,o)∈es:=by obtain⟨l,o,z⟩:=h.wh.row p e;obtain⟨l,o,z,_⟩:=h.le _ _ _ z;exact⟨l,o,z⟩
theorem In.keep{fs:List Int}{bs:List (Int×Int)}{R:List Int}{K:aC->Prop}(h:In m ws fs bs n R vU K es ch)(e:ws[s.1]?=some v)(z:(frm v s.2,l,o)∈es)(A:At es (too v s.2) (o.2+hsp v s.2) (l+1)):In m ws fs bs n R vU (λu=>K u\/u=s) es ch:=by
 refine⟨h.wh,h.cm,h.le,h.out,h.chg,h.nc,λu t=>?_,h.few⟩;rcases t with t|rfl;.exact h.dn u t
 .intro E y G H h0;rw[e]at y;cases y;obtain⟨I,J,B,C⟩:=h.le _ _ _ h0;obtain⟨rfl,rfl⟩:=jX h.cm.nd z B;exact A.le (C.add _)
theorem In.put{fs:List Int}{bs:List (Int×Int)}{R:List Int}{K:aC->Prop}(h:In m ws fs bs n R vU K es ch)(J:HN m ws)(hF:Pt ws fs F)(hb:∀a b,(a,b)∈bs->0<=a/\a<m)(hZ:∀a b c,(a,b)∈bs->jC ws 0 c a->u9 ws fs c->0<=b+cC ws c)(e:ws[s.1]?=some v)(L:(frm v s.2,l,o)∈es)(ho:lK ws fs (frm v s.2) s=true)(M:¬ At es (too v s.2) (o.2+hsp v s.2) (l+1)):In m ws fs bs n R vU (λu=>K u\/u=s) (qu es (too v s.2) (l+1,(some s,o.2+hsp v s.2))) (tD ch (too v s.2)):=by
 have m0:=J.m0;obtain⟨C,b0,c,c0,c1,c2,c3,c4⟩:=h.cm.wk _ _ _ L;have G:jC ws (too v s.2) (c++[s]) C:=jC.app (c2:=[s]) ⟨v,e,rfl,rfl⟩ c1;have O:u9 ws fs (c++[s]):=λu hu=>by
  rcases mem_append.mp hu with hu|hu;.exact c2 u hu
  .rw[mem_singleton.mp hu];exact⟨v,e,ho⟩
 have Z:(c++[s]).length=l+1:=by simp[c3]
 have U:b0+cC ws (c++[s])=o.2+hsp v s.2:=by rw[lW,<-c4,cC,cC,iU e];omega
 have new:(too v s.2,l+1,(some s,o.2+hsp v s.2))∈qu es (too v s.2) (l+1,(some s,o.2+hsp v s.2)):=iw.mpr (.inl ⟨rfl,rfl⟩);have mono:∀{q l2 t},(q,l2,t)∈es->At (qu es (too v s.2) (l+1,(some s,o.2+hsp v s.2))) q t.2 l2:=λ{q l2 t}z=>by
  by_cases c:q=too v s.2;.subst c;refine⟨_,_,new,?_⟩;have:¬ Le t.2 l2 (o.2+hsp v s.2) (l+1):=λy=>M ⟨_,_,z,y⟩;unfold Le at this ⊢;simp only;omega
  .exact⟨l2,t,iw.mpr (.inr ⟨c,z⟩),.refl⟩
 have R1:∀{q h n},At es q h n->At (qu es (too v s.2) (l+1,(some s,o.2+hsp v s.2))) q h n:=λ⟨l2,t,E,W⟩=>(mono E).le W;refine⟨h.wh,⟨by rw[Ek];exact Eb h.cm.nd,λp l o z=>?_,?_,λp l2 t z=>?_,λp l2 t z=>?_⟩,λp l o z=>R1 (h.le p l o z),λp l o hc z=>?_,λp hc=>?_,Eb h.nc,λu hu=>?_,λh5=>?_⟩
 . rcases iw.mp z with⟨rfl,_⟩|⟨_,z⟩;.exact Jq J e s.2
   .exact h.cm.inm p l o z
 .refine iw.mpr (.inr ⟨λz=>M ?_,h.cm.z⟩);have:=hZ C b0 _ c0 (by rw[<-z]at G;exact G) O;rw[U]at this;rw[<-z];exact⟨_,_,h.cm.z,by unfold Le;simp only;omega⟩
 . rcases iw.mp z with⟨rfl,y⟩|⟨_,z⟩;.cases y;exact⟨C,b0,_,c0,G,O,Z,U⟩
   .exact h.cm.wk p l2 t z
 . rcases iw.mp z with⟨rfl,y⟩|⟨_,z⟩;.cases y;obtain⟨l',o',A,B⟩:=mono L;exact .inr ⟨s,v,l',o',rfl,e,rfl,ho,A,B.add _⟩
   . rcases h.cm.stp p l2 t z with z|⟨s',H,l',o',E,z3,z4,z5,z6,z7⟩;.exact .inl z
     .obtain⟨X,Y,A,B⟩:=mono z6;exact .inr ⟨s',H,X,Y,E,z3,z4,z5,A,(B.add _).trans z7⟩
 . rw[yt,not_or]at hc;rcases iw.mp z with⟨rfl,_⟩|⟨_,z⟩;.exact absurd rfl hc.2
   .exact h.out p l o hc.1 z
 . rcases yt.mp hc with hc|rfl;.obtain⟨l2,t,z⟩:=h.chg p hc;obtain⟨X,Y,z,_⟩:=mono z;exact⟨X,Y,z⟩
   .exact⟨_,_,new⟩
 . rcases hu with hu|rfl;.exact λH I l0 o0 h0=>R1 (h.dn u hu H I l0 o0 h0)
   .intro H I l0 o0 h0;rw[e]at I;cases I;obtain⟨l1,o1,A,B⟩:=h.le _ _ _ h0;obtain⟨rfl,rfl⟩:=jX h.cm.nd L A;exact⟨_,_,new,B.add _⟩
 .obtain⟨c',A,B,q3,q4,_⟩:=short J hF (hb C b0 c0) _ (eG) G O;obtain⟨l1,o1,E,W⟩:=h.wh.wl C b0 c' _ c0 A B (by omega);rw[Z]at q4;refine absurd ((h.le _ _ _ E).le (W.trans ?_)) M;rw[<-U];unfold Le at q4 ⊢;omega
noncomputable def bE(p:Int×Int):En:=(p.1,0,(none,p.2))
theorem Wh.start{fs:List Int}{bs:List (Int×Int)}(A:∀a b,(a,b)∈bs->0<=a/\a<m)(h0:(0,0)∈bs)(y:(bs.map (·.1)).Nodup):Wh m ws fs bs 0 (bs.map (·.1)) (bs.map bE):=by
 have B:(bs.map bE).map (·.1)=bs.map (·.1):=by rw[map_map];rfl
 have un:∀{p l o},(p,l,o)∈bs.map bE->l=0/\o.1=none/\(p,o.2)∈bs:=λ{p l o}z=>by obtain⟨⟨a,b⟩,h1,e⟩:=mem_map.mp z;cases e;exact⟨rfl,rfl,h1⟩
 have to:∀{a b},(a,b)∈bs->(a,0,(none,b))∈bs.map bE:=λh=>mem_map.mpr ⟨_,h,rfl⟩;refine⟨⟨by rw[B];exact y,λp l o z=>A _ _ (un z).2.2,to h0,λp l o z=>?_,λp l o z=>.inl ⟨(un z).2.1,(un z).2.2,(un z).1⟩⟩,λp t=>?_,y,λa b c p u t _ hc=>?_,λl o s v _ C z=>?_,λh=>by omega⟩;.exact⟨p,o.2,[],(un z).2.2,rfl,λs hs=>(by cases hs),(un z).1.symm,by rw[cC];omega⟩
 .obtain⟨⟨a,b⟩,h1,rfl⟩:=mem_map.mp t;exact⟨_,_,to h1⟩
 .cases c with|nil=>have:a=p:=t;subst this;exact⟨0,(none,b),to u,by unfold Le cC;simp⟩|cons _ _=>simp at hc
 .exact absurd (mem_map.mpr ⟨_,(un z).2.2,rfl⟩) C
theorem Wh.to{fs:List Int}{bs:List (Int×Int)}{R:List Int}(h:Wh m ws fs bs n R es):In m ws fs bs n R es (λ_=>False) es []:=⟨h,h.cm,λp l o z=>⟨l,o,z,.refl⟩,λp l o _ z=>z,λp e=>(by cases e),.nil,λs hs=>hs.elim,λ_=>rfl⟩
theorem In.out'{fs:List Int}{bs:List (Int×Int)}{R:List Int}(h:In m ws fs bs n R vU (λs=>∃p∈R,lK ws fs p s=true) es ch):Wh m ws fs bs (n+1) ch es:=by
 have t:∀{p h' k},At vU p h' k->At es p h' k:=λ⟨l,o,A,B⟩=>(h.le _ _ _ A).le B;have G:∀(s:aC)v l o,ws[s.1]?=some v->(frm v s.2,l,o)∈vU->lK ws fs (frm v s.2) s=true->At es (too v s.2) (o.2+hsp v s.2) (l+1):=λs v l o e z ho=>by
  by_cases c:frm v s.2∈R;.exact h.dn s ⟨_,c,ho⟩ v e l o z
  .exact t (h.wh.cl l o s v e c z ho)
 refine⟨h.cm,h.chg,h.nc,λa b c p y H ho hc=>?_,λl o s v e hc z hs=>G s v l o e (h.out _ _ _ hc z) hs,λO=>h.few (by omega)⟩;rcases List.eq_nil_or_concat c with rfl|⟨C,s,rfl⟩;.exact t (h.wh.wl a b [] p y H ho (wB))
 . rw[List.concat_eq_append]at*;obtain⟨q,h1,v,e,rfl,E⟩:=CT H;have E:too v s.2=p:=E;subst E;obtain⟨U,I,J⟩:=ho s (by simp);rw[e]at I;cases I;simp only[length_append,length_cons,length_nil]at hc;obtain⟨l,o,A,B⟩:=h.wh.wl a b C _ y h1 (λu L=>ho u (by simp[L])) (by omega);refine(G s v l o e A J).le ?_;have:=B.add (hsp v s.2);have M:cC ws (C++[s])=cC ws C+hsp v s.2:=by rw[lW,cC,cC,iU e];omega
   rw[M,<-Int.add_assoc];simpa using this
structure J5(m:Int)(ws:List Wy)(fs:List Int)(bs:List (Int×Int))(es:List En):Prop where
 cm:Er m ws fs bs es
 cl:∀l o(s:aC)v,ws[s.1]?=some v->(frm v s.2,l,o)∈es->lK ws fs (frm v s.2) s=true->At es (too v s.2) (o.2+hsp v s.2) (l+1)bg:∀a b,(a,b)∈bs->At es a b 0
theorem Wh.fin{fs:List Int}{bs:List (Int×Int)}(h:Wh m ws fs bs n [] es):J5 m ws fs bs es:=⟨h.cm,λl o s v e z ho=>h.cl l o s v e (by simp) z ho,λa b t=>by have:=h.wl a b [] a t rfl (λs hs=>by cases hs) (wB);simpa[cC]using this⟩
noncomputable abbrev Cme(m:Int)(ws:List Wy)(fs:List Int)(es:List En):Prop:=Er m ws fs [(0,0)] es
noncomputable abbrev ju(m:Int)(ws:List Wy)(fs:List Int)(es:List En):Prop:=J5 m ws fs [(0,0)] es
theorem In.imp{fs:List Int}{bs:List (Int×Int)}{R:List Int}{K e:aC->Prop}(h:In m ws fs bs n R vU K es ch)(z:∀s,e s->K s):In m ws fs bs n R vU e es ch:=⟨h.wh,h.cm,h.le,h.out,h.chg,h.nc,λs hs=>h.dn s (z s hs),h.few⟩
theorem Vy{fs:List Int}{l:List aC}(e:0<=p/\p<m):at' ((rD (jW ws fs m.toNat l)).map D.lst) p=some (.lst ((l.filter (lK ws fs p)).map sD)):=by rw[o4 e.1 (by simp[rD,jW];omega)];simp[rD,jW,show p.toNat<m.toNat by omega,Int.toNat_of_nonneg e.1]
@[simp]theorem cut3{a b c:D}:PB (.tup [a,b,c]) (part (.con .non) .non) (part (.con (.int 2)) (.int 2))=some (.val (.tup [a,b])):=rfl
theorem TJ{j:Int}:cm .lt (.tup [.int a,.int i]) (.tup [.int b,.int j])=some (bC [a,i] [b,j]):=rfl
theorem lex_lt{i:Nat}:bC [a,(i:Int)] [b,(j:Int)]=true↔¬ Le b j a i:=by unfold Le;simp[bC];omega
noncomputable def zA(bs:List (Int×Int)):Sl:=.val false (.dv (bs.map (·.1)) (bs.map λp=>.int p.2))
noncomputable abbrev bg:Sl:=zA [(0,0)]
inductive JC2(m:Int)(ws:List Wy)(fs:List Int)(bs:List (Int×Int))(a0 a1 a2 a3 a6:Sl)(n:Nat)(R:List Int)(vU:List En)(pre:List Int)(p:Int)(r:List D)(ρ:List Sl):Prop where|mk(es:List En)(ch:List Int)(cJ us:List aC)(s8 s9 jj:Sl)(q0:ρ=[a0,a1,a2,a3,.dC (es.map en),.val false (.int p),a6,.dC (ch.map Av),s8,s9,jj])(q1:A3 (fr s8=true) (fr s9=true) (fr jj=true))(q2:r=us.map sD)(q3:cJ++us=(iV ws.length).filter (lK ws fs p))(q4:In m ws fs bs n R vU (λs=>(∃q∈pre,lK ws fs q s=true)\/s∈cJ) es ch)
inductive JC1(m:Int)(ws:List Wy)(fs:List Int)(bs:List (Int×Int))(a0 a1 a2 a3 a6:Sl)(n:Nat)(R:List Int)(vU:List En)(r:List D)(ρ:List Sl):Prop where|mk(es:List En)(ch pre qs:List Int)(s5 s8 s9 jj:Sl)(q0:ρ=[a0,a1,a2,a3,.dC (es.map en),s5,a6,.dC (ch.map Av),s8,s9,jj])(q1:A4 (fr s5=true) (fr s8=true) (fr s9=true) (fr jj=true))(q2:r=qs.map D.int)(q3:pre++qs=R)(q4:In m ws fs bs n R vU (λs=>∃q∈pre,lK ws fs q s=true) es ch)
inductive JCw(m:Int)(ws:List Wy)(fs:List Int)(bs:List (Int×Int))(a0 a1 a2 a3:Sl)(M:Nat)(ρ:List Sl):Prop where|mk(n:Nat)(R:List Int)(es:List En)(s5 s7 s8 s9 jj:Sl)(q0:ρ=[a0,a1,a2,a3,.dC (es.map en),s5,.own false (R.map D.int),s7,s8,s9,jj])(q1:A4 (fr s5=true) (fr s8=true) (fr s9=true) (fr jj=true))(q2:(s7=.aQ\/∃d,s7=.val false d))(q3:Wh m ws fs bs n R es)(q4:7<=n+M)
inductive JC0(a0 a1 a2 a3:Sl)(bs:List (Int×Int))(r:List D)(ρ:List Sl):Prop where|mk(cJ us:List (Int×Int))(s5:Sl)(q0:ρ=[a0,a1,a2,a3,.dC ((cJ.map bE).map en),s5,.aQ,.aQ,.aQ,.aQ,.aQ])(q1:fr s5=true)(q2:r=(us.map (·.1)).map D.int)(q3:cJ++us=bs)
theorem DN{a b:Int}:∀{bs:List (Int×Int)},(bs.map (·.1)).Nodup->(a,b)∈bs->mX ((bs.map (·.1)).zip (bs.map λp=>D.int p.2)) a=some (.int b)
 |[],_,h=>by cases h|p::bs,e,h=>by
   rw[map_cons,nodup_cons]at e;unfold mX;rw[map_cons,map_cons,List.zip_cons_cons,find?_cons];rcases mem_cons.mp h with h|h;.subst h;simp
   .have t:p.1≠a:=λz=>e.1 (by rw[z];exact mem_map.mpr ⟨_,h,rfl⟩);have:=DN e.2 h;unfold mX at this;simpa[t]using this
theorem Fx{s:Sl}{fs:List Int}{bs:List (Int×Int)}(hw:100<=w)(hF:Pt ws fs F)(hb:∀a b,(a,b)∈bs->0<=a/\a<m)(h0:(0,0)∈bs)(J:(bs.map (·.1)).Nodup)(hZ:∀a b c,(a,b)∈bs->jC ws 0 c a->u9 ws fs c->0<=b+cC ws c)(hs:ZX s fs)(h:HN m ws)(hf:fs.length=ws.length)(k:∀es,J5 m ws fs bs es->Q (.val (nU es)) [.val false (aZ m ws),s,zA bs]):(run Γ w (n+3) 5 [.val false (aZ m ws),s,zA bs]).sat Q:=by
 have hn:=h.len;have m0:=h.m0;have m1:=h.m1;refine aO (d:=f5) rfl rfl (by decide) ?_;refine dJ (λρ=>ρ=[.val false (aZ m ws),s,zA bs,.val false (.lst ((rD (jW ws fs m.toNat (iV ws.length))).map D.lst)),.aQ,.aQ,.aQ,.aQ,.aQ,.aQ,.aQ]) ?_ ?_;.have ay:=hs;rcases hs with rfl|⟨b,rfl⟩;all_goals simp[f5,zA];refine Jh (by first|exact .inl rfl|exact .inr ⟨_,rfl⟩) h hf ?_;simp
 rintro _ rfl;generalize hA:((rD (jW ws fs m.toNat (iV ws.length))).map D.lst)=A;have aE:bs.length<=6:=by
  have:=six m1 J λp hp=>by obtain⟨⟨a,b⟩,h1,rfl⟩:=mem_map.mp hp;exact hb a b h1
  simpa using this
 apply ak;simp;apply ak;simp[zA];refine cA (JC0 (.val false (aZ m ws)) s (zA bs) (.val false (.lst A)) bs) ?_ ?_ ⟨[],bs,.aQ,rfl,rfl,by rw[map_map],rfl⟩;.rintro d r _⟨G,C,s5,rfl,U,hr,hd⟩;cases C with|nil=>cases hr|cons u C=>
     obtain⟨rfl,rfl⟩:d=.int u.1/\r=(C.map (·.1)).map D.int:=by simpa using hr
     have al:(G++[u])++C=bs:=by rw[append_assoc];exact hd
     have hg:=DN (a:=u.1) (b:=u.2) J (by rw[<-hd];simp);have hk:qX ((G.map bE).map en) u.1=false:=kin_no λ⟨l,o,z⟩=>by obtain⟨⟨a,b⟩,h1,e⟩:=mem_map.mp z;cases e;rw[<-hd,map_append,nodup_append]at J;exact J.2.2 u.1 (mem_map.mpr ⟨_,h1,rfl⟩) u.1 (by simp) rfl
     have hp:iD ((G.map bE).map en) u.1 (.tup [.int u.2,.int 0,.non])=((G++[u]).map bE).map en:=by rw[ur hk,map_append,map_append];rfl
     have aI:G.length<=bs.length:=by rw[<-hd];simp
     simp[U];apply ak;rw[map_map]at hp;simp[zA,hg];refine⟨λ_=>⟨G++[u],C,.val false (.int u.1),by rw[hp],rfl,(map_map ..).symm,al⟩,by show _<16777216;omega⟩
 rintro _⟨G,C,s5,rfl,U,hr,hd⟩;have:C=[]:=by cases C with|nil=>rfl|cons _ _=>cases hr
 subst this;rw[append_nil]at hd;obtain rfl:bs=G:=hd.symm;simp;apply ak;simp[zA,show bs.length<=16777216 by omega];apply ak;simp;rw[show map (en ∘ bE) bs=(bs.map bE).map en from(map_map ..).symm,show map (D.int ∘ λx=>x.1) bs=(bs.map (·.1)).map D.int from(map_map ..).symm];refine j7 (JCw m ws fs bs _ _ _ _) ?_ (k:=w) (m:=50) (by omega) ⟨0,bs.map (·.1),bs.map bE,s5,.aQ,.aQ,.aQ,.aQ,rfl,⟨U,rfl,rfl,rfl⟩,.inl rfl,Wh.start hb h0 J,by omega⟩;rintro M _⟨n',R,es,s5,s7,s8,s9,jj,rfl,⟨U,W,X,E⟩,h7,hW,hM⟩;by_cases hR:R=[];.subst hR;simp;apply ak;simp;have:=k es hW.fin;simp[Function.comp_def,en];exact this
 . have am:0<R.length:=by cases R with|nil=>exact absurd rfl hR|cons _ _=>simp
   simp[am];refine dJ (λρ=>ρ=[.val false (aZ m ws),s,zA bs,.val false (.lst A),.dC (es.map en),s5,.own false (R.map D.int),.dC [],s8,s9,jj]) ?_ ?_
   . rcases h7 with rfl|⟨d,rfl⟩;.simp[zA]
     .simp[zA]
   rintro _ rfl;symm;simp;refine cA (JC1 m ws fs bs _ _ _ _ _ n' R es) ?_ ?_ ⟨es,[],[],R,s5,s8,s9,jj,rfl,⟨U,W,X,E⟩,rfl,rfl,hW.to.imp λs hs=>by obtain⟨q,hq,_⟩:=hs;cases hq⟩;.rintro d r _⟨t,ch,pre,qs,s5,s8,s9,jj,rfl,⟨U,W,X,E⟩,hr,L,B⟩;cases qs with|nil=>cases hr|cons p qs=>
       obtain⟨rfl,rfl⟩:d=.int p/\r=qs.map D.int:=by simpa using hr
       have af:p∈R:=by rw[<-L];simp
       have ap:0<=p/\p<m:=by obtain⟨l,o,ho⟩:=B.row af;exact B.cm.inm _ _ _ ho
       have Z:=Vy (ws:=ws) (fs:=fs) (l:=iV ws.length) ap;rw[hA]at Z;simp[U];apply ak;simp[Z];refine cA (JC2 m ws fs bs _ _ _ _ _ n' R es pre p) ?_ ?_ ⟨t,ch,[],_,s8,s9,jj,rfl,⟨W,X,E⟩,rfl,rfl,B.imp λs hs=>by rcases hs with hs|hs;exact hs;cases hs⟩;.rintro d r _⟨t,ch,G,C,s8,s9,jj,rfl,⟨W,X,E⟩,hr,O,B⟩;cases C with|nil=>cases hr|cons u C=>
           obtain⟨rfl,rfl⟩:d=sD u/\r=C.map sD:=by simpa using hr
           have hu:lK ws fs p u=true:=by
            have:u∈(iV ws.length).filter (lK ws fs p):=by rw[<-O];simp
            exact(mem_filter.mp this).2
           obtain⟨v,g,e1,e2,e3,e4⟩:=sW hu;have ag:(G++[u])++C=(iV ws.length).filter (lK ws fs p):=by rw[append_assoc];exact O
           obtain⟨I,op,ac⟩:=B.row af;subst e3;have gp:=qT B.cm.nd ac;have aw:=B.cm.len m1;have ar:ch.length<=6:=six m1 B.nc λq hq=>by obtain⟨l,o,z⟩:=B.chg q hq;exact B.cm.inm _ _ _ z
           have ah:∀s,((∃q∈pre,lK ws fs q s=true)\/s∈G++[u])->((∃q∈pre,lK ws fs q s=true)\/s∈G)\/s=u:=λs hs=>by
            rcases hs with hs|hs;.exact .inl (.inl hs)
            . rcases mem_append.mp hs with hs|hs;.exact .inl (.inr hs)
              .exact .inr (by simpa using hs)
           simp[W];apply ak;simp[sD];refine mO e1 ?_;simp[X];apply ak;simp[gp,Cz];refine vz e1 ?_;simp[gp,Cz,E];apply ak;have keep:At t (too v u.2) (op.2+hsp v u.2) (I+1)->JC2 m ws fs bs (.val false (aZ m ws)) s (zA bs) (.val false (.lst A)) (.lent (R.map D.int)) n' R es pre (frm v u.2) (C.map sD) [.val false (aZ m ws),s,zA bs,.val false (.lst A),.dC (t.map en),.val false (.int (frm v u.2)),.lent (R.map D.int),.dC (ch.map Av),.val false (gj u.1 u.2),.val false (.int (too v u.2)),.val false (.tup [.int (op.2+hsp v u.2),.int ((I:Int)+1)])]:=λH=>⟨t,ch,G++[u],C,_,_,_,rfl,⟨rfl,rfl,rfl⟩,rfl,ag,(B.keep e1 ac H).imp ah⟩;have ai:¬ At t (too v u.2) (op.2+hsp v u.2) (I+1)->JC2 m ws fs bs (.val false (aZ m ws)) s (zA bs) (.val false (.lst A)) (.lent (R.map D.int)) n' R es pre (frm v u.2) (C.map sD) [.val false (aZ m ws),s,zA bs,.val false (.lst A),.dC ((qu t (too v u.2) (I+1,(some u,op.2+hsp v u.2))).map en),.val false (.int (frm v u.2)),.lent (R.map D.int),.dC ((tD ch (too v u.2)).map Av),.val false (gj u.1 u.2),.val false (.int (too v u.2)),.val false (.tup [.int (op.2+hsp v u.2),.int ((I:Int)+1)])]:=λH=>⟨_,_,G++[u],C,_,_,_,rfl,⟨rfl,rfl,rfl⟩,rfl,ag,(B.put h hF hb hZ e1 ac hu H).imp ah⟩;have p1:iD (t.map en) (too v u.2) (.tup [.int (op.2+hsp v u.2),.int ((I:Int)+1),gj u.1 u.2])=(qu t (too v u.2) (I+1,(some u,op.2+hsp v u.2))).map en:=by rw[<-Ou];simp[Cz,oS,sD]
           have p2:iD (ch.map Av) (too v u.2) (.bl true)=(tD ch (too v u.2)).map Av:=O6;by_cases hq:∃l o,(too v u.2,l,o)∈t
           . obtain⟨l,o,Y⟩:=hq;have gt:=qT B.cm.nd Y;have kt:qX (t.map en) (too v u.2)=true:=Az.mpr ⟨l,o,Y⟩;have ae:=lex_lt (a:=op.2+hsp v u.2) (i:=I+1) (b:=o.2) (j:=l);rw[show((I+1:Nat):Int)=(I:Int)+1 by omega]at ae;simp[kt,gt,Cz,TJ];refine⟨λz=>?_,λz=>?_⟩
             . have H:¬ At t (too v u.2) (op.2+hsp v u.2) (I+1):=λ⟨l2,o2,y1,y2⟩=>by obtain⟨rfl,rfl⟩:=jX B.cm.nd Y y1;exact ae.mp z y2
               symm;simp[p1];refine⟨by decide,λ_=>?_,by show _<16777216;omega⟩;symm;simp[p2];refine⟨λ_=>ai H,by show _<16777216;omega⟩
             . have H:At t (too v u.2) (op.2+hsp v u.2) (I+1):=by
                refine⟨l,o,Y,?_⟩;by_cases y:Le o.2 l (op.2+hsp v u.2) (I+1);.exact y
                .rw[ae.mpr y]at z;cases z
               exact keep H
           .have kt:qX (t.map en) (too v u.2)=false:=kin_no hq;simp[kt];apply ak;simp[p1];refine⟨by decide,λ_=>?_,by show _<16777216;omega⟩;symm;simp[p2];exact⟨λ_=>ai λ⟨l2,o2,y1,_⟩=>hq ⟨l2,o2,y1⟩,by show _<16777216;omega⟩
       . rintro _⟨t,ch,G,C,s8,s9,jj,rfl,⟨W,X,E⟩,hr,O,B⟩;have:C=[]:=by cases C with|nil=>rfl|cons _ _=>cases hr
         subst this;rw[append_nil]at O;simp;refine⟨t,ch,pre++[p],qs,_,_,_,_,rfl,⟨rfl,W,X,E⟩,rfl,by rw[append_assoc];exact L,B.imp λs hs=>?_⟩;obtain⟨q,hq,hs⟩:=hs;rcases mem_append.mp hq with hq|hq;.exact .inl ⟨q,hq,hs⟩
         . obtain rfl:q=p:=by simpa using hq
           refine .inr ?_;rw[O];obtain⟨v,g,e1,_⟩:=sW hs;exact mem_filter.mpr ⟨yz (eV e1).1,hs⟩
   . rintro _⟨t,ch,pre,qs,s5,s8,s9,jj,rfl,⟨U,W,X,E⟩,hr,L,B⟩;have:qs=[]:=by cases qs with|nil=>rfl|cons _ _=>cases hr
     subst this;rw[append_nil]at L;subst L;have ar:ch.length<=6:=six m1 B.nc λq hq=>by obtain⟨l,o,z⟩:=B.chg q hq;exact B.cm.inm _ _ _ z
     have hO:=B.out';have aS:n'<6:=by
      by_cases c:6<=n';.exact absurd (hW.few c) hR
      .omega
     simp;apply ak;simp[show ch.length<=16777216 by omega];exact⟨M-1,by omega,n'+1,ch,t,_,_,_,_,_,rfl,⟨U,W,X,E⟩,.inr ⟨_,rfl⟩,hO,by omega⟩
theorem yx{s:Sl}{fs:List Int}(u:100<=w)(t:Pt ws fs F)(hs:ZX s fs)(h:HN m ws)(y:fs.length=ws.length)(k:∀es,ju m ws fs es->Q (.val (nU es)) [.val false (aZ m ws),s,bg]):(run Γ w (n+3) 5 [.val false (aZ m ws),s,bg]).sat Q:=by
 have m0:=h.m0;have one:∀{a b:Int},(a,b)∈[((0:Int),(0:Int))]->a=0/\b=0:=λe=>by have:=mem_singleton.mp e;cases this;exact⟨rfl,rfl⟩
 refine Fx u t (λa b e=>by obtain⟨rfl,rfl⟩:=one e;omega) (by simp) (by simp) (λa b c e z ho=>?_) hs h y k;obtain⟨rfl,rfl⟩:=one e;have:=o6 t z ho;omega
theorem ju.all{m:Int}{ws:List Wy}{fs:List Int}{es:List En}(h:ju m ws fs es){b:Int}:∀{c:List aC}{a:Int}{l:Nat}{o:Option aC×Int},jC ws b c a->u9 ws fs c->(a,l,o)∈es->At es b (o.2+cC ws c) (l+c.length)|[],a,l,o,t,_,z=>by have:a=b:=t;subst this;exact⟨l,o,z,by unfold Le cC;simp⟩|s::c,a,l,o,⟨v,e,A,t⟩,ho,z=>by subst A;obtain⟨J,y,B⟩:=ho s (by simp);rw[e]at y;cases y;obtain⟨L,M,C,O⟩:=h.cl l o s v e z B;obtain⟨l2,E,G,H⟩:=ju.all h t (λu I=>ho u (mem_cons_of_mem _ I)) C;refine⟨l2,E,G,H.trans ?_⟩;rw[cC,iU e,length_cons];unfold Le at*;omega
theorem ju.l5{fs:List Int}(h:ju m ws fs es)(t:HN m ws)(u:Pt ws fs F)(z:(p,l,o)∈es):l<=5:=by
 have m0:=t.m0;obtain⟨a,b,c,e,c1,c2,c3,c4⟩:=h.cm.wk p l o z;obtain⟨rfl,rfl⟩:a=0/\b=0:=by have:=mem_singleton.mp e;cases this;exact⟨rfl,rfl⟩
 obtain⟨G,y,A,H,B,_⟩:=short t u ⟨by omega,by omega⟩ _ (eG) c1 c2;obtain⟨l2,I,C,E⟩:=h.all y A h.cm.z;obtain⟨rfl,rfl⟩:=jX h.cm.nd z C;rw[Int.zero_add]at c4;rw[c3,c4]at B;unfold Le at*;simp only at E;omega
theorem ju.on{fs:List Int}(h:ju m ws fs es)(z:(p,l,o)∈es):(o=(none,0)/\p=0/\l=0)\/∃(s:aC)(v:Wy)(t:Nat)(e:Option aC×Int),o=(some s,e.2+hsp v s.2)/\l=t+1/\ws[s.1]?=some v/\too v s.2=p/\lK ws fs (frm v s.2) s=true/\(frm v s.2,t,e)∈es:=by
 rcases h.cm.stp p l o z with⟨h1,u,rfl⟩|⟨s,v,t,e,h1,y,rfl,A,B,E⟩
 . obtain⟨rfl,_⟩:p=0/\o.2=0:=by have:=mem_singleton.mp u;exact⟨congrArg Prod.fst this,congrArg Prod.snd this⟩
   exact .inl ⟨(jX h.cm.nd z h.cm.z).2,rfl,rfl⟩
 . obtain⟨l2,G,C,H⟩:=h.cl t e s v y B A;obtain⟨rfl,rfl⟩:=jX h.cm.nd z C;refine .inr ⟨s,v,t,e,?_,?_,y,rfl,A,B⟩;.exact Prod.ext_iff.mpr ⟨h1,by show _=e.2+hsp v s.2;unfold Le at*;omega⟩
   .unfold Le at*;omega
structure QD(ws:List Wy)(fs:List Int)(es:List En)(p:Int)(L:Nat)(H:Int)(a:Int)(l:Nat)(h:Int)(c:List aC):Prop where
 Lx:jC ws p c a
 jW:u9 ws fs c
 nd:(c.map (·.1)).Nodup
 lv:∀s∈c,∀v,ws[s.1]?=some v->∃l1 o1 o2,(frm v s.2,l1,o1)∈es/\(too v s.2,l1+1,o2)∈es/\l<=l1
 len:c.length+l=L
 hrs:cC ws c+h=H
theorem nR{g:Bool}(h:g≠f):frm v g=too v f/\too v g=frm v f:=by cases f<;>cases g<;>first|exact absurd rfl h|exact⟨rfl,rfl⟩
theorem QD.cons{m:Int}{ws:List Wy}{fs:List Int}{es:List En}{p:Int}{L l:Nat}{H x:Int}{c:List aC}{s:aC}{v:Wy}{o I:Option aC×Int}(hc:Cme m ws fs es)(h:QD ws fs es p L H (too v s.2) (l+1) (x+hsp v s.2) c)(e:ws[s.1]?=some v)(h1:(too v s.2,l+1,o)∈es)(B:(frm v s.2,l,I)∈es)(ho:lK ws fs (frm v s.2) s=true):QD ws fs es p L H (frm v s.2) l x (s::c):=by
 refine⟨⟨v,e,rfl,h.Lx⟩,λu hu=>?_,?_,λu hu x ex=>?_,by have:=h.len;simp only[length_cons];omega,by have:=h.hrs;rw[cC,iU e];omega⟩
 . rcases mem_cons.mp hu with rfl|hu;.exact⟨v,e,ho⟩
   .exact h.jW u hu
 . rw[map_cons,nodup_cons];refine⟨λJ=>?_,h.nd⟩;obtain⟨t,ht,M⟩:=mem_map.mp J;obtain⟨C,E,G,y,A,O⟩:=h.lv t ht v (by rw[M];exact e);by_cases z:t.2=s.2;.rw[z]at y;have:=(jX hc.nd y B).1;omega
   .rw[(nR z).2]at A;have:=(jX hc.nd A B).1;omega
 . rcases mem_cons.mp hu with rfl|hu;.rw[e]at ex;cases ex;exact⟨l,_,_,B,h1,eG⟩
   .obtain⟨C,E,G,y,A,O⟩:=h.lv u hu x ex;exact⟨C,E,G,y,A,by omega⟩
theorem K5(e:(es.map (·.1)).Nodup)(h:(p,x)∈es):mX ((es.map (·.1)).zip (es.map Cz)) p=some (Cz (p,x)):=by
 have:(es.map (·.1)).zip (es.map Cz)=es.map en:=by rw[List.zip_map'];rfl
 rw[this];exact qT e h
inductive JSt(m:Int)(ws:List Wy)(fs:List Int)(es:List En)(p:Int)(L:Nat)(H:Int)(a0 a1 a2:Sl)(M:Nat)(ρ:List Sl):Prop where|mk(a:Int)(l:Nat)(o:Option aC×Int)(c:List aC)(s5:Sl)(q0:ρ=[a0,a1,a2,.own false (c.reverse.map sD),.val false (.int a),s5])(q1:fr s5=true)(q2:(a,l,o)∈es)(q3:QD ws fs es p L H a l o.2 c)(q4:l<=M)
theorem Gq{L:Nat}{fs:List Int}(G:100<=w)(h:ju m ws fs es)(H:L<=5)(B:(p,L,o)∈es)(k:∀c,QD ws fs es p L o.2 0 0 0 c->Q (.val (.tup (c.map sD))) [.val false (aZ m ws),.val false (nU es),.val false (.int p)]):(run Γ w (n+2) 6 [.val false (aZ m ws),.val false (nU es),.val false (.int p)]).sat Q:=by
 refine aO (d:=f6) rfl rfl (by decide) ?_;symm;simp[f6];apply ak;simp;apply ak;simp;refine j7 (JSt m ws fs es p L o.2 _ _ _) ?_ (k:=w) (m:=L) (by omega) ⟨p,L,o,[],.aQ,rfl,rfl,B,⟨rfl,λs hs=>(by cases hs),by simp,by simp,by simp,by rw[cC];omega⟩,eG⟩;rintro M _⟨a,l,I,c,s5,rfl,C,t,hc,J⟩;have u:=K5 h.cm.nd t;rcases h.on t with⟨rfl,rfl,rfl⟩|⟨s,v,z,E,rfl,rfl,e,rfl,ho,A⟩;.simp[nU,u,Cz,oS];symm;simp;exact k c hc
 . simp[nU,u,Cz,oS,sD,gj];symm;simp[u,Cz,oS,C];apply ak;have y:c.length<16777216:=by have:=hc.len;omega
   simp[y];apply ak;simp[sD];refine mO e ?_;simp;exact⟨z,by omega,frm v s.2,z,E,s::c,.val false (gj s.1 s.2),by simp[nU,sD],rfl,A,hc.cons h.cm e t A ho,eG⟩
noncomputable def sg(x:Int)(f:Bool):Int:=if f then x else-x
noncomputable def nj(x:Int)(fs:List Int)(s:aC):List Int:=fs.set s.1 ((fs[s.1]?.getD 0)+sg x s.2)
noncomputable def aug(x:Int)(fs:List Int)(c:List aC):List Int:=c.foldl (nj x) fs
@[simp]theorem yo{x:Int}{fs:List Int}{s:aC}:(nj x fs s).length=fs.length:=by simp[nj]
theorem wL{x:Int}:∀{c:List aC}{fs:List Int},(aug x fs c).length=fs.length|[],_=>rfl|s::c,fs=>by show(aug x (nj x fs s) c).length=_;rw[wL,yo]
theorem rE{x:Int}{j:Nat}:∀{c:List aC}{fs:List Int},j∉c.map (·.1)->(aug x fs c)[j]?=fs[j]?|[],_,_=>rfl|s::c,fs,h=>by rw[map_cons,mem_cons,not_or]at h;show(aug x (nj x fs s) c)[j]?=_;rw[rE h.2];unfold nj;rw[getElem?_set_ne (λz=>h.1 z.symm)]
theorem Bh{x:Int}:∀{c:List aC}{fs:List Int}{s:aC}{g:Int},(c.map (·.1)).Nodup->s∈c->fs[s.1]?=some g->(aug x fs c)[s.1]?=some (g+sg x s.2)
 |[],_,_,_,_,h,_=>by cases h|t::c,fs,s,g,u,h,e=>by
   rw[map_cons,nodup_cons]at u;show(aug x (nj x fs t) c)[s.1]?=_;have y:=(eV e).1;rcases mem_cons.mp h with rfl|h;.rw[rE u.1];unfold nj;rw[getElem?_set_self y,e];rfl
   .refine Bh u.2 h ?_;unfold nj;rw[getElem?_set_ne (λz=>u.1 (by rw[z];exact mem_map.mpr ⟨s,h,rfl⟩))];exact e
inductive JWt(x:Int)(fs:List Int)(c:List aC)(a0 a1 a2:Sl)(r:List D)(ρ:List Sl):Prop where|mk(cJ us:List aC)(s4 s5:Sl)(q0:ρ=[a0,a1,a2,.own false ((aug x fs cJ).map D.int),s4,s5])(q1:fr s4=true)(q2:fr s5=true)(q3:r=us.map sD)(q4:cJ++us=c)
theorem J2{s:Sl}{x:Int}{fs:List Int}(hs:ZX s fs)(hc:∀s∈c,s.1<fs.length)(k:Q (.own ((aug x fs c).map D.int)) [s,.val false (.tup (c.map sD)),.val false (.int x)]):(run Γ w (n+1) 7 [s,.val false (.tup (c.map sD)),.val false (.int x)]).sat Q:=by
 refine aO (d:=f7) rfl rfl (by decide) ?_;refine dJ (λρ=>ρ=[s,.val false (.tup (c.map sD)),.val false (.int x),.own false (fs.map D.int),.aQ,.aQ]) ?_ ?_;.rcases hs with rfl|⟨b,rfl⟩;all_goals simp[f7]
 rintro _ rfl;symm;simp;refine cA (JWt x fs c _ _ _) ?_ ?_ ⟨[],c,.aQ,.aQ,rfl,rfl,rfl,rfl,rfl⟩;.rintro d r _⟨e,h,s4,s5,rfl,z,A,hr,hd⟩;cases h with|nil=>cases hr|cons u h=>
     obtain⟨rfl,rfl⟩:d=sD u/\r=h.map sD:=by simpa using hr
     have C:u.1<(aug x fs e).length:=by rw[wL];exact hc u (by rw[<-hd];simp)
     have y:(aug x fs e)[u.1]?=some (aug x fs e)[u.1]:=by simp[C]
     have B:j9 (aug x fs e).length (u.1:Int)=some u.1:=by unfold j9;rw[if_pos (by omega),if_pos (by omega)];simp
     have he:aug x fs (e++[u])=(aug x fs e).set u.1 ((aug x fs e)[u.1]+sg x u.2):=by unfold aug;rw[List.foldl_append];show nj x (aug x fs e) u=_;unfold nj;rw[y];rfl
     have t:(e++[u])++h=c:=by rw[append_assoc];exact hd
     generalize(aug x fs e)[u.1]=g at*;simp[sD,gj,z,A];apply ak;obtain⟨j,f⟩:=u;cases f with|true=>simp[fB y,B];exact⟨e++[(j,true)],h,_,_,by rw[he,map_set];rfl,rfl,rfl,rfl,t⟩|false=>simp[fB y,B];exact⟨e++[(j,false)],h,_,_,by rw[he,map_set];rfl,rfl,rfl,rfl,t⟩
 . rintro _⟨e,h,s4,s5,rfl,z,A,hr,hd⟩;have:h=[]:=by cases h with|nil=>rfl|cons _ _=>cases hr
   subst this;rw[append_nil]at hd;subst hd;simp;apply ak;simp;exact k
noncomputable def GP(F:Int->Int)(D:Int):List En->Int->Int|[],p=>F p+D|e::es,p=>if e.1=p then e.2.2.2 else GP F D es p
theorem jH{F:Int->Int}{D p:Int}{l:Nat}{o:Option aC×Int}:∀{es:List En},(es.map (·.1)).Nodup->(p,l,o)∈es->GP F D es p=o.2
 |[],_,h=>by cases h|e::es,t,h=>by
   rw[map_cons,nodup_cons]at t;rw[GP];rcases mem_cons.mp h with rfl|h;.rw[if_pos rfl]
   .rw[if_neg (λz=>t.1 (by rw[z];exact mem_map.mpr ⟨_,h,rfl⟩))];exact jH t.2 h
theorem qN{F:Int->Int}{D p:Int}:∀{es:List En},(¬ ∃l o,(p,l,o)∈es)->GP F D es p=F p+D|[],_=>rfl|e::es,h=>by rw[GP,if_neg (λz=>h ⟨e.2.1,e.2.2,by rw[<-z];simp⟩)];exact qN λ⟨l,o,z⟩=>h ⟨l,o,mem_cons_of_mem _ z⟩
theorem Dn(F:Int->Int):∀(es:List En),∃D,∀p l o,(p,l,o)∈es->o.2<=F p+D
 |[]=>⟨0,λ_ _ _ h=>by cases h⟩|e::es=>by
   obtain⟨D,h⟩:=Dn F es;refine⟨max D (e.2.2.2-F e.1),λp l o z=>?_⟩;rcases mem_cons.mp z with rfl|z;.simp only;omega
   .have:=h p l o z;omega
theorem ju.pt{fs:List Int}{D:Int}(h:ju m ws fs es)(t:Pt ws fs F)(u:∀p l o,(p,l,o)∈es->o.2<=F p+D):Pt ws fs (GP F D es):=λs v e ho=>by
 by_cases c:∃l o,(frm v s.2,l,o)∈es;.obtain⟨l,o,c⟩:=c;obtain⟨l2,y,c2,c3⟩:=h.cl l o s v e c ho;rw[jH h.cm.nd c,jH h.cm.nd c2];unfold Le at c3;omega
 . rw[qN c];have h1:=t s v e ho;by_cases c2:∃l o,(too v s.2,l,o)∈es;.obtain⟨l2,y,c2⟩:=c2;rw[jH h.cm.nd c2];have:=u _ _ _ c2;omega
   .rw[qN c2];omega
theorem Kv{fs:List Int}{G:Int->Int}(d:Int)(h:Pt ws fs F)(t:Pt ws fs G):Pt ws fs (λp=>min (F p) (G p+d)):=λs v e ho=>by have h1:=h s v e ho;have u:=t s v e ho;simp only;omega
theorem vh{ws:List Wy}{fs:List Int}{F:Int->Int}(h:Pt ws fs F){b:Int}:∀{c:List aC}{a:Int},jC ws b c a->u9 ws fs c->F b=F a+cC ws c->∀s∈c,∀v,ws[s.1]?=some v->F (too v s.2)=F (frm v s.2)+hsp v s.2
 |[],_,_,_,_,s,hs,_,_=>by cases hs|s::c,a,⟨v,e,y,z⟩,ho,he,u,hu,x,ex=>by
   have t:u9 ws fs c:=λu hu=>ho u (mem_cons_of_mem _ hu);have h1:=o6 h z t;obtain⟨C,A,o⟩:=ho s (by simp);rw[e]at A;cases A;have B:=h s v e o;rw[y]at B;rw[cC,iU e]at he;rcases mem_cons.mp hu with rfl|hu;.rw[e]at ex;cases ex;rw[y];omega
   .exact vh h z t (by omega) u hu x ex
theorem tH{fs:List Int}{x:Int}{t:aC}(hc:u9 ws fs c)(e:ws[t.1]?=some v)(h:lK ws (aug x fs c) (frm v t.2) t=true):lK ws fs (frm v t.2) t=true\/∃s∈c,s.1=t.1/\t.2≠s.2:=by
 by_cases z:t.1∈c.map (·.1)
 . obtain⟨s,hs,es⟩:=mem_map.mp z;by_cases q:t.2=s.2;.have:t=s:=Prod.ext_iff.mpr ⟨es.symm,q⟩;subst this;obtain⟨y,u,o⟩:=hc t hs;rw[e]at u;cases u;exact .inl o
   .exact .inr ⟨s,hs,es,q⟩
 .refine .inl ?_;unfold lK at h ⊢;rwa[rE z]at h
theorem Pt.aug{ws:List Wy}{fs:List Int}{F:Int->Int}(h:Pt ws fs F){a b x:Int}{c:List aC}(y:jC ws b c a)(ho:u9 ws fs c)(he:F b=F a+cC ws c):Pt ws (aug x fs c) F:=λt v e o=>by
 rcases tH ho e o with o|⟨u,z,A,ne⟩;.exact h t v e o
 . have:=vh h y ho he u z v (by rw[A];exact e);rw[(nR ne).1,(nR ne).2];have:hsp v t.2=-hsp v u.2:=by cases h1:t.2<;>cases h2:u.2<;>simp[hsp]<;>(rw[h1,h2]at ne;exact absurd rfl ne)
   omega
noncomputable def ie(G:Wy->Int):List Wy->List Int->Int|v::ws,g::fs=>G v*g+ie G ws fs|_,_=>0
noncomputable def uf(H:Wy->Int):List Wy->Int|[]=>0|v::ws=>H v+uf H ws
theorem Ht{G H:Wy->Int}:∀{ws:List Wy}{fs:List Int},fs.length=ws.length->(∀(j:Nat)v g,ws[j]?=some v->fs[j]?=some g->G v*g<=H v)->ie G ws fs<=uf H ws|[],[],_,_=>Int.le_refl _|[],_::_,h,_=>by simp at h|_::_,[],h,_=>by simp at h|v::ws,g::fs,h,k=>by have h1:=k 0 v g rfl rfl;have u:=Ht (G:=G) (H:=H) (ws:=ws) (fs:=fs) (by simpa using h) λj v g e t=>k (j+1) v g (by simpa using e) (by simpa using t);rw[ie,uf];omega
theorem KD{G H:Wy->Int}:∀{ws:List Wy}{fs:List Int},fs.length=ws.length->(∀(j:Nat)v g,ws[j]?=some v->fs[j]?=some g->H v<=G v*g)->uf H ws<=ie G ws fs|[],[],_,_=>Int.le_refl _|[],_::_,h,_=>by simp at h|_::_,[],h,_=>by simp at h|v::ws,g::fs,h,k=>by have h1:=k 0 v g rfl rfl;have u:=KD (G:=G) (H:=H) (ws:=ws) (fs:=fs) (by simpa using h) λj v g e t=>k (j+1) v g (by simpa using e) (by simpa using t);rw[ie,uf];omega
theorem Cw{G:Wy->Int}{v:Wy}{g y:Int}:∀{j:Nat}{ws:List Wy}{fs:List Int},ws[j]?=some v->fs[j]?=some g->ie G ws (fs.set j (g+y))=ie G ws fs+G v*y|_,[],_,e,_=>by simp at e|_,_::_,[],_,e=>by simp at e|0,u::ws,f::fs,h,t=>by simp at h t;subst h t;rw[List.set_cons_zero,ie,ie,mul_add];omega|j+1,u::ws,f::fs,h,t=>by rw[List.set_cons_succ,ie,ie,Cw (j:=j) (by simpa using h) (by simpa using t)];omega
noncomputable def gap(k:Int)(q:Int->Int)(v:Wy):Int:=q v.t-q v.s-k*v.h
theorem Jz{x:Int}:gap k q v*sg x f=x*(q (too v f)-q (frm v f)-k*hsp v f):=by cases f with|true=>show(q v.t-q v.s-k*v.h)*x=x*(q v.t-q v.s-k*v.h);exact mul_comm _ _|false=>show(q v.t-q v.s-k*v.h)*(-x)=x*(q v.s-q v.t-k*(-v.h));rw[mul_neg,mul_neg k,show q v.s-q v.t- -(k*v.h)=-(q v.t-q v.s-k*v.h)by omega,mul_neg,mul_comm]
theorem Dp{k x:Int}{q:Int->Int}{ws:List Wy}{b:Int}:∀{c:List aC}{fs:List Int}{a:Int},fs.length=ws.length->jC ws b c a->ie (gap k q) ws (aug x fs c)=ie (gap k q) ws fs+x*(q b-q a-k*cC ws c)
 |[],fs,a,_,h=>by have:a=b:=h;subst this;show _=_+x*(q a-q a-k*0);simp;rfl|s::c,fs,a,u,⟨v,e,z,A⟩=>by
   show ie (gap k q) ws (aug x (nj x fs s) c)=_;have t:s.1<fs.length:=by rw[u];exact(eV e).1
   have y:fs[s.1]?=some fs[s.1]:=by simp[t]
   rw[Dp (by rw[yo];exact u) A];have:nj x fs s=fs.set s.1 (fs[s.1]+sg x s.2):=by unfold nj;rw[y];rfl
   rw[this,Cw e y,Jz,z,Int.add_assoc,<-mul_add,cC,iU e,mul_add k];congr 2;omega
structure Rq(ws:List Wy)(fs:List Int):Prop where
 len:fs.length=ws.length
 ok:∀(j:Nat)v g,ws[j]?=some v->fs[j]?=some g->0<=g/\g<=v.r
theorem Rq.aug{ws:List Wy}{fs:List Int}{c:List aC}{x:Int}(h:Rq ws fs)(B:(c.map (·.1)).Nodup)(C:0<x)(hc:∀s∈c,∃v g,ws[s.1]?=some v/\fs[s.1]?=some g/\x<=qG v g s.2):Rq ws (aug x fs c):=by
 refine⟨by rw[wL];exact h.len,λj v g t e=>?_⟩;by_cases z:j∈c.map (·.1);.obtain⟨s,hs,rfl⟩:=mem_map.mp z;obtain⟨E,g',u,y,A⟩:=hc s hs;rw[t]at u;cases u;rw[Bh B hs y]at e;cases e;have:=h.ok _ _ _ t y;cases hf:s.2<;>rw[hf]at A<;>simp[qG,sg]at A ⊢<;>omega
 .rw[rE z]at e;exact h.ok _ _ _ t e
noncomputable def qd(q:Int->Int)(v:Wy):Int:=v.r*max 0 (q v.t-q v.s-v.h)
noncomputable def gh(q:Int->Int)(ws:List Wy):Int:=uf (qd q) ws
theorem Zt:gap 1 q v=q v.t-q v.s-v.h:=by unfold gap;omega
theorem BL{fs:List Int}(h:Rq ws fs):ie (gap 1 q) ws fs<=gh q ws:=Ht h.len λj v g e u=>by
 have:=h.ok _ _ _ e u;rw[Zt];unfold qd;generalize q v.t-q v.s-v.h=y;by_cases c:0<=y;.rw[Int.max_eq_right c,mul_comm];exact Int.mul_le_mul_of_nonneg_right this.2 c
 .rw[Int.max_eq_left (by omega),Int.mul_zero];exact Int.mul_nonpos_of_nonpos_of_nonneg (by omega) this.1
theorem Qh{fs:List Int}(h:Rq ws fs)(A:Pt ws fs q):gh q ws=ie (gap 1 q) ws fs:=by
 refine Int.le_antisymm (KD h.len λj v g e u=>?_) (BL h);have E:=h.ok _ _ _ e u;have C:0<v.r-g->q v.t<=q v.s+v.h:=λz=>A (j,true) v e (by rw[pA (s:=(j,true)) e u];simp[frm,qG];omega);have B:0<g->q v.s<=q v.t+-v.h:=λz=>A (j,false) v e (by rw[pA (s:=(j,false)) e u];simp[frm,qG];omega);rw[Zt];unfold qd;generalize G:q v.t-q v.s-v.h=y;by_cases c:g=v.r
 . subst c;by_cases c0:0<v.r;.have:=B c0;rw[Int.max_eq_right (by omega),mul_comm];exact Int.le_refl _
   . have:v.r=0:=by omega
     rw[this];simp
 . have:=C (by omega);rw[Int.max_eq_left (by omega),Int.mul_zero];by_cases c0:0<g;.have:=B c0;rw[show y=0 by omega];simp
   .rw[show g=0 by omega];simp
noncomputable def aav(fs:List Int)(x:List aC×Int):List Int:=aug x.2 fs x.1
noncomputable def flow(N:Nat)(cs:List (List aC×Int)):List Int:=cs.foldl aav (replicate N 0)
theorem HY{x:List aC×Int}:flow N (cs++[x])=aug x.2 (flow N cs) x.1:=by unfold flow;rw[List.foldl_append];rfl
noncomputable def dW(H:List aC×Int->Int):List (List aC×Int)->Int|[]=>0|x::cs=>H x+dW H cs
theorem ou{H:List aC×Int->Int}{x:List aC×Int}:∀{cs:List (List aC×Int)},dW H (cs++[x])=dW H cs+H x|[]=>by simp[dW]|y::cs=>by rw[cons_append,dW,dW,ou];omega
theorem rH{H K:List aC×Int->Int}:∀{cs:List (List aC×Int)},(∀x∈cs,H x=K x)->dW H cs=dW K cs|[],_=>rfl|x::cs,h=>by rw[dW,dW,h x (by simp),rH λy e=>h y (by simp[e])]
theorem HW{H:List aC×Int->Int}:∀{cs:List (List aC×Int)},(∀x∈cs,1<=H x)->(cs.length:Int)<=dW H cs|[],_=>by simp[dW]|x::cs,h=>by have h1:=h x (by simp);have t:=HW (H:=H) (cs:=cs) λy e=>h y (by simp[e]);rw[dW,length_cons];omega
noncomputable def Z8(ws:List Wy)(T:Int)(x:List aC×Int):Int:=if cC ws x.1<=T then x.2*(T-cC ws x.1+1)else 0
noncomputable def val(ws:List Wy)(T:Int)(cs:List (List aC×Int)):Int:=dW (Z8 ws T) cs
structure gG(m:Int)(ws:List Wy)(T v:Int):Prop where
 ex:∃q:Int->Int,q 0=0/\q (m-1)=T+1/\gh q ws=v
 le:∀q:Int->Int,q 0=0->q (m-1)=T+1->v<=gh q ws
theorem yr{T:Int}{fs:List Int}{G:Int->Int}(fit:Rq ws fs)(dt:∀k q,ie (gap k q) ws fs=dW (λx=>x.2*(q (m-1)-q 0-k*cC ws x.1)) cs)(z:∀x∈cs,cC ws x.1<=T+1)(A:Pt ws fs G)(t:G 0=0)(u:G (m-1)=T+1):gG m ws T (val ws T cs):=by
 have y:∀q:Int->Int,q 0=0->q (m-1)=T+1->ie (gap 1 q) ws fs=val ws T cs:=λq e h=>by
  rw[dt,e,h];refine rH λx B=>?_;have:=z x B;unfold Z8;split;.congr 1;omega
  .rw[show T+1-0-1*cC ws x.1=0 by omega,Int.mul_zero]
 exact⟨⟨G,t,u,by rw[Qh fit A,y G t u]⟩,λq e h=>by rw[<-y q e h];exact BL fit⟩
structure zB(m:Int)(ws:List Wy)(cs:List (List aC×Int))(fs:List Int)(F:Int->Int)(d:Int):Prop where
 fit:Rq ws fs
 pt:Pt ws fs F
 z:F 0=0
 e:F (m-1)=d
 d0:0<=d
 nn:(∀v∈ws,1<=v.h)->1<=d/\∀x∈cs,1<=cC ws x.1
 ch:∀x∈cs,cC ws x.1<=d/\0<x.2/\∀s∈x.1,s.1<ws.length
 dt:∀k q,ie (gap k q) ws fs=dW (λx=>x.2*(q (m-1)-q 0-k*cC ws x.1)) cs
 lst:∀T,0<=T->T+1<=d->gG m ws T (val ws T cs)
theorem zj{G:Wy->Int}:∀{ws:List Wy}{n:Nat},ie G ws (replicate n 0)=0|[],n=>by unfold ie;rfl|v::ws,0=>rfl|v::ws,n+1=>by rw[replicate_succ,ie,zj];simp
theorem Bl(h:(replicate n (0:Int))[j]?=some g):g=0:=(List.mem_replicate.mp (mem_of_getElem? h)).2
noncomputable def F01(b p:Int):Int:=if p=0 then 0 else b
theorem zB.zero(m0:2<=m)(A:∀v∈ws,0<=v.h)(hr:∀v∈ws,0<=v.r):∃b,zB m ws [] (replicate ws.length 0) (F01 b) b:=by
 have fit:Rq ws (replicate ws.length 0):=⟨by simp,λj v g t u=>by rw[Bl u];exact⟨Int.le_refl _,hr v (mem_of_getElem? t)⟩⟩;have pt:∀b:Int,0<=b->(∀v∈ws,b<=v.h)->Pt ws (replicate ws.length 0) (F01 b):=λb b0 B s v e ho=>by obtain⟨E,g,t,u,_,y⟩:=sW ho;rw[e]at t;cases t;have:=Bl u;subst this;have:=B v (mem_of_getElem? e);cases hf:s.2<;>rw[hf]at y<;>simp[qG,hsp,F01]at y ⊢;split<;>split<;>omega
 have dt:∀k q,ie (gap k q) ws (replicate ws.length 0)=dW (λx=>x.2*(q (m-1)-q 0-k*cC ws x.1)) []:=λk q=>by rw[zj];rfl
 have t:∀b,F01 b (m-1)=b:=λb=>by unfold F01;rw[if_neg (by omega)]
 by_cases c:∀v∈ws,1<=v.h;.exact⟨1,fit,pt 1 (by omega) c,rfl,t 1,by omega,λ_=>⟨Int.le_refl _,by simp⟩,by simp,dt,λT h1 C=>yr fit dt (by simp) (pt 1 (by omega) c) rfl (by rw[t];omega)⟩
 .exact⟨0,fit,pt 0 (by omega) A,rfl,t 0,by omega,λz=>absurd z c,by simp,dt,λT h1 C=>by omega⟩
theorem zB.at{d T:Int}{fs:List Int}{G:Int->Int}(h:zB m ws cs fs F d)(e:d<=T+1)(t:Pt ws fs G)(u:G 0=0)(y:G (m-1)=T+1):gG m ws T (val ws T cs):=yr h.fit h.dt (λx z=>Int.le_trans (h.ch x z).1 e) t u y
theorem zB.more{d:Int}{fs:List Int}{x:Int}(h:zB m ws cs fs F d)(t:ju m ws fs es)(u:(m-1,l,o)∈es)(hc:QD ws fs es (m-1) l o.2 0 0 0 c)(A:0<x)(hr:∀s∈c,∃v g,ws[s.1]?=some v/\fs[s.1]?=some g/\x<=qG v g s.2):∃F',zB m ws (cs++[(c,x)]) (aug x fs c) F' o.2:=by
 obtain⟨D,G⟩:=Dn F es;have B:=t.pt h.pt G;have I:cC ws c=o.2:=by have:=hc.hrs;omega
 have C:GP F D es 0=0:=jH t.cm.nd t.cm.z;have E:GP F D es (m-1)=o.2:=jH t.cm.nd u;have hd:d<=o.2:=by have:=o6 h.pt hc.Lx hc.jW;rw[h.e,h.z]at this;omega
 refine⟨GP F D es,h.fit.aug hc.nd A hr,B.aug hc.Lx hc.jW (by rw[C,E];omega),C,E,by have:=h.d0;omega,λz=>⟨by have:=(h.nn z).1;omega,λy hy=>?_⟩,λy hy=>?_,λk q=>?_,λT h0 h1=>?_⟩
 . rcases mem_append.mp hy with hy|hy;.exact(h.nn z).2 y hy
   .rw[mem_singleton.mp hy];show 1<=cC ws c;have:=(h.nn z).1;omega
 . rcases mem_append.mp hy with hy|hy;.have:=h.ch y hy;exact⟨by omega,this.2⟩
   .rw[mem_singleton.mp hy];refine⟨by show cC ws c<=_;omega,A,λs hs=>?_⟩;obtain⟨v,g,e,_⟩:=hr s hs;exact(eV e).1
 .rw[Dp h.fit.len hc.Lx,ou,h.dt]
 . have H:val ws T (cs++[(c,x)])=val ws T cs:=by unfold val;rw[ou];show _+(if cC ws c<=T then _ else 0)=_;rw[if_neg (by omega)];omega
   rw[H];by_cases q:T+1<=d;.exact h.lst T h0 q
   . refine h.at (by omega) (Kv (T+1-d) B h.pt) ?_ ?_;.have:=h.z;omega
     .have:=h.e;omega
theorem zB.least{d T:Int}{fs:List Int}(h:zB m ws cs fs F d)(t:ju m ws fs es)(u:¬ ∃l o,(m-1,l,o)∈es)(h0:0<=T):gG m ws T (val ws T cs):=by
 by_cases q:T+1<=d;.exact h.lst T h0 q
 . obtain⟨D,y⟩:=Dn F es;have A:=t.pt (D:=max D (T+1-d)) h.pt λp l o z=>by have:=y p l o z;omega
   have B:GP F (max D (T+1-d)) es 0=0:=jH t.cm.nd t.cm.z;have C:GP F (max D (T+1-d)) es (m-1)=F (m-1)+max D (T+1-d):=qN u;refine h.at (by omega) (Kv (T+1-d) A h.pt) ?_ ?_;.have:=h.z;omega
   .have:=h.e;omega
noncomputable def GQ(v:Wy)(f:Bool):Int:=7*hsp v f+1
noncomputable def QS(ws:List Wy)(fs:List Int)(P:Int->Int):Prop:=∀(s:aC)(v:Wy),ws[s.1]?=some v->lK ws fs (frm v s.2) s=true->P (too v s.2)<=P (frm v s.2)+GQ v s.2
noncomputable def zF(ws:List Wy)(c:List aC):Int:=7*cC ws c+c.length
theorem tU(e:ws[s.1]?=some v):zF ws (s::c)=GQ v s.2+zF ws c:=by unfold zF GQ;rw[cC,iU e,length_cons];omega
theorem Bj{ws:List Wy}{fs:List Int}{P:Int->Int}(h:QS ws fs P){b:Int}:∀{c:List aC}{a:Int},jC ws b c a->u9 ws fs c->P b<=P a+zF ws c|[],a,t,_=>by have:a=b:=t;rw[this];simp[zF,cC]|s::c,a,⟨v,e,z,t⟩,ho=>by have h1:=Bj h t λu A=>ho u (mem_cons_of_mem _ A);obtain⟨C,y,o⟩:=ho s (by simp);rw[e]at y;cases y;have B:=h s v e o;rw[z]at B;rw[tU e];omega
theorem vA{ws:List Wy}{fs:List Int}{P:Int->Int}(h:QS ws fs P){b:Int}:∀{c:List aC}{a:Int},jC ws b c a->u9 ws fs c->P b=P a+zF ws c->∀s∈c,∀v,ws[s.1]?=some v->P (too v s.2)=P (frm v s.2)+GQ v s.2
 |[],_,_,_,_,s,hs,_,_=>by cases hs|s::c,a,⟨v,e,y,z⟩,ho,he,u,hu,x,ex=>by
   have t:u9 ws fs c:=λu hu=>ho u (mem_cons_of_mem _ hu);have h1:=Bj h z t;obtain⟨C,A,o⟩:=ho s (by simp);rw[e]at A;cases A;have B:=h s v e o;rw[y]at B;rw[tU e]at he;rcases mem_cons.mp hu with rfl|hu;.rw[e]at ex;cases ex;rw[y];omega
   .exact vA h z t (by omega) u hu x ex
noncomputable def tgt(ws:List Wy)(fs:List Int)(P:Int->Int)(s:aC):Bool:=match ws[s.1]?with|some v=>lK ws fs (frm v s.2) s&&decide (P (too v s.2)=P (frm v s.2)+GQ v s.2)|none=>false
theorem Ko{fs:List Int}{P:Int->Int}(e:ws[s.1]?=some v):tgt ws fs P s=(lK ws fs (frm v s.2) s&&decide (P (too v s.2)=P (frm v s.2)+GQ v s.2)):=by unfold tgt;rw[e]
noncomputable def Io(ws:List Wy)(fs:List Int)(P:Int->Int):Nat:=((iV ws.length).filter (tgt ws fs P)).length
theorem CV{fs:List Int}{P:Int->Int}(h:ws.length<=12):Io ws fs P<=24:=by have:=List.length_filter_le (tgt ws fs P) (iV ws.length);rw[yK]at this;unfold Io;omega
theorem K3{p q:aC->Bool}(h:∀t,q t=true->p t=true):∀(l:List aC),(l.filter q).length<=(l.filter p).length|[]=>eG|t::l=>by have e:=K3 h l;cases hq:q t with|true=>simp[hq,h t hq,e]|false=>cases hp:p t with|true=>simp[hq,hp];omega|false=>simp[hq,hp,e]
theorem IV{p q:aC->Bool}{s:aC}(h:∀t,q t=true->p t=true)(e:p s=true)(u:q s=false):∀{l:List aC},s∈l->(l.filter q).length<(l.filter p).length
 |[],hs=>by cases hs|t::l,hs=>by
   have le:=K3 h l;rcases mem_cons.mp hs with rfl|hs;.simp[e,u];omega
   .have y:=IV h e u hs;cases hq2:q t with|true=>simp[hq2,h t hq2,y]|false=>cases hp2:p t with|true=>simp[hq2,hp2];omega|false=>simp[hq2,hp2,y]
theorem Hw{fs:List Int}(h:(c.map (·.1)).Nodup)(hs:s∈c)(e:ws[s.1]?=some v)(t:fs[s.1]?=some g):lK ws (aug (qG v g s.2) fs c) p s=false:=by
 rw[pA e (Bh h hs t)];have:qG v (g+sg (qG v g s.2) s.2) s.2=0:=by cases s.2<;>simp[qG,sg]<;>omega
 rw[this];simp
theorem QS.aug{ws:List Wy}{fs:List Int}{P:Int->Int}(h:QS ws fs P){a b:Int}{c:List aC}{s:aC}{v:Wy}{g:Int}(E:jC ws b c a)(ho:u9 ws fs c)(G:(c.map (·.1)).Nodup)(he:P b=P a+zF ws c)(hs:s∈c)(e:ws[s.1]?=some v)(H:fs[s.1]?=some g):QS ws (aug (qG v g s.2) fs c) P/\Io ws (aug (qG v g s.2) fs c) P<Io ws fs P:=by
 have A:=vA h E ho he;have back:∀(t u:aC)(x:Wy),u∈c->u.1=t.1->t.2≠u.2->ws[t.1]?=some x->P (too x t.2)<P (frm x t.2)+GQ x t.2:=λt u x y z ne ex=>by
  have h1:=A u y x (by rw[z];exact ex);rw[(nR ne).1,(nR ne).2];have B:hsp x t.2=-hsp x u.2:=by cases h1:t.2<;>cases B:u.2<;>simp[hsp]<;>(rw[h1,B]at ne;exact absurd rfl ne)
  unfold GQ at*;omega
 refine⟨λt x ex o=>?_,?_⟩
 . rcases tH ho ex o with o|⟨u,y,z,ne⟩;.exact h t x ex o
   .have:=back t u x y z ne ex;omega
 . obtain⟨I,C,o⟩:=ho s hs;rw[e]at C;cases C;refine IV (s:=s) (λt ht=>?_) (by rw[Ko e,o,A s hs v e];simp) (by rw[Ko e,Hw G hs e H];rfl) (yz (eV e).1);unfold tgt at ht ⊢;split at ht
   . rename_i x ex;simp only[and_eq_true,decide_eq_true_eq]at ht ⊢;refine⟨?_,ht.2⟩;rcases tH ho ex ht.1 with o|⟨u,y,z,ne⟩;.exact o
     .have:=back t u x y z ne ex;omega
   .cases ht
noncomputable abbrev QV:=List (Option Bool)
noncomputable def mj:List Wy->QV->Int|v::ws,some f::es=>GQ v f+mj ws es|_::ws,none::es=>mj ws es|_,_=>0
noncomputable def Eo(N:Nat):List aC->QV|[]=>replicate N none|s::c=>(Eo N c).set s.1 (some s.2)
theorem vX{N:Nat}:∀{c:List aC},(Eo N c).length=N|[]=>by simp[Eo]|s::c=>by rw[Eo,List.length_set,vX]
theorem Ed{N j:Nat}:∀{c:List aC},j<N->j∉c.map (·.1)->(Eo N c)[j]?=some none|[],h,_=>by simp[Eo,h]|s::c,h,e=>by rw[map_cons,mem_cons,not_or]at e;rw[Eo,getElem?_set_ne (λz=>e.1 z.symm)];exact Ed h e.2
theorem yJ{v:Wy}{f:Bool}:∀{j:Nat}{ws:List Wy}{es:QV},ws[j]?=some v->es[j]?=some none->mj ws (es.set j (some f))=mj ws es+GQ v f|_,[],_,e,_=>by simp at e|_,_::_,[],_,e=>by simp at e|0,u::ws,x::es,h,t=>by simp at h t;subst h t;rw[List.set_cons_zero,mj,mj];omega|j+1,u::ws,x::es,h,t=>by have y:=yJ (f:=f) (j:=j) (ws:=ws) (es:=es) (by simpa using h) (by simpa using t);rw[List.set_cons_succ];cases x with|none=>rw[mj,mj,y]|some g=>rw[mj,mj,y];omega
theorem vG:∀{ws:List Wy}{n:Nat},mj ws (replicate n none)=0|[],n=>by unfold mj;rfl|v::ws,0=>rfl|v::ws,n+1=>by rw[replicate_succ,mj,vG]
theorem xx{ws:List Wy}{b:Int}:∀{c:List aC}{a:Int},jC ws b c a->(c.map (·.1)).Nodup->mj ws (Eo ws.length c)=zF ws c|[],_,_,_=>by rw[Eo,vG];simp[zF,cC]|s::c,a,⟨v,e,_,t⟩,h=>by rw[map_cons,nodup_cons]at h;rw[Eo,yJ e (Ed (eV e).1 h.1),xx t h.2,tU e];omega
noncomputable def uL:Nat->List QV|0=>[[]]|n+1=>(uL n).map (none::·)++((uL n).map (some true::·)++(uL n).map (some false::·))
theorem tV:∀{n:Nat},(uL n).length=3^n|0=>rfl|n+1=>by rw[uL,length_append,length_append,length_map,length_map,length_map,tV,Nat.pow_succ];omega
theorem rW:∀{e:QV},e∈uL e.length|[]=>by simp[uL]|x::e=>by have h:=rW (e:=e);rw[length_cons,uL,mem_append,mem_append];cases x with|none=>exact .inl (mem_map.mpr ⟨e,h,rfl⟩)|some f=>cases f with|true=>exact .inr (.inl (mem_map.mpr ⟨e,h,rfl⟩))|false=>exact .inr (.inr (mem_map.mpr ⟨e,h,rfl⟩))
structure M3(m:Int)(ws:List Wy)(k:Nat)(fs:List Int)(P:Int->Int)(lam:Int)(seen:List QV):Prop where
 pt:QS ws fs P
 z:P 0=0
 e:P (m-1)=lam
 nd:seen.Nodup
 sl:∀e∈seen,e.length=ws.length/\mj ws e<=lam
 cnt:k+Io ws fs P<=25*(seen.length+1)
theorem M3.few{t:Int}{k:Nat}{fs:List Int}{P:Int->Int}{seen:List QV}(h:M3 m ws k fs P t seen)(u:ws.length<=12):k<=13286050:=by
 have h1:=oH (l2:=uL ws.length) h.nd λe he=>by rw[<-(h.sl e he).1];exact rW
 rw[tV]at h1;have y:3^ws.length<=3^12:=Nat.pow_le_pow_right (by decide) u;have z:(3:Nat)^12=531441:=by decide
 have:=h.cnt;omega
theorem M3.zero(y:ws.length<=12)(z:∀v∈ws,0<=v.h):M3 m ws 0 (replicate ws.length 0) (λ_=>0) 0 []:=by refine⟨λs v e ho=>?_,rfl,rfl,.nil,by simp,by have:=CV (fs:=replicate ws.length 0) (P:=λ_=>0) y;simp;omega⟩;obtain⟨B,g,t,A,_,u⟩:=sW ho;rw[e]at t;cases t;have:=Bl A;subst this;have:=z v (mem_of_getElem? e);cases hf:s.2<;>rw[hf]at u<;>simp[qG,GQ,hsp]at u ⊢;omega
noncomputable def Lz(F:Int->Int)(D:Int):List En->Int->Int|[],p=>F p+D|e::es,p=>if e.1=p then 7*e.2.2.2+(e.2.1:Int)else Lz F D es p
theorem pN{F:Int->Int}{D p:Int}{l:Nat}{o:Option aC×Int}:∀{es:List En},(es.map (·.1)).Nodup->(p,l,o)∈es->Lz F D es p=7*o.2+l
 |[],_,h=>by cases h|e::es,t,h=>by
   rw[map_cons,nodup_cons]at t;rw[Lz];rcases mem_cons.mp h with rfl|h;.rw[if_pos rfl]
   .rw[if_neg (λz=>t.1 (by rw[z];exact mem_map.mpr ⟨_,h,rfl⟩))];exact pN t.2 h
theorem wj{F:Int->Int}{D p:Int}:∀{es:List En},(¬ ∃l o,(p,l,o)∈es)->Lz F D es p=F p+D|[],_=>rfl|e::es,h=>by rw[Lz,if_neg (λz=>h ⟨e.2.1,e.2.2,by rw[<-z];simp⟩)];exact wj λ⟨l,o,z⟩=>h ⟨l,o,mem_cons_of_mem _ z⟩
theorem KZ(F:Int->Int):∀(es:List En),∃D,∀p l o,(p,l,o)∈es->7*o.2+(l:Int)<=F p+D
 |[]=>⟨0,λ_ _ _ h=>by cases h⟩|e::es=>by
   obtain⟨D,h⟩:=KZ F es;refine⟨max D (7*e.2.2.2+(e.2.1:Int)-F e.1),λp l o z=>?_⟩;rcases mem_cons.mp z with rfl|z;.simp only;omega
   .have:=h p l o z;omega
theorem ju.pts{fs:List Int}{P:Int->Int}{D:Int}(h:ju m ws fs es)(t:HN m ws)(u:Pt ws fs F)(y:QS ws fs P)(z:∀p l o,(p,l,o)∈es->7*o.2+(l:Int)<=P p+D):QS ws fs (Lz P D es):=λs v e ho=>by
 by_cases c:∃l o,(frm v s.2,l,o)∈es;.obtain⟨l,o,c⟩:=c;obtain⟨l2,A,c2,c3⟩:=h.cl l o s v e c ho;rw[pN h.cm.nd c,pN h.cm.nd c2];have:=h.l5 t u c2;unfold Le at c3;unfold GQ;omega
 . rw[wj c];have h1:=y s v e ho;by_cases c2:∃l o,(too v s.2,l,o)∈es;.obtain⟨l2,A,c2⟩:=c2;rw[pN h.cm.nd c2];have:=z _ _ _ c2;omega
   .rw[wj c2];omega
theorem M3.more{t:Int}{k:Nat}{fs:List Int}{P:Int->Int}{seen:List QV}(h:M3 m ws k fs P t seen)(B:HN m ws)(I:Pt ws fs F)(u:ju m ws fs es)(y:(m-1,l,o)∈es)(hc:QD ws fs es (m-1) l o.2 0 0 0 c)(hs:s∈c)(e:ws[s.1]?=some v)(C:fs[s.1]?=some g):∃J L M,M3 m ws (k+1) (aug (qG v g s.2) fs c) J L M:=by
 have O:cC ws c=o.2:=by have:=hc.hrs;omega
 have U:c.length=l:=by have:=hc.len;omega
 have W:zF ws c=7*o.2+l:=by unfold zF;rw[O,U]
 have X:t<=zF ws c:=by have:=Bj h.pt hc.Lx hc.jW;rw[h.e,h.z]at this;omega
 by_cases q:t=zF ws c;.have A:=h.pt.aug hc.Lx hc.jW hc.nd (by rw[h.e,h.z];omega) hs e C;exact⟨P,t,seen,A.1,h.z,h.e,h.nd,h.sl,by have:=h.cnt;omega⟩
 . obtain⟨D,Y⟩:=KZ P es;have Z:=u.pts B I h.pt Y;have E:Lz P D es 0=0:=by rw[pN u.cm.nd u.cm.z];rfl
   have G:Lz P D es (m-1)=zF ws c:=by rw[pN u.cm.nd y,W]
   have A:=Z.aug hc.Lx hc.jW hc.nd (by rw[E,G];omega) hs e C;have H:=xx hc.Lx hc.nd;refine⟨Lz P D es,zF ws c,seen++[Eo ws.length c],A.1,E,G,?_,λx hx=>?_,?_⟩;.rw[nodup_append];refine⟨h.nd,by simp,λa ha b hb ab=>?_⟩;have:=(h.sl a ha).2;rw[ab,mem_singleton.mp hb,H]at this;omega
   . rcases mem_append.mp hx with hx|hx;.have:=h.sl x hx;exact⟨this.1,by omega⟩
     .rw[mem_singleton.mp hx];exact⟨vX,by rw[H];exact Int.le_refl _⟩
   .have h1:=CV (fs:=fs) (P:=Lz P D es) B.len;have h2:=h.cnt;rw[length_append,List.length_singleton];omega
noncomputable def cD(x:List aC×Int):D:=.tup [.tup (x.1.map sD),.int x.2]
theorem J9{ns:List Int}(h:ns≠[]):∃i,ns.min?=some i/\i∈ns/\∀j∈ns,i<=j:=by cases e:ns.min? with|none=>rw[List.min?_eq_none_iff]at e;exact absurd e h|some i=>have:=List.min?_eq_some_iff.mp e;exact⟨i,rfl,this.1,this.2⟩
noncomputable def unS:D->aC|.tup [.int j,.bl f]=>(j.toNat,f)|_=>(0,true)
@[simp]theorem JB{s:aC}:unS (sD s)=s:=rfl
noncomputable def Rp(ws:List Wy)(fs:List Int)(s:aC):Int:=match ws[s.1]?,fs[s.1]?with|some v,some g=>qG v g s.2|_,_=>0
noncomputable def rmD(ws:List Wy)(fs:List Int)(d:D):D:=.int (Rp ws fs (unS d))
@[simp]theorem ZJ{es:List En}{p:Int}:yP false (.int p) (nU es)=some (.val (.bl (qX (es.map en) p))):=by show some (R.val (.bl ((es.map (·.1)).contains p)))=some (R.val (.bl ((Mg (es.map en)).contains p)));rw[Ac]
noncomputable def Chk(m:Int)(ws:List Wy)(x:List aC×Int):Prop:=x.1.length<=5/\(∀s∈x.1,s.1<ws.length)/\jC ws (m-1) x.1 0/\(x.1.map (·.1)).Nodup
structure Stg(m:Int)(ws:List Wy)(cJ:List (List aC×Int))(x:List aC×Int):Prop where
 iv:∃F d,zB m ws cJ (flow ws.length cJ) F d
 ht:∃F,Pt ws (flow ws.length cJ) F/\F 0=0/\F (m-1)=cC ws x.1
 op:u9 ws (flow ws.length cJ) x.1
 rm:∀s∈x.1,∃v g,ws[s.1]?=some v/\(flow ws.length cJ)[s.1]?=some g/\x.2<=qG v g s.2
theorem zB.ht{d:Int}{fs:List Int}(h:zB m ws cs fs F d)(t:ju m ws fs es)(u:(m-1,l,o)∈es)(hc:QD ws fs es (m-1) l o.2 0 0 0 c):(∃F,Pt ws fs F/\F 0=0/\F (m-1)=cC ws c)/\d<=cC ws c:=by
 obtain⟨D,y⟩:=Dn F es;have A:cC ws c=o.2:=by have:=hc.hrs;omega
 refine⟨⟨GP F D es,t.pt h.pt y,jH t.cm.nd t.cm.z,by rw[jH t.cm.nd u,A]⟩,?_⟩;have:=o6 h.pt hc.Lx hc.jW;rw[h.e,h.z]at this;omega
noncomputable def Gm(m:Int)(ws:List Wy)(cs:List (List aC×Int)):Prop:=cs.Pairwise (λa b=>cC ws a.1<=cC ws b.1)/\∀h x e,cs=h++x::e->Stg m ws h x
theorem Gm.snoc{y:List aC×Int}(h:Gm m ws cs)(h1:∀x∈cs,cC ws x.1<=cC ws y.1)(A:Stg m ws cs y):Gm m ws (cs++[y]):=by
 refine⟨?_,λu x t e=>?_⟩;.rw[List.pairwise_append];exact⟨h.1,by simp,λa B b C=>by rw[mem_singleton.mp C];exact h1 a B⟩
 . rcases List.eq_nil_or_concat t with rfl|⟨r,z,rfl⟩;.obtain⟨E,G⟩:=List.append_inj' e rfl;cases G;subst E;exact A
   . rw[List.concat_eq_append]at e;have H:cs++[y]=(u++x::r)++[z]:=by rw[e];simp
     exact h.2 u x r (List.append_inj' H rfl).1
structure Ends(m:Int)(ws:List Wy)(cs:List (List aC×Int))(fs:List Int)(F:Int->Int)(d:Int)(es:List En):Prop where
 fl:fs=flow ws.length cs
 iv:zB m ws cs fs F d
 cm:ju m ws fs es
 no:¬ ∃l o,(m-1,l,o)∈es
 ck:∀x∈cs,Chk m ws x
 st:Gm m ws cs
inductive FcE(a0 a1 a2 a3 a4 a5 a6:Sl)(ρ:List Sl):Prop where|mk(s:Sl)(q0:ρ=[a0,a1,a2,a3,a4,a5,a6,s])(q1:fr s=true)
inductive JE(m:Int)(ws:List Wy)(M:Nat)(ρ:List Sl):Prop where|mk(cs:List (List aC×Int))(fs:List Int)(es:List En)(F:Int->Int)(d:Int)(s5 s6:Sl)(q0:ρ=[.val false (aZ m ws),.val false (.int (m-1)),.own false (fs.map D.int),.own false (cs.map cD),.val false (nU es),s5,s6])(q1:(fr s5=true/\fr s6=true))(q2:fs=flow ws.length cs)(q3:zB m ws cs fs F d)(q4:ju m ws fs es)(q5:(∃P lam seen,M3 m ws cs.length fs P lam seen))(q6:cs.length+M=13286050)(q7:(∀x∈cs,Chk m ws x))(q8:Gm m ws cs)
theorem G8(hw:13286250<=w)(h:HN m ws)(hr:∀v∈ws,0<=v.r)(k:∀cs fs F d es,cs.length<=13286050->Ends m ws cs fs F d es->Q (.own (cs.map cD)) [.val false (aZ m ws)]):(run Γ w (n+4) 8 [.val false (aZ m ws)]).sat Q:=by
 have hn:=h.len;have m0:=h.m0;have m1:=h.m1;refine aO (d:=f8) rfl rfl (by decide) ?_;symm;simp[f8];refine dJ (λρ=>ρ=[.val false (aZ m ws),.val false (.int (m-1)),.own false ((flow ws.length []).map D.int),.aQ,.aQ,.aQ,.aQ]) ?_ ?_;.simp[flow];show _<=16777216;omega
 rintro _ rfl;have hh:∀v∈ws,0<=v.h:=λv hv=>(h.ok v hv).2.2;obtain⟨b0,I0⟩:∃b,zB m ws [] (flow ws.length []) (F01 b) b:=zB.zero m0 hh hr;symm;simp;apply ak;simp;refine yx (by omega) I0.pt (.inr ⟨true,rfl⟩) h I0.fit.len λes t=>?_;simp;apply ak;simp;refine j7 (JE m ws) ?_ (k:=w) (m:=13286050) (by omega) ⟨[],flow ws.length [],es,F01 b0,b0,.aQ,.aQ,rfl,⟨rfl,rfl⟩,rfl,I0,t,⟨_,_,_,M3.zero hn hh⟩,by simp,by simp,by simp,λcJ x aI e=>by cases cJ<;>cases e⟩;rintro M _⟨cs,fs,es,F,d,s5,s6,rfl,⟨h5,h6⟩,E,G,t,⟨P,aS,seen,hS⟩,hM,L,hst⟩;have ac:=G.fit.len;by_cases hq:∃l o,(m-1,l,o)∈es
 . obtain⟨l,o,z⟩:=hq;have kt:qX (es.map en) (m-1)=true:=Az.mpr ⟨l,o,z⟩;have ae:=t.l5 h G.pt z;simp[kt];apply ak;simp;refine Gq (by omega) t ae z λc hc=>?_;simp[h5];apply ak;have af:c.length<=5:=by have:=hc.len;omega
   have Z:∀s∈c,∃v g,ws[s.1]?=some v/\fs[s.1]?=some g/\0<qG v g s.2:=λs hs=>by obtain⟨v,e,o⟩:=hc.jW s hs;obtain⟨v',g,A,C,_,e4⟩:=sW o;exact⟨v',g,A,C,e4⟩
   simp[show c.length<=16777216 by omega];refine fU (FcE _ _ _ _ _ _ _) (rmD ws fs) ⟨.aQ,rfl,rfl⟩ ?_ ?_;.rintro d hd _⟨s',rfl,O⟩;obtain⟨s,hs,rfl⟩:=mem_map.mp hd;obtain⟨v,g,A,C,_⟩:=Z s hs;simp[O,sD];refine vg (.inr ⟨true,rfl⟩) A C ?_;simp;refine⟨?_,_,rfl,rfl⟩;show D.int (Rp ws fs (unS (sD s)))=_;rw[JB];unfold Rp;rw[A,C]
   rintro _⟨s',rfl,O⟩;have U:(c.map sD).map (rmD ws fs)=(c.map (Rp ws fs)).map D.int:=by rw[map_map,map_map];rfl
   rw[U];have ag:c≠[]:=by rintro rfl;have:(0:Int)=m-1:=hc.Lx;omega
   obtain⟨x,ah,ai,al⟩:=J9 (ns:=c.map (Rp ws fs)) (by simpa using ag);obtain⟨s,hs,am⟩:=mem_map.mp ai;obtain⟨v,g,A,C,e3⟩:=Z s hs;have ap:qG v g s.2=x:=by rw[<-am];unfold Rp;rw[A,C]
   have ar:0<x:=by omega
   have H:∀s∈c,∃v g,ws[s.1]?=some v/\fs[s.1]?=some g/\x<=qG v g s.2:=λu J=>by obtain⟨v,g,A,C,_⟩:=Z u J;refine⟨v,g,A,C,?_⟩;have:=al _ (mem_map.mpr ⟨u,J,rfl⟩);unfold Rp at this;rw[A,C]at this;exact this
   have W:∀s∈c,s.1<ws.length:=λu J=>by obtain⟨v,g,A,_⟩:=Z u J;exact(eV A).1
   obtain⟨F',I⟩:=G.more t z hc ar H;have X:Gm m ws (cs++[(c,x)]):=by obtain⟨g1,g2⟩:=G.ht t z hc;refine hst.snoc (λy hy=>Int.le_trans (G.ch y hy).1 g2) ?_;have Y:=G;rw[E]at Y g1 H;exact⟨⟨_,_,Y⟩,g1,by rw[<-E];exact hc.jW,H⟩
   have B:=hS.more h G.pt t z hc hs A C;rw[ap]at B;obtain⟨P',WD,Ly,B⟩:=B;have aT:=B.few hn;generalize c.map (Rp ws fs)=ns at*;simp[km,ah,h6];apply ak;simp[show cs.length<16777216 by omega];apply ak;simp;refine J2 (.inr ⟨true,rfl⟩) (λu J=>by rw[ac];exact W u J) ?_;simp;apply ak;have aw:aug x fs c=flow ws.length (cs++[(c,x)]):=by rw[HY,<-E]
   simp;refine yx (by omega) I.pt (.inr ⟨true,rfl⟩) h I.fit.len λay aE=>?_;simp;refine⟨M-1,by omega,cs++[(c,x)],aug x fs c,ay,F',o.2,.val false (.tup (c.map sD)),.val false (.int x),by simp[cD],⟨rfl,rfl⟩,aw,I,aE,⟨P',WD,Ly,by rw[length_append];exact B⟩,by simp;omega,λy hy=>?_,X⟩;rcases mem_append.mp hy with hy|hy;.exact L y hy
   . obtain rfl:y=(c,x):=by simpa using hy
     exact⟨af,W,hc.Lx,hc.nd⟩
 .have kt:qX (es.map en) (m-1)=false:=kin_no hq;simp[kt];apply ak;simp;exact k cs fs F d es (by omega) ⟨E,G,t,hq,L,hst⟩
theorem Te{c:Call}{x:Nat}{k d:P}:ev c (.Yo x k d) ρ=match ρ[x]?with
 |some (.iC _)=>(cL (isVar k) (ev c k) ρ).bind λe ρ=>(cL (isVar d) (ev c d) ρ).bind λdd ρ=>match ρ[x]?with|some (.iC m)=>lift ((m.get e).bind λo=>(jc dd).map λv=>.val (.int (o.getD v))) ρ|_=>.stuck
 |_=>.stuck:=(rfl)
theorem Oz{c:Call}{x:Nat}:ex c n (.Li x false) ρ=match ρ[x]?with|some .aQ=>.ok .next (ρ.set x (.iC (.k [])))|_=>.stuck:=(rfl)
theorem Px{c:Call}{x:Nat}{k e:P}:ex c n (.dput x k e) ρ=(ev c e ρ).bind λr ρ=>match ρ[x]?with
 |some (.iC _)=>(cL (isVar k) (ev c k) ρ).bind λh ρ=>match ρ[x]?,r with
   |some (.iC m),.val (.int v)=>match m.put h v with|some t=>.ok .next (ρ.set x (.iC t))|none=>.stuck
   |_,_=>.stuck
 |_=>.stuck:=(rfl)
@[simp]theorem Yg{x:Nat}{k d:P}:isVar (.Yo x k d)=none:=rfl
@[simp]theorem aap{kvs:List (Int×Int)}:blt .Ld [.eN (.k kvs)]=if kvs.length<=16777216/\kvs.Pairwise (λa b=>a.1<b.1)then some (.own (kvs.map rA))else none:=rfl
theorem Va:(Dc.get (.k kvs) (.int i))=some ((kvs.find? λe=>decide (e.1=i)).map (·.2)):=rfl
theorem YG{v:Int}(h:kvs.length<lim):Dc.put (.k kvs) (.int i) v=some (.k (putD kvs i v)):=by show(if _ then _ else _)=_;rw[if_pos h]
noncomputable def hsD(ws:List Wy)(d:D):D:=.int (hst ws (unS d))
theorem Ds{ws:List Wy}:∀{c:List aC},(c.map (hst ws)).sum=cC ws c|[]=>rfl|s::c=>by rw[map_cons,sum_cons,Ds,cC]
inductive F2s(a b:Sl)(ρ:List Sl):Prop where|mk(s:Sl)(q0:ρ=[a,b,s])(q1:fr s=true)
theorem Bb(hc:∀s∈c,s.1<ws.length)(A:c.length<=1000)(k:Q (.val (.int (cC ws c))) [.val false (aZ m ws),.val false (.tup (c.map sD))]):(run Γ w (n+2) 3 [.val false (aZ m ws),.val false (.tup (c.map sD))]).sat Q:=by
 refine aO (d:=f3) rfl rfl (by decide) ?_;symm;simp[f3,show c.length<=16777216 by omega];refine fU (F2s _ _) (hsD ws) ⟨.aQ,rfl,rfl⟩ ?_ ?_
 . rintro d hd _⟨z,rfl,h⟩;obtain⟨s,hs,rfl⟩:=mem_map.mp hd;have y:=hc s hs;have e:ws[s.1]?=some ws[s.1]:=by simp[y]
   simp[h,sD];refine vz e ?_;simp;refine⟨?_,_,rfl,rfl⟩;show D.int (hst ws (unS (sD s)))=_;rw[JB,iU e]
 rintro _⟨z,rfl,h⟩;have t:(c.map sD).map (hsD ws)=(c.map (hst ws)).map D.int:=by rw[map_map,map_map];rfl
 rw[t];have u:=Ds (ws:=ws) (c:=c);generalize c.map (hst ws)=ns at*;simp[km,u];exact k
noncomputable def gv(kvs:List (Int×Int))(k:Int):Int:=((kvs.find? λe=>decide (e.1=k)).map (·.2)).getD 0
noncomputable def Lin(W:Int->Int->Int):Prop:=∀k a b,W k (a+b)=W k a+W k b
noncomputable def uT(W:Int->Int->Int):List (Int×Int)->Int|[]=>0|kv::r=>W kv.1 kv.2+uT W r
theorem DX{W:Int->Int->Int}{b:List (Int×Int)}:∀{a:List (Int×Int)},uT W (a++b)=uT W a+uT W b|[]=>by simp[uT]|x::a=>by rw[cons_append,uT,uT,DX];omega
theorem CG{k v:Int}:∀{r:List (Int×Int)},k∉r.map (·.1)->(r.map λe=>if e.1=k then(e.1,v)else e)=r|[],_=>rfl|x::r,h=>by rw[map_cons,mem_cons,not_or]at h;rw[map_cons,CG h.2,if_neg (λz=>h.1 z.symm)]
theorem By{W:Int->Int->Int}(z:Lin W){k x:Int}:∀{r:List (Int×Int)},(r.map (·.1)).Nodup->k∈r.map (·.1)->uT W (r.map λe=>if e.1=k then(e.1,gv r k+x)else e)=uT W r+W k x
 |[],_,h=>by cases h|y::r,t,h=>by
   rw[map_cons,nodup_cons]at t;by_cases c:y.1=k
   . have u:gv (y::r) k=y.2:=by unfold gv;rw[find?_cons];simp[c]
     rw[u,map_cons,if_pos c,CG (by rw[<-c];exact t.1),uT,uT];show W y.1 (y.2+x)+_=_;rw[z,c];omega
   . have u:gv (y::r) k=gv r k:=by unfold gv;rw[find?_cons];simp[c]
     have A:k∈r.map (·.1):=by
      rcases mem_cons.mp h with h|h;.exact absurd h.symm c
      .exact h
     rw[u,map_cons,if_neg c,uT,uT,By z t.2 A];omega
theorem Wa(h:k∉r.map (·.1)):gv r k=0:=by
 unfold gv;rw[List.find?_eq_none.mpr];.rfl
 .intro x t;simp;intro e;exact h (mem_map.mpr ⟨x,t,e⟩)
theorem aak(h:∀t∈r,0<t.2):0<=gv r k:=by unfold gv;cases e:r.find? λt=>decide (t.1=k)with|none=>simp|some x=>have:=h x (List.mem_of_find?_eq_some e);simp;omega
theorem uc{x:Int}(u:(r.map (·.1)).Nodup):((putD r k (gv r k+x)).map (·.1)).Nodup/\(putD r k (gv r k+x)).length<=r.length+1/\(∀h∈putD r k (gv r k+x),h=(k,gv r k+x)\/h∈r)/\∀W,Lin W->uT W (putD r k (gv r k+x))=uT W r+W k x:=by
 have B:(r.any λh=>decide (h.1=k))=true↔k∈r.map (·.1):=by rw[any_eq_true,mem_map];exact⟨λ⟨y,h1,A⟩=>⟨y,h1,by simpa using A⟩,λ⟨y,h1,A⟩=>⟨y,h1,by simpa using A⟩⟩
 unfold putD;by_cases c:k∈r.map (·.1)
 . rw[if_pos (B.mpr c)];have e:(r.map λh=>if h.1=k then(h.1,gv r k+x)else h).map (·.1)=r.map (·.1):=by rw[map_map];refine map_congr_left λy _=>?_;show(if y.1=k then _ else _:Int×Int).1=y.1;split<;>rfl
   refine⟨by rw[e];exact u,by simp,λh t=>?_,λW C=>By C u c⟩;obtain⟨y,E,rfl⟩:=mem_map.mp t;by_cases z:y.1=k;.rw[if_pos z,z];exact .inl rfl
   .rw[if_neg z];exact .inr E
 . rw[if_neg λz=>c (B.mp z),Wa c,Int.zero_add];refine⟨?_,by simp,λh t=>?_,λW _=>?_⟩;.rw[map_append,nodup_append];exact⟨u,by simp,λa G b H e=>c (by
      have:b=k:=by simpa using H
      rw[<-this,<-e];exact G)⟩
   . rcases mem_append.mp t with hj|hj;.exact .inr hj
     .exact .inl (mem_singleton.mp hj)
   .rw[DX];simp[uT]
theorem Vu{v:Int}(h:r.Pairwise (λa b=>a.1<b.1))(u:∀y∈r,y.1<=k):(putD r k v).Pairwise (λa b=>a.1<b.1):=by
 unfold putD;split;.rw[List.pairwise_map];refine h.imp λ{a b}e=>?_;split<;>split<;>exact e
 .rename_i A;rw[List.pairwise_append];refine⟨h,by simp,λa t b B=>?_⟩;have h1:=u a t;have C:a.1≠k:=λz=>A (any_eq_true.mpr ⟨a,t,by simpa using z⟩);rw[mem_singleton.mp B];show a.1<k;omega
noncomputable def unP:D->Int×Int|.tup [.int a,.int b]=>(a,b)|_=>(0,0)
@[simp]theorem agq{a b:Int}:unP (.tup [.int a,.int b])=(a,b):=rfl
structure Uy(ws:List Wy)(cs:List (List aC×Int))(kvs:List (Int×Int)):Prop where
 nd:(kvs.map (·.1)).Nodup
 len:kvs.length<=cs.length
 nn:∀kv∈kvs,1<=kv.1/\0<kv.2
 key:∀kv∈kvs,∃x∈cs,kv.1=cC ws x.1
 so:kvs.Pairwise (λa b=>a.1<b.1)sm:∀W,Lin W->uT W kvs=dW (λx=>W (cC ws x.1) x.2) cs
theorem Uy.put(h:Uy ws cs kvs){x:List aC×Int}(h0:1<=cC ws x.1)(h1:0<x.2)(C:∀y∈cs,cC ws y.1<=cC ws x.1):Uy ws (cs++[x]) (putD kvs (cC ws x.1) (gv kvs (cC ws x.1)+x.2)):=by
 obtain⟨E,H,A,G⟩:=uc (k:=cC ws x.1) (x:=x.2) h.nd;have I:=h.len;refine⟨E,by simp;omega,λu t=>?_,λu t=>?_,Vu h.so λu t=>?_,λW B=>?_⟩
 . rcases A u t with e|e;.have:=aak (k:=cC ws x.1) λu t=>(h.nn u t).2;rw[e];exact⟨h0,by show 0<_+_;omega⟩
   .exact h.nn u e
 . rcases A u t with e|e;.exact⟨x,by simp,by rw[e]⟩
   .obtain⟨y,z,e⟩:=h.key u e;exact⟨y,by simp[z],e⟩
 .obtain⟨y,z,e⟩:=h.key u t;rw[e];exact C y z
 .rw[G W B,h.sm W B,ou]
theorem Kh{ws:List Wy}{b:Int}(h0:∀v∈ws,0<=v.h)(t:∀v∈ws,v.h<=1000000):∀{c:List aC}{a:Int},jC ws b c a->cC ws c<=1000000*(c.length:Int)
 |[],_,_=>by simp[cC]|s::c,a,⟨v,e,_,u⟩=>by
   have h1:=Kh h0 t u;have y:=t v (mem_of_getElem? e);have z:=h0 v (mem_of_getElem? e);have A:hst ws s<=1000000:=by rw[iU e];unfold hsp;split<;>omega
   rw[cC,length_cons];omega
theorem Uy.few(h:Uy ws cs kvs)(y:∀x∈cs,Chk m ws x)(z:ws.length<=12):kvs.length<=531441:=by
 have h1:=oH (l2:=(uL ws.length).map λe=>mj ws e/7) h.nd λk t=>by obtain⟨A,u,rfl⟩:=mem_map.mp t;obtain⟨x,B,e⟩:=h.key A u;obtain⟨c1,c2,c3,c4⟩:=y x B;refine mem_map.mpr ⟨Eo ws.length x.1,by have:=rW (e:=Eo ws.length x.1);rwa[vX]at this,?_⟩;rw[xx c3 c4,e];unfold zF;omega
 rw[length_map,length_map,tV]at h1;have C:3^ws.length<=3^12:=Nat.pow_le_pow_right (by decide) z;have E:(3:Nat)^12=531441:=by decide
 omega
inductive JBn(m:Int)(ws:List Wy)(cs:List (List aC×Int))(r:List D)(ρ:List Sl):Prop where|mk(cJ us:List (List aC×Int))(kvs:List (Int×Int))(s2 s3 s4:Sl)(q0:ρ=[.val false (aZ m ws),.iC (.k kvs),s2,s3,s4])(q1:A3 (fr s2=true) (fr s3=true) (fr s4=true))(q2:r=us.map cD)(q3:cJ++us=cs)(q4:Uy ws cJ kvs)
theorem Ew(Y:13286250<=w)(h:uK m ws)(k:∀cs fs F d es kvs,kvs.length<=531441->Ends m ws cs fs F d es->Uy ws cs kvs->kvs.Pairwise (λa b=>a.1<b.1)->(∀G∈kvs,G.1<=5000000)->Q (.own (kvs.map rA)) [.val false (aZ m ws)]):(run Γ w (n+5) 9 [.val false (aZ m ws)]).sat Q:=by
 refine aO (d:=f9) rfl rfl (by decide) ?_;symm;simp[f9,Oz];apply ak;simp;refine G8 Y (HN.ofR h) (λv B=>(h.ok v B).r0) λcs fs F d es hl z=>?_;simp;refine cA (JBn m ws cs) ?_ ?_ ⟨[],cs,[],.aQ,.aQ,.aQ,rfl,⟨rfl,rfl,rfl⟩,rfl,rfl,⟨by simp,by simp,by simp,by simp,by simp,λW _=>rfl⟩⟩;.rintro d r _⟨C,A,kvs,s2,s3,s4,rfl,⟨H,O,U⟩,hr,hd,t⟩;cases A with|nil=>cases hr|cons u A=>
     obtain⟨rfl,rfl⟩:d=cD u/\r=A.map cD:=by simpa using hr
     have I:u∈cs:=by rw[<-hd];simp
     have E:=z.ck u I;have Z:C.length<=cs.length:=by rw[<-hd];simp
     have J:=t.len;have L:(C++[u])++A=cs:=by rw[append_assoc];exact hd
     simp[cD,H,O];apply ak;simp;refine Bb E.2.1 (by have:=E.1;omega) ?_;simp[U];apply ak;simp[Px,Te,Va];rw[YG (by show _<16777216;omega)];simp;refine⟨C++[u],A,_,_,_,_,rfl,⟨rfl,rfl,rfl⟩,rfl,L,t.put ((z.iv.nn λv B=>(h.ok v B).h0).2 u I) (z.iv.ch u I).2.1 λy hy=>?_⟩;have hst:=z.st.1;rw[<-hd,List.pairwise_append]at hst;exact hst.2.2 y hy u (by simp)
 . rintro _⟨C,A,kvs,s2,s3,s4,rfl,⟨H,O,U⟩,hr,hd,t⟩;have:A=[]:=by cases A with|nil=>rfl|cons _ _=>cases hr
   subst this;rw[append_nil]at hd;subst hd;have J:=t.len;simp;apply ak;simp[show kvs.length<=16777216 by omega,t.so];refine k C fs F d es kvs (t.few z.ck (HN.ofR h).len) z t t.so λG M=>?_;obtain⟨x,X,e⟩:=t.key G M;have h1:=Kh (λv B=>((HN.ofR h).ok v B).2.2) (λv B=>(h.ok v B).h1) (z.ck x X).2.2.1;have H:=(z.ck x X).1;rw[e];omega
noncomputable def vt(T k v:Int):Int:=if k<=T then v*(T-k+1)else 0
noncomputable def gt(T k v:Int):Int:=if k<=T then v else 0
theorem Vi{T:Int}:Lin (vt T):=λk a b=>by
 unfold vt;split;.exact Int.add_mul ..
 .rfl
theorem ad9{T:Int}:Lin (gt T):=λk a b=>by unfold gt;split<;>rfl
noncomputable def eZ(m:Int)(ws:List Wy)(cs:List (List aC×Int)):Prop:=(∀v∈ws,1<=v.h)/\∃fs F d es,Ends m ws cs fs F d es
noncomputable def Rt(ws:List Wy)(cs:List (List aC×Int))(T:Int):Int:=dW (λx=>gt T (cC ws x.1) x.2) cs
noncomputable def Tot(cs:List (List aC×Int)):Int:=dW (λx=>x.2) cs
theorem gG.uniq{T v e:Int}(h:gG m ws T v)(h':gG m ws T e):v=e:=by obtain⟨q,t,u,y⟩:=h.ex;obtain⟨r,r0,r1,z⟩:=h'.ex;have:=h.le r r0 r1;have:=h'.le q t u;omega
theorem eZ.least{m:Int}{ws:List Wy}{cs:List (List aC×Int)}(h:eZ m ws cs){T:Int}(h0:0<=T):gG m ws T (val ws T cs):=by obtain⟨t,fs,F,d,es,e⟩:=h;exact e.iv.least e.cm e.no h0
theorem zg{H K:List aC×Int->Int}:∀{cs:List (List aC×Int)},dW (λx=>H x-K x) cs=dW H cs-dW K cs|[]=>rfl|x::cs=>by rw[dW,dW,dW,zg];omega
theorem wY{H K:List aC×Int->Int}:∀{cs:List (List aC×Int)},(∀x∈cs,H x<=K x)->dW H cs<=dW K cs|[],_=>Int.le_refl _|x::cs,h=>by have h1:=h x (by simp);have t:=wY (H:=H) (K:=K) (cs:=cs) λy e=>h y (by simp[e]);rw[dW,dW];omega
theorem Bd{T:Int}:Rt ws cs T=val ws T cs-val ws (T-1) cs:=by
 unfold Rt val;rw[<-zg];refine rH λx _=>?_;show gt T (cC ws x.1) x.2=vt T (cC ws x.1) x.2-vt (T-1) (cC ws x.1) x.2;unfold gt vt;by_cases c:cC ws x.1<=T-1;.rw[if_pos (by omega),if_pos (by omega),if_pos c,<-Int.mul_sub,show T-cC ws x.1+1-(T-1-cC ws x.1+1)=1 by omega,mul_one]
 . by_cases c2:cC ws x.1<=T;.rw[if_pos c2,if_pos c2,if_neg c,show T-cC ws x.1+1=1 by omega,mul_one];omega
   .rw[if_neg c2,if_neg c2,if_neg c];rfl
theorem eZ.nn{m:Int}{ws:List Wy}{cs:List (List aC×Int)}(h:eZ m ws cs):∀x∈cs,1<=cC ws x.1/\0<x.2:=by obtain⟨e,fs,F,d,es,t⟩:=h;exact λx u=>⟨(t.iv.nn e).2 x u,(t.iv.ch x u).2.1⟩
theorem eZ.dB(h:eZ m ws cs){T:Int}(h0:T<=0):val ws T cs=0:=by
 have:val ws T cs=dW (λ_=>0) cs:=rH λx e=>by have:=(h.nn x e).1;show vt T (cC ws x.1) x.2=0;unfold vt;rw[if_neg (by omega)]
 rw[this];clear this h;induction cs with|nil=>rfl|cons x cs t=>rw[dW,t];rfl
theorem eZ.val_eq{e:List (List aC×Int)}(h:eZ m ws cs)(h':eZ m ws e)(T:Int):val ws T cs=val ws T e:=by
 by_cases c:0<=T;.exact(h.least c).uniq (h'.least c)
 .rw[h.dB (by omega),h'.dB (by omega)]
theorem eZ.agp{e:List (List aC×Int)}(h:eZ m ws cs)(h':eZ m ws e)(T:Int):Rt ws cs T=Rt ws e T:=by rw[Bd,Bd,h.val_eq h',h.val_eq h']
theorem eZ.mono(h:eZ m ws cs){T U:Int}(t:T<=U):Rt ws cs T<=Rt ws cs U:=wY λx e=>by have:=(h.nn x e).2;unfold gt;split<;>split<;>omega
theorem eZ.agE(h:eZ m ws cs){T:Int}:Rt ws cs T<=Tot cs:=wY λx e=>by have:=(h.nn x e).2;unfold gt;split<;>omega
theorem eZ.ag7(h:eZ m ws cs){T:Int}:0<=Rt ws cs T:=by
 have h1:=h.mono (T:=min T 0) (U:=T) (by omega);have:Rt ws cs (min T 0)=0:=by rw[Bd,h.dB (by omega),h.dB (by omega)];rfl
 omega
noncomputable def moD(T:Int)(d:D):Option D:=if(unP d).1<=T then some (.int ((unP d).2*(T-(unP d).1+1)))else none
theorem G5{T:Int}:∀(kvs:List (Int×Int)),∃ns:List Int,(kvs.map rA).filterMap (moD T)=ns.map D.int/\ns.sum=uT (vt T) kvs
 |[]=>⟨[],rfl,rfl⟩|kv::r=>by
   obtain⟨ns,h1,h⟩:=G5 (T:=T) r;have e:moD T (rA kv)=if kv.1<=T then some (.int (kv.2*(T-kv.1+1)))else none:=rfl;rw[map_cons,filterMap_cons,h1,uT,<-h,e];unfold vt;by_cases c:kv.1<=T;.rw[if_pos c,if_pos c];exact⟨_::ns,rfl,by rw[sum_cons]⟩
   .rw[if_neg c,if_neg c];exact⟨ns,rfl,by omega⟩
inductive F2t(a b:Sl)(ρ:List Sl):Prop where|mk(s:Sl)(t:Sl)(q0:ρ=[a,b,s,t])(q1:fr s=true)(q2:fr t=true)
theorem Al{T:Int}{s:Sl}(hs:s=.own false (kvs.map rA)\/s=.val false (.lst (kvs.map rA)))(A:kvs.length<=16000000)(h0:∀h∈kvs,1<=h.1/\0<h.2)(B:T<=1000000000000000000)(k:Q (.val (.int (uT (vt T) kvs))) [s,.val false (.int T)]):(run Γ w (n+1) 17 [s,.val false (.int T)]).sat Q:=by refine aO (d:=f17) rfl rfl (by decide) ?_;symm;rcases hs with rfl|rfl;all_goals
  simp[f17,show kvs.length<=16777216 by omega];refine Gi (F2t _ _) (moD T) ⟨.aQ,.aQ,rfl,rfl,rfl⟩ ?_ ?_
  . rintro d hd _⟨s,t,rfl,hs,ht⟩;obtain⟨h,u,rfl⟩:=mem_map.mp hd;have:=(h0 h u).1;have e:moD T (rA h)=if h.1<=T then some (.int (h.2*(T-h.1+1)))else none:=rfl;by_cases c:h.1<=T
    . rw[if_pos c]at e;have y:nG (.int h.2) (.int (T-h.1+1))=some (.val (.int (h.2*(T-h.1+1)))):=by show(if _ then _ else _)=_;rw[if_pos];right;omega
      rw[e];simp[hs,ht,rA,c,y];exact⟨_,_,rfl,rfl,rfl⟩
    .rw[if_neg c]at e;rw[e];simp[hs,ht,rA,c];exact⟨_,_,rfl,rfl,rfl⟩
  .rintro _⟨s,t,rfl,hs,ht⟩;obtain⟨ns,h1,z⟩:=G5 (T:=T) kvs;rw[h1];simp[km,z];exact k
theorem zR{T:Int}(t:13286250<=w)(h:uK m ws)(u:T<=1000000000000000000)(k:∀cs,eZ m ws cs->Q (.val (.int (val ws T cs))) [.val false (aZ m ws),.val false (.int T)]):(run Γ w (n+6) 18 [.val false (aZ m ws),.val false (.int T)]).sat Q:=by refine aO (d:=f18) rfl rfl (by decide) ?_;symm;simp[f18];refine Ew t h λcs fs F d es kvs A y e _ _=>?_;simp;refine Al (.inl rfl) (by omega) e.nn u ?_;simp;rw[e.sm _ Vi];exact k cs ⟨λv z=>(h.ok v z).h0,fs,F,d,es,y⟩
theorem adX:Ey v.d (.int 0)=some (.val (.int v.s)):=by simp[Wy.d]
theorem adg:Ey v.d (.int 1)=some (.val (.int v.t)):=by simp[Wy.d]
theorem aaH:Ey v.d (.int 2)=some (.val (.int v.r)):=by simp[Wy.d]
theorem ae4:Ey v.d (.int 3)=some (.val (.int v.h)):=by simp[Wy.d]
theorem lN(e:ws[j]?=some v)(k:Q (.val v.d) [.val false (aZ m ws),.val false (.int j)]):(run Γ w (n+1) 15 [.val false (aZ m ws),.val false (.int j)]).sat Q:=by have h:=(eV e).1;refine aO (d:=QK) rfl rfl (by decide) ?_;symm;simp[QK,h];apply ak;simp[fB e];exact k
theorem PN{e:Type}{xs:List e}(h0:0<=k)(h1:k<(xs.length:Int)):cut xs none (some k)=xs.take k.toNat:=by unfold cut dH;simp[h0];try rw[Nat.min_eq_left (by omega)]
theorem Oo{h:Type}{xs:List h}(h0:0<=k)(h1:k<(xs.length:Int)):cut xs (some (k+1)) none=xs.drop (k.toNat+1):=by
 unfold cut dH;have e:(k+1).toNat=k.toNat+1:=by omega
 simp[show 0<=k+1 by omega,e];try rw[Nat.min_eq_left (by omega)]
 try rw[List.take_of_length_le (by simp)]
theorem Wf{e:Type}{ws:List e}{v:e}(h:j<ws.length):ws.take j++v::ws.drop (j+1)=ws.set j v:=by rw[List.set_eq_take_append_cons_drop,if_pos h]
theorem pq{r:Int}(h:jh m ws)(e:ws[j]?=some v)(k:Q (.val (aZ m (ws.set j ⟨v.s,v.t,r,v.h⟩))) [.val false (aZ m ws),.val false (.int j),.val false (.int r)]):(run Γ w (n+2) 16 [.val false (aZ m ws),.val false (.int j),.val false (.int r)]).sat Q:=by have u:=(eV e).1;have y:=h.len;have c1:=PN (xs:=ws.map Wy.d) (k:=(j:Int)) (by omega) (by simp;omega);have c2:=Oo (xs:=ws.map Wy.d) (k:=(j:Int)) (by omega) (by simp;omega);refine aO (d:=Yy) rfl rfl (by decide) ?_;symm;simp[Yy];refine lN e ?_;simp;apply ak;simp[adX,adg,ae4];apply ak;simp[PB,part,Wo,c1,c2];refine⟨by show _<=16777216;omega,by show _<=16777216;omega,?_⟩;rw[<-Wf u]at k;simpa[aZ,Wy.d]using k
noncomputable def eY(row:List Int)(i:Int):Int:=row.getD i.toNat 0
theorem lJ{row:List Int}(h0:0<=i)(h:i<(row.length:Int)):at' (row.map D.int) i=some (.int (eY row i)):=by
 rw[o4 h0 (by simpa using h)];have:i.toNat<row.length:=by omega
 simp[eY,this]
noncomputable def mZ(T:Int)(row:List Int):List (List Int):=(List.range (T+2).toNat).map λ(h:Nat)=>row++[(h:Int)]
noncomputable def di(T:Int):Nat->List (List Int)|0=>[[0]]|j+1=>(di T j).flatMap (mZ T)
noncomputable def jg(row:List Int):D:=.lst (row.map D.int)
theorem m8{T:Int}(e:T<=12):∀{j:Nat},(di T j).length<=14^j
 |0=>by simp[di]|j+1=>by
   rw[di,List.length_flatMap];have h:=m8 e (j:=j);have:∀(l:List (List Int)),(l.map λa=>(mZ T a).length).sum<=l.length*14:=λl=>by induction l with|nil=>simp|cons a l h=>
      rw[map_cons,sum_cons,length_cons];have:(mZ T a).length<=14:=by simp[mZ];omega
      omega
   have:=this (di T j);rw[Nat.pow_succ];omega
theorem lq{T:Int}:∀{j:Nat}{row:List Int},row∈di T j->row.length=j+1/\row[0]?=some 0|0,row,h=>by rw[di,mem_singleton]at h;subst h;simp|j+1,row,h=>by rw[di,List.mem_flatMap]at h;obtain⟨r,hr,h⟩:=h;obtain⟨i,_,rfl⟩:=mem_map.mp h;have:=lq hr;refine⟨by simp[this.1],?_⟩;rw[getElem?_append_left (by omega)];exact this.2
theorem tG{T:Int}{q:Int->Int}(h:q 0=0)(e:∀i,0<=q i/\q i<=T+1):∀{j:Nat},(List.range (j+1)).map (λ(i:Nat)=>q (i:Int))∈di T j
 |0=>by simp[di,h]|j+1=>by
   rw[di,List.mem_flatMap];refine⟨_,tG h e (j:=j),?_⟩;refine mem_map.mpr ⟨(q ((j+1:Nat):Int)).toNat,?_,?_⟩;.have:=e ((j+1:Nat):Int);rw[List.mem_range];omega
   .rw[List.range_succ (n:=j+1),map_append,Int.toNat_of_nonneg (e _).1];rfl
theorem MT{c:Call}{x:Nat}{e:P}:ex c n (.Lh x e) ρ=(lift (Ad ρ x) ρ).bind λ_ ρ=>(ev c e ρ).bind λr ρ=>match ρ[x]?,r with|some (.own b h),.own es=>if h.length+es.length<=lim then .ok .next (ρ.set x (.own b (h++es)))else .stuck|_,_=>.stuck:=(rfl)
noncomputable def LO(s:Sl)(e:List D):Prop:=s=.own false e\/s=.val false (.lst e)
inductive JAc(T:Int)(a0 a1:Sl)(i:Nat)(ρ:List Sl):Prop where|mk(s2:Sl)(s3:Sl)(s4:Sl)(s5:Sl)(q0:ρ=[a0,a1,s2,s3,s4,s5])(q1:LO s2 ((di T i).map jg))(q2:A3 (fr s3=true) (fr s4=true) (fr s5=true))
inductive JAd(T:Int)(rows:List (List Int))(a0 a1 a2 a3:Sl)(r:List D)(ρ:List Sl):Prop where|mk(cJ us:List (List Int))(s5:Sl)(q0:ρ=[a0,a1,a2,a3,.own false ((cJ.flatMap (mZ T)).map jg),s5])(q1:fr s5=true)(q2:r=us.map jg)(q3:cJ++us=rows)
inductive F6a(a0 a1 a2 a3 a4 a5:Sl)(ρ:List Sl):Prop where|mk(s:Sl)(q0:ρ=[a0,a1,a2,a3,a4,a5,s])(q1:fr s=true)
noncomputable def TQ(row:List Int):D->D|.int h=>jg (row++[h])|d=>d
noncomputable def Wl(x:Int):D->D|.lst e=>.lst (e++[.int x])|d=>d
theorem zb{T:Int}{row:List Int}(h:T<=12):(mZ T row).length<=14:=by simp[mZ];omega
theorem xY{T:Int}(e:T<=12):∀{l:List (List Int)},(l.flatMap (mZ T)).length<=l.length*14|[]=>by simp|a::l=>by have h1:=xY e (l:=l);have h:=zb (row:=a) e;rw[List.flatMap_cons,length_append,length_cons];omega
theorem KY{T:Int}(m0:2<=m)(m1:m<=6)(h0:0<=T)(G:T<=12)(k:Q (.own (((di T (m-2).toNat).map λrow=>row++[T+1]).map jg)) [.val false (.int m),.val false (.int T)]):(run Γ w (n+1) 27 [.val false (.int m),.val false (.int T)]).sat Q:=by
 refine aO (d:=f27) rfl rfl (by decide) ?_;symm;simp[f27];have A:∀i:Nat,i<=4->(di T i).length<=38416:=λi hi=>by
  have h1:=m8 G (j:=i);have:i=0\/i=1\/i=2\/i=3\/i=4:=by omega
  rcases this with rfl|rfl|rfl|rfl|rfl<;>omega
 refine dJ (JAc T (.val false (.int m)) (.val false (.int T)) (m-2).toNat) ?_ ?_
 . simp[show m-2<=1000000000 by omega,show-1000000000<=m-2 by omega];refine jl (JAc T (.val false (.int m)) (.val false (.int T))) ?_ ?_ ⟨_,.aQ,.aQ,.aQ,rfl,.inl rfl,rfl,rfl,rfl⟩
   . rintro i _ hi⟨s2,s3,s4,s5,rfl,z,C,E,h⟩;have J:=A i (by omega);simp[C];apply ak;simp[E];refine dJ (λρ=>∃s2 s5,ρ=[.val false (.int m),.val false (.int T),s2,.val false (.int (i:Int)),.own false ((di T (i+1)).map jg),s5]/\LO s2 ((di T i).map jg)/\fr s5=true) ?_ ?_;.rcases z with rfl|rfl;all_goals
        simp;refine cA (JAd T (di T i) _ _ _ _) ?_ ?_ ⟨[],di T i,s5,rfl,h,rfl,rfl⟩;.rintro d r _⟨t,y,s5,rfl,h,hr,hd⟩;cases y with|nil=>cases hr|cons u y=>
            obtain⟨rfl,rfl⟩:d=jg u/\r=y.map jg:=by simpa using hr
            have L:t.length<=(di T i).length:=by rw[<-hd];simp
            have M:=xY G (l:=t);have H:(t++[u])++y=di T i:=by rw[append_assoc];exact hd
            have I:=(lq (T:=T) (j:=i) (row:=u) (by rw[<-hd];simp)).1;have O:=zb (row:=u) G;simp[h];apply ak;simp[MT,show T+2<=1000000000 by omega,show-1000000000<=T+2 by omega];refine⟨λ_=>?_,by omega⟩;refine fU (F6a _ _ _ _ _ _) (TQ u) ⟨.aQ,rfl,rfl⟩ ?_ ?_;.rintro d hd _⟨s,rfl,hs⟩;obtain⟨j,_,rfl⟩:=mem_map.mp hd;simp[hs,jg,TQ,show u.length+1<=lim by show _<=16777216;omega];exact⟨_,rfl,rfl⟩
            . rintro _⟨s,rfl,hs⟩;have e:((List.range (T+2).toNat).map λ(k:Nat)=>D.int (k:Int)).map (TQ u)=(mZ T u).map jg:=by rw[map_map,mZ,map_map];rfl
              have U:(t++[u]).flatMap (mZ T)=t.flatMap (mZ T)++mZ T u:=by simp
              rw[e];have B:(List.flatMap (mZ T) t).length+(mZ T u).length<=lim:=by show _<=16777216;omega
              simp only[List.getElem?_cons_succ,List.getElem?_cons_zero,length_map];rw[if_pos B];simp;exact⟨t++[u],y,.val false (jg u),by rw[U,map_append],rfl,rfl,H⟩
        . rintro _⟨t,y,s5,rfl,h,hr,hd⟩;have:y=[]:=by cases y with|nil=>rfl|cons _ _=>cases hr
          subst this;rw[append_nil]at hd;subst hd;simp;exact⟨_,_,⟨rfl,rfl,rfl⟩,by first|exact .inl rfl|exact .inr rfl,h⟩
     .rintro _⟨s2,s5,rfl,z,h⟩;symm;rcases z with rfl|rfl;all_goals simp;exact⟨_,_,_,_,rfl,.inr rfl,rfl,rfl,h⟩
   .rintro _⟨s2,s3,s4,s5,rfl,z,C,E,h⟩;exact⟨rfl,_,_,_,_,rfl,z,C,E,h⟩
 rintro _⟨s2,s3,s4,s5,rfl,z,C,E,h⟩;have J:=A (m-2).toNat (by omega);symm;rcases z with rfl|rfl;all_goals
  simp[show(di T (m-2).toNat).length<=16777216 by omega];refine fU (F6a _ _ _ _ _ _) (Wl (T+1)) ⟨.aQ,rfl,rfl⟩ ?_ ?_;.rintro d hd _⟨s,rfl,hs⟩;obtain⟨u,W,rfl⟩:=mem_map.mp hd;have I:=(lq W).1;simp[hs,jg,Wl,show u.length+1<=lim by show _<=16777216;omega];exact⟨_,rfl,rfl⟩
  . rintro _⟨s,rfl,hs⟩;have e:((di T (m-2).toNat).map jg).map (Wl (T+1))=((di T (m-2).toNat).map λrow=>row++[T+1]).map jg:=by rw[map_map,map_map];refine map_congr_left λrow _=>?_;show D.lst (row.map D.int++[.int (T+1)])=D.lst ((row++[T+1]).map D.int);rw[map_append];rfl
    rw[e];simpa using k
theorem ab5(S:List Int):(S.map D.int).map qt=S:=by rw[map_map];exact(map_congr_left λ_ _=>rfl).trans (List.map_id _)
noncomputable def N6(T:Int)(q:Int->Int)(p:Int):Int:=max 0 (min (T+1) (q p))
theorem DY{H K:Wy->Int}:∀{ws:List Wy},(∀v∈ws,H v<=K v)->uf H ws<=uf K ws|[],_=>Int.le_refl _|v::ws,h=>by have h1:=h v (by simp);have t:=DY (H:=H) (K:=K) (ws:=ws) λu e=>h u (by simp[e]);rw[uf,uf];omega
theorem G4{T:Int}{r:Int->Int}(h:uK m ws)(hr:∀p,0<=p->p<m->r p=N6 T q p):gh r ws<=gh q ws:=DY λv e=>by have ho:=h.ok v e;have h0:=ho.h0;unfold qd;refine Int.mul_le_mul_of_nonneg_left ?_ ho.r0;rw[hr _ ho.s0 ho.s1,hr _ ho.t0 ho.t1];unfold N6;omega
theorem Bk{T v:Int}(h:uK m ws)(h0:0<=T)(t:gG m ws T v):(∀row∈(di T (m-2).toNat).map λrow=>row++[T+1],v<=gh (eY row) ws)/\∃row∈(di T (m-2).toNat).map λrow=>row++[T+1],gh (eY row) ws<=v:=by
 have m0:=h.m0;refine⟨λrow e=>?_,?_⟩
 . obtain⟨u,y,rfl⟩:=mem_map.mp e;have:=lq y;refine t.le _ ?_ ?_;.unfold eY;rw[List.getD_eq_getElem?_getD,show(0:Int).toNat=0 from rfl,getElem?_append_left (by omega),this.2];rfl
   .unfold eY;rw[List.getD_eq_getElem?_getD,getElem?_append_right (by omega),show(m-1).toNat-u.length=0 by omega];rfl
 . obtain⟨q,C,E,z⟩:=t.ex;have hc:∀i,0<=N6 T q i/\N6 T q i<=T+1:=λi=>by unfold N6;omega
   have A:=tG (T:=T) (q:=N6 T q) (by unfold N6;omega) hc (j:=(m-2).toNat);refine⟨_,mem_map.mpr ⟨_,A,rfl⟩,?_⟩;rw[<-z];refine G4 (T:=T) h λp B G=>?_;unfold eY;rw[List.getD_eq_getElem?_getD];by_cases c:p=m-1;.rw[getElem?_append_right (by simp;omega),c];simp only[length_map,length_range];rw[show(m-1).toNat-((m-2).toNat+1)=0 by omega];show T+1=_;unfold N6;omega
   .rw[getElem?_append_left (by simp;omega),getElem?_map,List.getElem?_range (by omega)];show N6 T q (p.toNat:Int)=_;rw[Int.toNat_of_nonneg B]
theorem Cq{c:Call}{e:P}:ex c n (.Bq e) ρ=(ev c e ρ).bind λr ρ=>.ok (.ret r) ρ:=(rfl)
theorem oA{T:Int}(e:13286250<=w)(h:uK m ws)(h0:0<=T)(u:T<=12)(k:∀v,gG m ws T v->Q (.val (.int v)) [.val false (aZ m ws),.val false (.int T)]):(run Γ w (n+6) 18 [.val false (aZ m ws),.val false (.int T)]).sat Q:=zR e h (by omega) λ_ t=>k _ (t.least h0)
theorem Gp{T:Int}(u:13286250<=w)(h:jh m ws)(e:ws[j]?=some v)(h0:0<=T)(y:T<=12)(k:∀a b,gG m (ws.set j ⟨v.s,v.t,v.r+1,v.h⟩) T a->gG m ws T b->Q (.val (.int (a-b))) [.val false (aZ m ws),.val false (.int T),.val false (.int j)]):(run Γ w (n+7) 20 [.val false (aZ m ws),.val false (.int T),.val false (.int j)]).sat Q:=by have r0:=(h.ok v (mem_of_getElem? e)).r0;refine aO (d:=VD) rfl rfl (by decide) ?_;symm;simp[VD];refine lN e ?_;simp[aaH];apply ak;simp;refine pq h e ?_;simp;refine oA u (h.XF.set e (by omega)) h0 y λa z=>?_;simp;refine oA u h.XF h0 y λb A=>?_;simp;exact k a b z A
theorem Hh{T:Int}(u:13286250<=w)(h:jh m ws)(e:ws[j]?=some v)(h0:0<=T)(y:T<=12)(k:∀a b r,(0<v.r->r=v.r-1)->(v.r=0->r=0)->gG m ws T a->gG m (ws.set j ⟨v.s,v.t,r,v.h⟩) T b->Q (.val (.int (a-b))) [.val false (aZ m ws),.val false (.int T),.val false (.int j)]):(run Γ w (n+7) 21 [.val false (aZ m ws),.val false (.int T),.val false (.int j)]).sat Q:=by
 have r0:=(h.ok v (mem_of_getElem? e)).r0;refine aO (d:=V6) rfl rfl (by decide) ?_;symm;simp[V6];refine lN e ?_;simp[aaH];apply ak;simp;refine oA u h.XF h0 y λa A=>?_;have key:∀r:Int,(0<v.r->r=v.r-1)->(v.r=0->r=0)->0<=r:=λr h1 B=>by
  by_cases c:v.r=0;.rw[B c];omega
  .rw[h1 (by omega)];omega
 by_cases c:1<v.r;.simp[c,show 0<v.r-1 by omega];refine pq h e ?_;simp;refine oA u (h.XF.set e (by omega)) h0 y λb z=>?_;simp;exact k a b _ (λ_=>rfl) (by omega) A z
 .simp[c,show ¬ 0<v.r-1 by omega];refine pq h e ?_;simp;refine oA u (h.XF.set e (by omega)) h0 y λb z=>?_;simp;exact k a b _ (by omega) (λ_=>rfl) A z
noncomputable def gp(row:List Int)(v:Wy):Int:=if v.h<eY row v.t-eY row v.s then eY row v.t-eY row v.s-v.h else 0
theorem Oa{row:List Int}(h:jh m ws)(e:ws[j]?=some v)(t:(row.length:Int)=m)(k:Q (.val (.int (gp row v))) [.val false (aZ m ws),.val false (jg row),.val false (.int j)]):(run Γ w (n+2) 22 [.val false (aZ m ws),.val false (jg row),.val false (.int j)]).sat Q:=by have ho:=h.ok v (mem_of_getElem? e);have c1:=lJ (row:=row) ho.s0 (by have:=ho.s1;omega);have c2:=lJ (row:=row) ho.t0 (by have:=ho.t1;omega);refine aO (d:=VR) rfl rfl (by decide) ?_;symm;simp[VR,Cq];refine lN e ?_;simp;refine aO (d:=f19) rfl rfl (by decide) ?_;symm;simp[f19,Wy.d,jg,c1,c2];exact k
theorem vq{q:Int->Int}{u:Wy}:∀{ws:List Wy},gh q (ws++[u])=gh q ws+u.r*max 0 (q u.t-q u.s-u.h)|[]=>by show qd q u+0=0+_;unfold qd;omega|w::ws=>by have:=vq (q:=q) (u:=u) (ws:=ws);show qd q w+gh q (ws++[u])=qd q w+gh q ws+_;omega
theorem Em{k:Nat}{u:Wy}(e:ws[k]?=some u):gh q (ws.take (k+1))=gh q (ws.take k)+u.r*max 0 (q u.t-q u.s-u.h):=by rw[List.take_add_one,e];exact vq
inductive JMi(q:Int->Int)(us:List Wy)(a0 a1 a2 a3 a4 a5:Sl)(i:Nat)(ρ:List Sl):Prop where|mk(s7:Sl)(s8:Sl)(s9:Sl)(jj:Sl)(rB:Sl)(q0:ρ=[a0,a1,a2,a3,a4,a5,.val false (.int (gh q (us.take i))),s7,s8,s9,jj,rB])(q1:A5 (fr s7=true) (fr s8=true) (fr s9=true) (fr jj=true) (fr rB=true))
inductive JMo(ws:List Wy)(rows:List (List Int))(a0 a1 a2 a3:Sl)(r:List D)(ρ:List Sl):Prop where|mk(cJ us:List (List Int))(s5 s6 s7 s8 s9 jj rB:Sl)(q0:ρ=[a0,a1,a2,a3,.own false ((cJ.map λrow=>gh (eY row) ws).map D.int),s5,s6,s7,s8,s9,jj,rB])(q1:A7 (fr s5=true) (fr s6=true) (fr s7=true) (fr s8=true) (fr s9=true) (fr jj=true) (fr rB=true))(q2:r=us.map jg)(q3:cJ++us=rows)
theorem pU{x:Int}{A:List (List Int)}(h:jh m ws)(e:ws[j]?=some v)(ai:-1<=x)(al:x<=1)(U:∀row∈A,(row.length:Int)=m)(X:A≠[])(hb:A.length<=38416)(k:∀d,(∃row∈A,gh (eY row) (ws.set j ⟨v.s,v.t,v.r+x,v.h⟩)=d)->(∀row∈A,d<=gh (eY row) (ws.set j ⟨v.s,v.t,v.r+x,v.h⟩))->Q (.val (.int d)) [.val false (aZ m ws),.own true (A.map jg),.val false (.int j),.val false (.int x)]):(run Γ w (n+1) 28 [.val false (aZ m ws),.own true (A.map jg),.val false (.int j),.val false (.int x)]).sat Q:=by
 have am:=h.len;have hj:=(eV e).1;generalize hW:ws.set j ⟨v.s,v.t,v.r+x,v.h⟩=W at*;have ap:W.length=ws.length:=by rw[<-hW];simp
 refine aO (d:=f28) rfl rfl (by decide) ?_;symm;simp[f28];apply ak;simp;refine cA (JMo W A _ _ _ _) ?_ ?_ ⟨[],A,.aQ,.aQ,.aQ,.aQ,.aQ,.aQ,.aQ,rfl,⟨rfl,rfl,rfl,rfl,rfl,rfl,rfl⟩,rfl,rfl⟩;.rintro d r _⟨E,G,s5,s6,s7,s8,s9,jj,rB,rfl,⟨h5,Y,I,J,L,B,C⟩,hr,hd⟩;cases G with|nil=>cases hr|cons u G=>
     obtain⟨rfl,rfl⟩:d=jg u/\r=G.map jg:=by simpa using hr
     have ar:=U u (by rw[<-hd];simp);have aw:E.length<=A.length:=by rw[<-hd];simp
     have Z:(E++[u])++G=A:=by rw[append_assoc];exact hd
     simp[h5];apply ak;simp[Y];refine dJ (JMi (eY u) W (.val false (aZ m ws)) (.lent (A.map jg)) (.val false (.int j)) (.val false (.int x)) (.own false ((E.map λrow=>gh (eY row) W).map D.int)) (.val false (jg u)) ws.length) ?_ ?_
     . simp[show(ws.length:Int)<=1000000000 by omega];refine jl (JMi (eY u) W (.val false (aZ m ws)) (.lent (A.map jg)) (.val false (.int j)) (.val false (.int x)) (.own false ((E.map λrow=>gh (eY row) W).map D.int)) (.val false (jg u))) ?_ ?_ ⟨s7,s8,s9,jj,rB,by simp[gh,uf],I,J,L,B,C⟩
       . rintro i _ hi⟨s7,s8,s9,jj,rB,rfl,I,J,L,B,C⟩;have M:ws[i]?=some ws[i]:=by simp[hi]
         have H:=h.ok _ (mem_of_getElem? M);have a1:=fB (f:=Wy.d) M;have ac:W[i]?=some (if i=j then⟨v.s,v.t,v.r+x,v.h⟩else ws[i]):=by
          rw[<-hW];by_cases c:i=j;.subst c;rw[getElem?_set_self hj,if_pos rfl]
          .rw[fL c,if_neg c];exact M
         have ae:i=j->ws[i]=v:=λc=>by subst c;rw[e]at M;exact(Option.some.inj M).symm
         have es:=Em (q:=eY u) ac;generalize ws[i]=y at*;have c1:=lJ (row:=u) H.s0 (by have:=H.s1;omega);have c2:=lJ (row:=u) H.t0 (by have:=H.t1;omega);have mo:∀{a b:Int},-1<=a/\a<=1000000001->nG (.int a) (.int b)=some (.val (.int (a*b))):=λ{a b}ha=>by show(if _ then _ else _)=_;rw[if_pos];left;omega
         have r0:=H.r0;have r1:=H.r1;have el:∀z:Wy,max 0 (eY u z.t-eY u z.s-z.h)=if z.h<eY u z.t-eY u z.s then eY u z.t-eY u z.s-z.h else 0:=λz=>by split<;>omega
         simp[I];apply ak;simp[a1,Wy.d,J,L,B,C];apply ak;by_cases c:i=j;.subst c;obtain rfl:=ae rfl;rw[if_pos rfl]at es;simp;apply ak;simp;apply ak;simp[jg,c1,c2,mo (show-1<=y.r+x/\y.r+x<=1000000001 by omega)];rw[el]at es;rw[<-es];exact⟨_,_,_,_,_,rfl,rfl,rfl,rfl,rfl,rfl⟩
         . rw[if_neg c]at es;have c':¬(i:Int)=(j:Int):=by omega
           simp[c',c];apply ak;simp[jg,c1,c2,mo (show-1<=y.r/\y.r<=1000000001 by omega)];rw[el]at es;rw[<-es];exact⟨_,_,_,_,_,rfl,rfl,rfl,rfl,rfl,rfl⟩
       .rintro _⟨s7,s8,s9,jj,rB,rfl,hs⟩;exact⟨rfl,s7,s8,s9,jj,rB,by simp,hs⟩
     rintro _⟨s7,s8,s9,jj,rB,rfl,I,J,L,B,C⟩;rw[List.take_of_length_le (by omega)];symm;simp[show E.length<16777216 by omega];exact⟨E++[u],G,.val false (jg u),.val false (.int (gh (eY u) W)),s7,s8,s9,jj,rB,by simp,⟨rfl,rfl,I,J,L,B,C⟩,rfl,Z⟩
 . rintro _⟨E,G,s5,s6,s7,s8,s9,jj,rB,rfl,hs,hr,hd⟩;have:G=[]:=by cases G with|nil=>rfl|cons _ _=>cases hr
   subst this;rw[append_nil]at hd;subst hd;obtain⟨z,af,ag,ah⟩:=J9 (ns:=E.map λrow=>gh (eY row) W) (by simpa using X);have hk:=k z (mem_map.mp ag) λrow O=>ah _ (mem_map.mpr ⟨row,O,rfl⟩);generalize(E.map λrow=>gh (eY row) W)=ns at*;simp;apply ak;simp[km,af];exact hk
theorem Ol{T d x:Int}(h:jh m ws)(e:ws[j]?=some v)(h0:0<=T)(hr:0<=v.r+x)(u:gG m (ws.set j ⟨v.s,v.t,v.r+x,v.h⟩) T a)(d1:∃row∈(di T (m-2).toNat).map λrow=>row++[T+1],gh (eY row) (ws.set j ⟨v.s,v.t,v.r+x,v.h⟩)=d)(d2:∀row∈(di T (m-2).toNat).map λrow=>row++[T+1],d<=gh (eY row) (ws.set j ⟨v.s,v.t,v.r+x,v.h⟩)):a=d:=by obtain⟨b1,row,b2,b3⟩:=Bk (h.XF.set e hr) h0 u;obtain⟨y,c1,c2⟩:=d1;have z:=b1 y c1;have A:=d2 row b2;omega
theorem set_same{r:Int}(e:ws[j]?=some v)(h:r=v.r):ws.set j ⟨v.s,v.t,r,v.h⟩=ws:=by subst h;obtain⟨u,he⟩:=eV e;have:(⟨v.s,v.t,v.r,v.h⟩:Wy)=v:=rfl;rw[this,<-he];exact List.set_getElem_self u
theorem N8{c:Int}:cm .eq (.lst [.int a,.int b,.int c]) (.lst [.int a,.int b,.int c])=some true:=by have g:mq (.lst [.int a,.int b,.int c]) (.lst [.int a,.int b,.int c])=true:=(by show((a==a)&&((b==b)&&((c==c)&&true)))=true;simp);exact congrArg some g
inductive J30(a0 a1 a2 a3 a4 a5 a6 a7 a8 a9 a10 a11:Sl)(r:List D)(ρ:List Sl):Prop where|mk(s:Sl)(q0:ρ=[a0,a1,a2,a3,a4,a5,a6,a7,a8,a9,a10,a11,s])(q1:fr s=true)(q2:∀d∈r,∃i,d=.int i)
theorem J6{e t u A B C E G H I s12:Sl}{x y z:Int}(h:fr s12=true)(k:Q (.val (.bl true)) [e,t,u,A,B]):(eO (run Γ w n) w [.iW (.var 10) [12] true [.ifs (.or (.inst [.bool] (.var 12)) (.not (.inst [.int] (.var 12)))) [.ret (.con (.bl false))] []],.ret (.cmp .eq (.var 10) (.var 11))] [e,t,u,A,B,C,E,G,H,I,.own false [.int x,.int y,.int z],.own false [.int x,.int y,.int z],s12]).sat (eQ 5 Q):=by
 symm;simp;refine cA (J30 _ _ _ _ _ _ _ _ _ _ _ _) ?_ ?_ ⟨s12,rfl,h,by simp⟩;.rintro d r _⟨s,rfl,hs,hd⟩;obtain⟨i,rfl⟩:=hd d (by simp);simp[hs];apply ak;simp;exact⟨_,rfl,rfl,λd h=>hd d (mem_cons_of_mem _ h)⟩
 .rintro _⟨s,rfl,hs,_⟩;symm;simp[N8];exact k
theorem JW{T:Int}{row:List Int}(W:13286250<=w)(h:jh m ws)(hj:j<ws.length)(h0:0<=T)(H:T<=12)(hr:row∈(di T (m-2).toNat).map λrow=>row++[T+1])(k:Q (.val (.bl true)) [.val false (aZ m ws),.own true (((di T (m-2).toNat).map λrow=>row++[T+1]).map jg),.val false (.int T),.val false (jg row),.val false (.int j)]):(run Γ w (n+8) 30 [.val false (aZ m ws),.own true (((di T (m-2).toNat).map λrow=>row++[T+1]).map jg),.val false (.int T),.val false (jg row),.val false (.int j)]).sat Q:=by
 have m0:=h.m0;have m1:=h.m1;have e:ws[j]?=some ws[j]:=by simp[hj]
 generalize ws[j]=v at*;have ho:=h.ok v (mem_of_getElem? e);have r0:=ho.r0;have I:=fB (f:=Wy.d) e;have y:∀row∈(di T (m-2).toNat).map λrow=>row++[T+1],(row.length:Int)=m:=λrow C=>by obtain⟨u,hu,rfl⟩:=mem_map.mp C;have:=(lq hu).1;simp;omega
 have A:(di T (m-2).toNat).map (λrow=>row++[T+1])≠[]:=λz=>by rw[z]at hr;cases hr
 have J:((di T (m-2).toNat).map λrow=>row++[T+1]).length<=38416:=by
  rw[length_map];have h1:=m8 H (j:=(m-2).toNat);have:(m-2).toNat=0\/(m-2).toNat=1\/(m-2).toNat=2\/(m-2).toNat=3\/(m-2).toNat=4:=by omega
  rcases this with e|e|e|e|e<;>rw[e]at h1 ⊢<;>omega
 have G:∀{a d x:Int},0<=v.r+x->gG m (ws.set j ⟨v.s,v.t,v.r+x,v.h⟩) T a->_->_->a=d:=λ{a d x}hx la d1 d2=>Ol h e h0 hx la d1 d2;have hl:=y row hr;have c1:=lJ (row:=row) ho.s0 (by have:=ho.s1;omega);have c2:=lJ (row:=row) ho.t0 (by have:=ho.t1;omega);generalize((di T (m-2).toNat).map λrow=>row++[T+1])=X at*;refine aO (d:=f30) rfl rfl (by decide) ?_;symm;simp[f30,I,Wy.d];apply ak;simp;refine pU h e (by omega) (by omega) y A J λd0 Y Z=>?_;simp;apply ak;simp;refine Gp W h e h0 H λI b1 L M=>?_;simp;refine Hh W h e h0 H λa2 b2 r O U E B=>?_;simp;refine Oa h e hl ?_;simp;apply ak;simp;refine pU h e (by omega) (by omega) y A J λd1 p1 q1=>?_;have w0:b1=d0:=G (x:=0) (by omega) (by rw[set_same e (by omega)];exact M) Y Z;have w2:a2=d0:=G (x:=0) (by omega) (by rw[set_same e (by omega)];exact E) Y Z;have w1:I=d1:=G (x:=1) (by omega) L p1 q1;subst w0;subst w1;subst w2;simp[jg,c1,c2];apply ak;by_cases c:0<v.r
 . obtain rfl:r=v.r+-1:=by have:=O c;omega
   simp[c];apply ak;simp;refine pU h e (by omega) (by omega) y A J λd2 p2 q2=>?_;obtain rfl:b2=d2:=G (x:=-1) (by omega) B p2 q2;simp;exact J6 (w:=w) (n:=n+7) (s12:=.aQ) rfl k
 . have z:v.r=0:=by omega
   have w3:b2=a2:=by rw[set_same e (by rw[U z,z])]at B;exact B.uniq E
   subst w3;simp[c];exact J6 (w:=w) (n:=n+7) (s12:=.aQ) rfl k
theorem oK{c:Call}{k:Nat}:ex c n (.zq k) ρ=.stuck:=(rfl)
theorem ue(h:¬(0<=k/\k<(ws.length:Int))):run Γ w (n+1) 15 [.val false (aZ m ws),.val false (.int k)]=.exc 3 [.val false (aZ m ws),.val false (.int k)]:=by
 rw[j5 (d:=QK) rfl];unfold enter;by_cases h0:0<=k;.have h1:¬ k<(ws.length:Int):=λz=>h ⟨h0,z⟩;simp[QK,b15,oK,eO,jU,zy,iB,h0,h1]
 .simp[QK,b15,oK,eO,jU,zy,iB,h0]
theorem Je{T:Int}(h:¬(0<=k/\k<(ws.length:Int))):run Γ w (n+2) 20 [.val false (aZ m ws),.val false (.int T),.val false (.int k)]=.exc 3 [.val false (aZ m ws),.val false (.int T),.val false (.int k)]:=by rw[j5 (d:=VD) rfl];unfold enter;simp[VD,b20,oK,iB,eO,jU,zy,ji,mL,jL,mR,mU,mK,jy,jE,gU,dm,aU,ue h]
theorem Mt{T:Int}(h:¬(0<=k/\k<(ws.length:Int))):run Γ w (n+2) 21 [.val false (aZ m ws),.val false (.int T),.val false (.int k)]=.exc 3 [.val false (aZ m ws),.val false (.int T),.val false (.int k)]:=by rw[j5 (d:=V6) rfl];unfold enter;simp[V6,b21,oK,iB,eO,jU,zy,ji,mL,jL,mR,mU,mK,jy,jE,gU,dm,aU,ue h]
theorem Vg{d:D}(h:¬(0<=k/\k<(ws.length:Int))):run Γ w (n+2) 22 [.val false (aZ m ws),.val false d,.val false (.int k)]=.exc 3 [.val false (aZ m ws),.val false d,.val false (.int k)]:=by rw[j5 (d:=VR) rfl];unfold enter;simp[VR,b22,Cq,iB,eO,jU,zy,Zj,ji,mL,jL,mR,mU,mK,jy,jE,gU,dm,aU,ue h]
theorem Pu{T:Int}{y:Nat}{d:D}(h:¬(0<=k/\k<(ws.length:Int)))(G:y<3)(q:∀e t u z A:Sl,Q (.val (.bl true)) [e,t,u,z,A]):(run Γ w (n+3) 29 [.val false (aZ m ws),.val false (.int T),.val false d,.val false (.int k),.val false (.int y)]).sat Q:=by
 have B:=Je (w:=w) (n:=n) (m:=m) (T:=T) h;have C:=Mt (w:=w) (n:=n) (m:=m) (T:=T) h;have E:=Vg (w:=w) (n:=n) (m:=m) (d:=d) h;have:y=0\/y=1\/y=2:=by omega
 refine aO (d:=f29) rfl rfl (by decide) ?_;symm;simp[f29];apply ak;rcases this with rfl|rfl|rfl;all_goals rw[ex];simp[oK,iB,eO,jU,zy,ji,mL,Ru,W3,jL,mR,mU,mK,jy,jE,gU,dm,aU,B,C,E];exact q _ _ _ _ _
inductive J89(a0 a1 a2 a3 a4:Sl)(ρ:List Sl):Prop where|mk(s5:Sl)(s6:Sl)(s7:Sl)(q0:ρ=[a0,a1,a2,a3,a4,s5,s6,s7])(q1:A3 (fr s5=true) (fr s6=true) (fr s7=true))
inductive adH(n:Nat)(a0 a1 a2 a3 a4 a7:Sl)(r:List D)(ρ:List Sl):Prop where|mk(ks:List Int)(s5 s6:Sl)(q0:ρ=[a0,a1,a2,a3,a4,s5,s6,a7])(q1:(fr s5=true/\fr s6=true))(q2:r=ks.map D.int)(q3:∀k∈ks,¬(0<=k/\k<(n:Int)))
inductive F8l(a0 a1 a2 a3 a4 a5 a6 a7:Sl)(ρ:List Sl):Prop where|mk(s:Sl)(q0:ρ=[a0,a1,a2,a3,a4,a5,a6,a7,s])(q1:fr s=true)
theorem MK(ns:List Int)(X:ns.length<=63):∃as,run Γ 100000000 40 31 [.val false (.lst (ns.map D.int))]=.ok (.val (.bl true)) as:=by
 suffices h:(run Γ 100000000 40 31 [.val false (.lst (ns.map D.int))]).sat λr _=>r=.val (.bl true)by obtain⟨a,ρ,e,rfl⟩:=sat_iff.mp h;exact⟨ρ,e⟩
 refine aO (d:=f31) rfl rfl (by decide) ?_;symm;simp[f31];refine OD (M:=300) X (by omega) λG Y W=>?_;have hd:0<G.length:=by omega
 simp;apply ak;simp;refine Hb W hd (by omega) (by omega) (by omega) (by omega) λm ws u _ Z=>?_;have m0:=u.m0;have m1:=u.m1;simp;apply ak;simp;refine cQ hd (by omega) (by omega) (by omega) λT T0 T1=>?_;simp;apply ak;simp;refine KY m0 m1 T0 (by omega) ?_;have H:(di T (m-2).toNat).map (λrow=>row++[T+1])≠[]:=by have:=tG (T:=T) (q:=λ_=>0) rfl (λi=>by omega) (j:=(m-2).toNat);intro z;rw[List.map_eq_nil_iff]at z;rw[z]at this;cases this
 have hb:((di T (m-2).toNat).map λrow=>row++[T+1]).length<=38416:=by
  rw[length_map];have h1:=m8 (show T<=12 by omega) (j:=(m-2).toNat);have:(m-2).toNat=0\/(m-2).toNat=1\/(m-2).toNat=2\/(m-2).toNat=3\/(m-2).toNat=4:=by omega
  rcases this with e|e|e|e|e<;>rw[e]at h1 ⊢<;>omega
 have I:=λ{j:Nat}{row:List Int}{n:Nat}{Q:R->List Sl->Prop}=>JW (w:=100000000) (n:=n) (T:=T) (j:=j) (row:=row) (Q:=Q) (by omega) u;generalize((di T (m-2).toNat).map λrow=>row++[T+1])=t at*;have J:0<t.length:=List.length_pos_iff.mpr H;simp;apply ak;simp[show(ws.length:Int)<=1000000000 by omega];refine jl (λ_=>J89 _ _ _ _ _) ?_ ?_ ⟨.aQ,.aQ,.aQ,rfl,rfl,rfl,rfl⟩
 . rintro i _ hi⟨s5,s6,s7,rfl,A,B,L⟩;simp[A];apply ak;simp;refine cQ hd (by omega) (by omega) (by omega) λx x0 x1=>?_;have hx:t[x.toNat]?=some t[x.toNat]:=by simp
   have ax:at' (t.map jg) x=some (jg t[x.toNat]):=by rw[o4 x0 (by simpa using x1),getElem?_map,hx];rfl
   simp[ax,B];apply ak;simp;refine I hi T0 (by omega) (getElem_mem _) ?_;simp;exact⟨_,_,_,rfl,rfl,rfl,L⟩
 rintro _⟨s5,s6,s7,rfl,A,B,L⟩;symm;simp;refine yq W hd (by omega) (by omega) (by omega) λy y0 y1=>?_;simp[L];apply ak;simp;refine cA (adH ws.length _ _ _ _ _ _) ?_ ?_ ⟨[(ws.length:Int),(ws.length:Int)+y,-1,-1-y,-(ws.length:Int)],s5,s6,rfl,⟨A,B⟩,rfl,λk u=>?_⟩;.rintro d r _⟨ks,s5,s6,rfl,⟨A,B⟩,hr,C⟩;cases ks with|nil=>cases hr|cons k ks=>
     obtain⟨rfl,rfl⟩:d=.int k/\r=ks.map D.int:=by simpa using hr
     have E:=C k (by simp);simp[A];apply ak;have a0:at' (t.map jg) 0=some (jg t[0]):=by rw[o4 (by omega) (by simp;omega),getElem?_map];simp[J]
     have go:∀{Q:Fl->List Sl->Prop},(∀s5 s6,fr s5=true->fr s6=true->Q .next [.val false (.lst (ns.map D.int)),.own false (G.map D.int),.val false (aZ m ws),.val false (.int T),.own false (t.map jg),s5,s6,.val false (.int y)])->(eO (run Γ 100000000 39) 100000000 [.ifs (.not (.blt .all [.comp (.vO (.con (.int 0)) (.con (.int 3))) 1 [8] true none (.call 29 [.var 2,.var 3,.idx (.var 4) (.con (.int 0)),.var 5,.var 8])])) [.ret (.con (.bl false))] []] [.val false (.lst (ns.map D.int)),.own false (G.map D.int),.val false (aZ m ws),.val false (.int T),.own false (t.map jg),.val false (.int k),s6,.val false (.int y)]).sat Q:=λ{Q}q=>by
      symm;simp;refine⟨λ_=>?_,by show _<=16777216;omega⟩;refine fU (F8l _ _ _ _ _ _ _ _) (λ_=>.bl true) ⟨.aQ,rfl,rfl⟩ ?_ ?_;.rintro d hd _⟨s,rfl,hs⟩;obtain⟨z,hz,rfl⟩:=mem_map.mp hd;have O:=List.mem_range.mp hz;simp[hs,a0];refine Pu E O λ_ _ _ _ _=>?_;simp;exact⟨_,rfl,rfl⟩
      .rintro _⟨s,rfl,hs⟩;have e3:((List.range 3).map λ(k:Nat)=>D.int (k:Int)).map (λ_=>D.bl true)=[.bl true,.bl true,.bl true]:=rfl;simp only[e3];simp;exact q _ _ rfl B
     by_cases c:k=0
     . have U:ws=[]:=by cases ws with|nil=>rfl|cons _ _=>exact absurd ⟨by omega,by simp;omega⟩ E
       have e0:cm .eq (.tup (ws.map Wy.d)) (.tup [])=some true:=by rw[U];rfl
       simp[c,e0];rw[c]at go;refine go λs5 s6 A B=>?_;simp;exact⟨ks,s5,s6,rfl,⟨A,B⟩,rfl,λk u=>C k (mem_cons_of_mem _ u)⟩
     .simp[c];refine go λs5 s6 A B=>?_;simp;exact⟨ks,s5,s6,rfl,⟨A,B⟩,rfl,λk u=>C k (mem_cons_of_mem _ u)⟩
 .rintro _⟨ks,s5,s6,rfl,_⟩;symm;simp
 .simp at u;omega
end _T
end
structure PySem.W.Fast:Prop where(tw8739187170017505305 tw13704313486707636384 tw16375615458264917150 tw9318656385797166688 tw11817169356298627248 tw9702754901544805693 tw2472301808891998151 tw16013634575136790029 tw12556611371748828692 tw5400612284680193086 tw5113404604314489893 tw13626180778250375443 tw15217506956393540983 tw2313233930953208822 tw11884757211101237602 tw8229656520018323849 tw4627184707689337631 tw2553255126348934197 tw10533653510338750973 tw4899957812138943135 tw8612038480474906469 tw15804519173536057576 tw1583715404969734522 tw4119461772575001340 tw5678586481489445804 tw7395581690187703544 tw17415989494446442934 tw1829662286853907149 tw12023786997350073385 tw13681264558937544811 tw14265269650943060861 tw5071309410054383467 tw5142898887107653458 tw14146568708248625679 tw6772145074482909818 tw2903564731615880204 tw562694958021098044 tw1532696630756000980 tw8186048858203976113 tw12974131409694264914 tw481928276926382868 tw10071073425825848793 tw2579620505419410406 tw14961475460811646943 tw16091633670056793917 tw18133385116820090996 tw17785152775615565776 tw10164154159714987034 tw6574246538831078501 tw17307284087204726556 tw17039078198925913053 tw2942059688871770601 tw4800299236047910464 tw16304699416245267910 tw3333376959330441390 tw17612587398108320394 tw12619118149007780538 tw8168026205128429627 tw16139101921882387295 tw6838282476610725792 tw8810405616605408565 tw14306753194827917284 tw10042786760642151839 tw2268579313724640609 tw14003614202501776797 tw15734628718243887924 tw9401377612325362713 tw226464138427257314 tw2930862618703335482 tw15096957554335643285 tw9841892993493315386 tw1719012316613616970 tw9188175752568667958 tw10755575936404913323 tw9683306285172207859 tw12332759539822684145 tw12933086045175902058 tw10889856901752330719 tw9737120117312348455 tw7200728930329938959 tw9798291844632974759 tw16787781806415472669 tw8632816219729312857 tw10947613388579510257 tw388186804015794545 tw10898345242803007935 tw1281306368914281988 tw7496535181571877273 tw13776556567043104893 tw9866730083059149186 tw12146849542025361933 tw12023685978772322593 tw15122997747672409748 tw16777399382758480547 tw14893403448838194157 tw10221896105883288120 tw5560502485599653085 tw5559102658379580644 tw11024204742505566921 tw7402253016934596857 tw15193539206149136675 tw16565331231988140190 tw17096555787182188816 tw37139182011467483 tw512325073467173979 tw4517353437202952428 tw16432640442691002949 tw8851274186534593603 tw11192772809601650285 tw10698612752904724210 tw13174886412979114277 tw3100897614920736037 tw15386616961707940801 tw3670356976590279800 tw10534515772048724362 tw8192325094130897661 tw11456766795565942428 tw5178161969253897788 tw5658044302227817806 tw4830855198290947241 tw12001981100073788008 tw295167052600047616 tw10525865719217074164 tw15464661827260707781 tw7786176371866031534 tw12754142829879260339 tw12875790232527853041 tw4188214252433848744 tw5144078198206264391 tw17696689424312328140 tw11476519723258012329 tw4495517531219093230 tw14038467734875514879 tw96136760790283947 tw1591434665837156 tw18307812555247161707 tw15208879272156696097 tw15019641850890653056 tw6089084859458221262 tw967550931159969811 tw17305971393685595204 tw17066514925383605009 tw6340886179484854622 tw13802626410244501740 tw17253673126172614029 tw9943114604857845429 tw16822232680805042816 tw1865881122545975442 tw5426708249533578868 tw11552491960986136420 tw5878642348505949390 tw7603499734999337955 tw4827358929735978971 tw9156024512864923758 tw16707306613327141827 tw333620235452405837 tw14664729232904943551 tw16395201286847163786 tw5613918411856746924 tw14643839399159379732 tw7482651114125514588 tw11011409983974708949 tw12742493265147818065 tw17414974884084682303 tw2194597485799173304 tw7667202181785319563 tw15560503160583950906 tw251781235338279787 tw5504604579631757241 tw11445475753053547030 tw5324887197484144998 tw12632571035318669542 tw3049572311685924335 tw6410303479574876123 tw8423108496946664090 tw13122351546255715734 tw11251463912014017505 tw13391897456969103925 tw10423928006919910033 tw3851280426992375924 tw7415416762997000640 tw13020820170116180726 tw6260698972611815398 tw2982130036252272094 tw3252013337541533548 tw15695633061743088064 tw11935906264951779850 tw7841162668982230142 tw3940791482723742025 tw10565066624241246393 tw3278371651330505850 tw13894356792927960295 tw7981322020463620845 tw1364692066867486953 tw4635527711465370624 tw492824105157178259 tw8596206860080896573 tw13616853841038796921 tw13075175484524595566 tw13043654603381460728 tw10247343593660600980 tw9638386954122731002 tw17912368823413383808 tw16885597538218622480 tw5428081955942236653 tw1900707248924488179 tw11372571198441794986 tw18426758785327586934 tw12221390815991157252 tw3122745523669563711 tw13411405656368095642 tw10114090315309443380 tw17564938937584363514 tw6935322386073077580 tw16859996220232660310 tw6919776805052264821 tw492094747399812919 tw13427508300661937248 tw9906485340553009750 tw13244410606135278015 tw9409181167467818101 tw5497889102329170898 tw65555622966073338 tw9444411280564526633 tw4950278400796036288 tw12876231274025261820 tw14286409309670791959 tw467842133410646675 tw6636638682830491711 tw123911044431508350 tw16299503618253884740 tw14950016290418559877 tw14750116575822229935 tw800906946574093082 tw9410575508347426320 tw9499603111044903552 tw16082309597568708578 tw10687515814424639090 tw13573100458070032899 tw14657722622479441094 tw2917707645026812533 tw16555982023864659087 tw2564129714285596781 tw1709416211609101929 tw12409267764384872422 tw13747602334412738915 tw14218393389450862406 tw10799142420716312956 tw16646734625759324419 tw4678811031143149436 tw2112009868940871256 tw7112515453950344518 tw3512016970904594005 tw18426131637615112578 tw11553516263529445963 tw8730120427769286842 tw8539848376670452154 tw7172918227832518844 tw18120107630612758839 tw16079856464909925247 tw15829752870310359212 tw16461702595684115562 tw6285642979249728674 tw14748069140251486213 tw8236822689879298597 tw8352264101547138895 tw2460667032965029913 tw4087623464421132775 tw5947733727356536817 tw4148347332936679860 tw13789616363502755319 tw5820197274134588568 tw6510864183397124508 tw14977538382623224553 tw1109170226175128224 tw9952422883713378758 tw17412535203063426431 tw139875814672482089 tw17897894519053174241 tw8978798863937061518 tw4245177211562637799 tw12696755824383876271 tw9648986947786727284 tw3428945673331977814 tw5847767143979523938 tw3253693606268678845 tw9269351859157879779 tw12200716220988946503 tw6907246348612900020 tw14914230902345753113 tw8084054384690854695 tw15102251338285219586:True)
namespace _T
open PySem _L Spec PyProof.Rows _H
theorem Z7{P:List Value → Prop}{n:Nat}(h:∀(a:Value)(b:List Value),b.length=n → P (a::b))(b:List Value)(c:b.length=n+1):P b:=by cases b with|nil=>cases c|cons a b=>exact h a b (Nat.succ.inj c)
theorem lk0{P:List Value → Prop}(h:P [])(b:List Value)(c:b.length=0):P b:=by cases b with|nil=>exact h|cons a b=>cases c
theorem JM{P:List Value → Prop}(h:∀a,P [a]):∀b:List Value,b.length=1 → P b:=Z7 λa=>lk0 (h a)
theorem pJ{P:List Value → Prop}(h:∀a b,P [a,b]):∀c:List Value,c.length=2 → P c:=Z7 λa=>JM (h a)
theorem mH{P:List Value → Prop}(h:∀a b c,P [a,b,c]):∀e:List Value,e.length=3 → P e:=Z7 λa=>pJ (h a)
theorem Zh{P:List Value → Prop}(h:∀a b c d,P [a,b,c,d]):∀e:List Value,e.length=4 → P e:=Z7 λa=>mH (h a)
theorem lk5{P:List Value → Prop}(h:∀a b c d e,P [a,b,c,d,e]):∀f:List Value,f.length=5 → P f:=Z7 λa=>Zh (h a)
local macro_rules|`(term|‹$p›)=>`(λ_ _ _ _ _ _=>$p)
structure Txt(K:PySem.W.Frag):Prop where
 D0:bM K "step_places" s0
 D1:bM K "step_hours" s1
 D2:bM K "step_room" s2
 D3:bM K "steps_hours" s3
 D4:bM K "open_steps" s4
 D5:bM K "shortest_come" s5
 D6:bM K "steps_to" s6
 D7:bM K "stream_with" s7
 D8:bM K "chains_to_end" s8
 D9:bM K "bends_of" s9
 D10:bM K "is_whole" jj
 D11:bM K "whole_within" rB
 D12:bM K "is_row" s12
 D13:bM K "is_way" s13
 D14:bM K "made_net" s14
 D15:bM K "known_way" Zw
 D16:bM K "with_room" Zq
 D17:bM K "most_of" s17
 D18:bM K "most_by" s18
 D19:bM K "closed_gap" s19
 D20:bM K "room_worth" YB
 D21:bM K "room_loss" s21
 D22:bM K "gap_of" s22
 D23:bM K "_law_all" s23
 D24:bM K "_law_draw" s24
 D25:bM K "_law_wide" s25
 D26:bM K "_law_net" s26
 D27:bM K "_law_all_closed" s27
 D28:bM K "_law_most" s28
 D29:bM K "_law_refused" s29
 D30:bM K "_law_way_right" s30
 D31:bM K "law" s31
 gP:PySem.W.nsIn K mainGlobals "ValueError"=some none
 Ei:PySem.W.nsIn K mainGlobals "abs"=some none
 Ej:PySem.W.nsIn K mainGlobals "all"=some none
 pW:PySem.W.nsIn K mainGlobals "bool"=some none
 lC:PySem.W.nsIn K mainGlobals "enumerate"=some none
 vR:PySem.W.nsIn K mainGlobals "int"=some none
 aK:PySem.W.nsIn K mainGlobals "isinstance"=some none
 bw:PySem.W.nsIn K mainGlobals "len"=some none
 iY:PySem.W.nsIn K mainGlobals "list"=some none
 fP:PySem.W.nsIn K mainGlobals "max"=some none
 oR:PySem.W.nsIn K mainGlobals "min"=some none
 bL:PySem.W.nsIn K mainGlobals "range"=some none
 m6:PySem.W.nsIn K mainGlobals "reversed"=some none
 uC:PySem.W.nsIn K mainGlobals "sorted"=some none
 vQ:PySem.W.nsIn K mainGlobals "sum"=some none
 fZ:PySem.W.nsIn K mainGlobals "tuple"=some none
 iz:∃t,PySem.W.nsIn K mainGlobals "LEAST_PLACES"=some (some (Value.int 2 t))jN:∃t,PySem.W.nsIn K mainGlobals "MOST_HOURS"=some (some (Value.int 1000000 t))iZ:∃t,PySem.W.nsIn K mainGlobals "MOST_PLACES"=some (some (Value.int 6 t))lB:∃t,PySem.W.nsIn K mainGlobals "MOST_ROOM"=some (some (Value.int 1000000000 t))lD:∃t,PySem.W.nsIn K mainGlobals "MOST_WAYS"=some (some (Value.int 12 t))fV:∃C,fj K "BadHour" C
 iQ:∃C,fj K "HaulError" C
 cM:∃C,fj K "NoWay" C
 bQ:∃C,fj K "TooMany" C
 fW:∃C,fj K "TooMuch" C
 lG:∃C,tQ K "HaulError" C
 rM:∃C,tQ K "NoWay" C
 GK:∃C,tQ K "TooMany" C
 xP:∃C C2,fj K "NoWay" C/\fj K "HaulError" C2/\PySem.W.mroIn K C (.ref C2)=some true
 pX:∃C C2,fj K "TooMany" C/\fj K "HaulError" C2/\PySem.W.mroIn K C (.ref C2)=some true
 oU:∃C,fj K "NoWay" C/\Fg K C
 jt:∃C,fj K "TooMany" C/\Fg K C
 gB:∃C C2,fj K "NoWay" C/\fj K "BadHour" C2/\kitOne K (.ref C) (.ref C2)=some false
 jb:∃C C2,fj K "NoWay" C/\fj K "NoWay" C2/\kitOne K (.ref C) (.ref C2)=some true
 gC:∃C C2,fj K "NoWay" C/\fj K "TooMany" C2/\kitOne K (.ref C) (.ref C2)=some false
 gD:∃C C2,fj K "NoWay" C/\fj K "TooMuch" C2/\kitOne K (.ref C) (.ref C2)=some false
 fJ:∃C C2,fj K "TooMany" C/\fj K "BadHour" C2/\kitOne K (.ref C) (.ref C2)=some false
 gF:∃C C2,fj K "TooMany" C/\fj K "NoWay" C2/\kitOne K (.ref C) (.ref C2)=some false
 fK:∃C C2,fj K "TooMany" C/\fj K "TooMany" C2/\kitOne K (.ref C) (.ref C2)=some true
 iM:∃C C2,fj K "TooMany" C/\fj K "TooMuch" C2/\kitOne K (.ref C) (.ref C2)=some false
 eU:∃C,fj K "NoWay" C/\kitOne K (.ref C) (.type "ValueError")=some true
 dG:∃C,fj K "TooMany" C/\kitOne K (.ref C) (.type "ValueError")=some true
noncomputable def jA{K:PySem.W.Frag}(T:Txt K):Nat->Addr:=λk=>if k=5 then T.fV.choose else if k=0 then T.iQ.choose else if k=3 then T.cM.choose else if k=2 then T.bQ.choose else if k=4 then T.fW.choose else 0
structure Oks(Pg:Program)(w:World)(K:PySem.W.Frag)(mg:Str->Option Value)(base:Heap)(cl:Nat->Addr)(n:Nat):Prop where
 c0:aW Pg w K mg base n (run Γ 100000000 n) 0 "step_places" 2
 c1:aW Pg w K mg base n (run Γ 100000000 n) 1 "step_hours" 2
 c2:aW Pg w K mg base n (run Γ 100000000 n) 2 "step_room" 3
 c3:aW Pg w K mg base n (run Γ 100000000 n) 3 "steps_hours" 2
 c4:aW Pg w K mg base n (run Γ 100000000 n) 4 "open_steps" 2
 c5:aW Pg w K mg base n (run Γ 100000000 n) 5 "shortest_come" 3
 c6:aW Pg w K mg base n (run Γ 100000000 n) 6 "steps_to" 3
 c7:aW Pg w K mg base n (run Γ 100000000 n) 7 "stream_with" 3
 c8:aW Pg w K mg base n (run Γ 100000000 n) 8 "chains_to_end" 1
 c9:aW Pg w K mg base n (run Γ 100000000 n) 9 "bends_of" 1
 c10:aW Pg w K mg base n (run Γ 100000000 n) 10 "is_whole" 1
 c11:aW Pg w K mg base n (run Γ 100000000 n) 11 "whole_within" 3
 c12:aW Pg w K mg base n (run Γ 100000000 n) 12 "is_row" 1
 c13:aW Pg w K mg base n (run Γ 100000000 n) 13 "is_way" 2
 c14:aW Pg w K mg base n (run Γ 100000000 n) 14 "made_net" 2
 Mp:aW Pg w K mg base n (run Γ 100000000 n) 15 "known_way" 2
 c16:aW Pg w K mg base n (run Γ 100000000 n) 16 "with_room" 3
 c17:aW Pg w K mg base n (run Γ 100000000 n) 17 "most_of" 2
 Yr:aW Pg w K mg base n (run Γ 100000000 n) 18 "most_by" 2
 c19:aW Pg w K mg base n (run Γ 100000000 n) 19 "closed_gap" 2
 c20:aW Pg w K mg base n (run Γ 100000000 n) 20 "room_worth" 3
 c21:aW Pg w K mg base n (run Γ 100000000 n) 21 "room_loss" 3
 c22:aW Pg w K mg base n (run Γ 100000000 n) 22 "gap_of" 3
 c23:aW Pg w K mg base n (run Γ 100000000 n) 23 "_law_all" 2
 c24:aW Pg w K mg base n (run Γ 100000000 n) 24 "_law_draw" 3
 c25:aW Pg w K mg base n (run Γ 100000000 n) 25 "_law_wide" 3
 c26:aW Pg w K mg base n (run Γ 100000000 n) 26 "_law_net" 4
 c27:aW Pg w K mg base n (run Γ 100000000 n) 27 "_law_all_closed" 2
 c28:aW Pg w K mg base n (run Γ 100000000 n) 28 "_law_most" 4
 c29:aW Pg w K mg base n (run Γ 100000000 n) 29 "_law_refused" 5
 c30:aW Pg w K mg base n (run Γ 100000000 n) 30 "_law_way_right" 5
 c31:aW Pg w K mg base n (run Γ 100000000 n) 31 "law" 1
 Ys:fu Pg w K mg base cl n (run Γ 100000000 n) 15 "known_way" 2
 x16:fu Pg w K mg base cl n (run Γ 100000000 n) 16 "with_room" 3
 x20:fu Pg w K mg base cl n (run Γ 100000000 n) 20 "room_worth" 3
 x21:fu Pg w K mg base cl n (run Γ 100000000 n) 21 "room_loss" 3
 x22:fu Pg w K mg base cl n (run Γ 100000000 n) 22 "gap_of" 3
set_option maxHeartbeats 0 in
theorem HD{Pg:Program}{w:World}{K:PySem.W.Frag}{mg:Str->Option Value}{base:Heap}(T:Txt K)(X:K.In base)(G:base.Ns mainGlobals mg):∀n,Oks Pg w K mg base (jA T) n
 |0=>{
   c0:=bZ (ps:=["net","step"]) X G T.D0 rfl ‹pJ λ_ _=>rfl›
   c1:=bZ (ps:=["net","step"]) X G T.D1 rfl ‹pJ λ_ _=>rfl›
   c2:=bZ (ps:=["net","stream","step"]) X G T.D2 rfl ‹mH λ_ _ _=>rfl›
   c3:=bZ (ps:=["net","steps"]) X G T.D3 rfl ‹pJ λ_ _=>rfl›
   c4:=bZ (ps:=["net","stream"]) X G T.D4 rfl ‹pJ λ_ _=>rfl›
   c5:=bZ (ps:=["net","stream","begun"]) X G T.D5 rfl ‹mH λ_ _ _=>rfl›
   c6:=bZ (ps:=["net","come","place"]) X G T.D6 rfl ‹mH λ_ _ _=>rfl›
   c7:=bZ (ps:=["stream","steps","loads"]) X G T.D7 rfl ‹mH λ_ _ _=>rfl›
   c8:=bZ (ps:=["net"]) X G T.D8 rfl ‹JM λ_=>rfl›
   c9:=bZ (ps:=["net"]) X G T.D9 rfl ‹JM λ_=>rfl›
   c10:=bZ (ps:=["thing"]) X G T.D10 rfl ‹JM λ_=>rfl›
   c11:=bZ (ps:=["thing","least","most"]) X G T.D11 rfl ‹mH λ_ _ _=>rfl›
   c12:=bZ (ps:=["thing"]) X G T.D12 rfl ‹JM λ_=>rfl›
   c13:=bZ (ps:=["many","thing"]) X G T.D13 rfl ‹pJ λ_ _=>rfl›
   c14:=bZ (ps:=["many","ways"]) X G T.D14 rfl ‹pJ λ_ _=>rfl›
   Mp:=bZ (ps:=["net","number"]) X G T.D15 rfl ‹pJ λ_ _=>rfl›
   c16:=bZ (ps:=["net","number","room"]) X G T.D16 rfl ‹mH λ_ _ _=>rfl›
   c17:=bZ (ps:=["bends","last"]) X G T.D17 rfl ‹pJ λ_ _=>rfl›
   Yr:=bZ (ps:=["net","last"]) X G T.D18 rfl ‹pJ λ_ _=>rfl›
   c19:=bZ (ps:=["way","closed"]) X G T.D19 rfl ‹pJ λ_ _=>rfl›
   c20:=bZ (ps:=["net","last","number"]) X G T.D20 rfl ‹mH λ_ _ _=>rfl›
   c21:=bZ (ps:=["net","last","number"]) X G T.D21 rfl ‹mH λ_ _ _=>rfl›
   c22:=bZ (ps:=["net","closed","number"]) X G T.D22 rfl ‹mH λ_ _ _=>rfl›
   c23:=bZ (ps:=["script","many"]) X G T.D23 rfl ‹pJ λ_ _=>rfl›
   c24:=bZ (ps:=["draws","at","many"]) X G T.D24 rfl ‹mH λ_ _ _=>rfl›
   c25:=bZ (ps:=["draws","at","many"]) X G T.D25 rfl ‹mH λ_ _ _=>rfl›
   c26:=bZ (ps:=["draws","at","places","most"]) X G T.D26 rfl ‹Zh λ_ _ _ _=>rfl›
   c27:=bZ (ps:=["many","last"]) X G T.D27 rfl ‹pJ λ_ _=>rfl›
   c28:=bZ (ps:=["net","every","number","more"]) X G T.D28 rfl ‹Zh λ_ _ _ _=>rfl›
   c29:=bZ (ps:=["net","last","closed","number","way"]) X G T.D29 rfl ‹lk5 λ_ _ _ _ _=>rfl›
   c30:=bZ (ps:=["net","every","last","closed","number"]) X G T.D30 rfl ‹lk5 λ_ _ _ _ _=>rfl›
   c31:=bZ (ps:=["script"]) X G T.D31 rfl ‹JM λ_=>rfl›
   Ys:=rO (ps:=["net","number"]) X G T.D15 rfl ‹pJ λ_ _=>rfl›
   x16:=rO (ps:=["net","number","room"]) X G T.D16 rfl ‹mH λ_ _ _=>rfl›
   x20:=rO (ps:=["net","last","number"]) X G T.D20 rfl ‹mH λ_ _ _=>rfl›
   x21:=rO (ps:=["net","last","number"]) X G T.D21 rfl ‹mH λ_ _ _=>rfl›
   x22:=rO (ps:=["net","closed","number"]) X G T.D22 rfl ‹mH λ_ _ _=>rfl›}|n+1=>have a:=HD (Pg:=Pg) (w:=w) (base:=base) T X G n
   {c0:=cg (ps:=["net","step"]) X G T.D0 rfl rfl ‹pJ λ_ _=>rfl› λ_ _ F=>d0 (cl:=jA T) F
    c1:=cg (ps:=["net","step"]) X G T.D1 rfl rfl ‹pJ λ_ _=>rfl› λ_ _ F=>d1 (cl:=jA T) F
    c2:=cg (ps:=["net","stream","step"]) X G T.D2 rfl rfl ‹mH λ_ _ _=>rfl› λ_ _ F=>d2 (cl:=jA T) F
    c3:=cg (ps:=["net","steps"]) X G T.D3 rfl rfl ‹pJ λ_ _=>rfl› λ_ _ F=>d3 (cl:=jA T) F (mg_none_of X G T.vQ) a.c1
    c4:=cg (ps:=["net","stream"]) X G T.D4 rfl rfl ‹pJ λ_ _=>rfl› λ_ _ F=>d4 (cl:=jA T) F (mg_none_of X G T.bw) (mg_none_of X G T.bL) a.c0 a.c2
    c5:=cg (ps:=["net","stream","begun"]) X G T.D5 rfl rfl ‹mH λ_ _ _=>rfl› λ_ _ F=>d5 (cl:=jA T) F (mg_none_of X G T.bw) (mg_none_of X G T.iY) a.c4 a.c1 a.c0
    c6:=cg (ps:=["net","come","place"]) X G T.D6 rfl rfl ‹mH λ_ _ _=>rfl› λ_ _ F=>d6 (cl:=jA T) F (mg_none_of X G T.m6) (mg_none_of X G T.fZ) a.c0
    c7:=cg (ps:=["stream","steps","loads"]) X G T.D7 rfl rfl ‹mH λ_ _ _=>rfl› λ_ _ F=>d7 (cl:=jA T) F (mg_none_of X G T.iY)
    c8:=cg (ps:=["net"]) X G T.D8 rfl rfl ‹JM λ_=>rfl› λ_ _ F=>d8 (cl:=jA T) F (mg_none_of X G T.bw) (mg_none_of X G T.oR) a.c5 a.c2 a.c6 a.c7
    c9:=cg (ps:=["net"]) X G T.D9 rfl rfl ‹JM λ_=>rfl› λ_ _ F=>d9 (cl:=jA T) F (mg_none_of X G T.uC) a.c8 a.c3
    c10:=cg (ps:=["thing"]) X G T.D10 rfl rfl ‹JM λ_=>rfl› λ_ _ F=>d10 (cl:=jA T) F (mg_none_of X G T.pW) (mg_none_of X G T.vR) (mg_none_of X G T.aK)
    c11:=cg (ps:=["thing","least","most"]) X G T.D11 rfl rfl ‹mH λ_ _ _=>rfl› λ_ _ F=>d11 (cl:=jA T) F a.c10
    c12:=cg (ps:=["thing"]) X G T.D12 rfl rfl ‹JM λ_=>rfl› λ_ _ F=>d12 (cl:=jA T) F (mg_none_of X G T.aK) (mg_none_of X G T.iY) (mg_none_of X G T.fZ)
    c13:=cg (ps:=["many","thing"]) X G T.D13 rfl rfl ‹pJ λ_ _=>rfl› λ_ _ F=>d13 (cl:=jA T) F (mg_none_of X G T.bw) (T.jN.elim λt e=>⟨t,mg_of X G e⟩) (T.lB.elim λt e=>⟨t,mg_of X G e⟩) a.c12 a.c11
    c14:=cg (ps:=["many","ways"]) X G T.D14 rfl rfl ‹pJ λ_ _=>rfl› λ_ _ F=>d14 (cl:=jA T) F (mg_none_of X G T.lC) (mg_none_of X G T.bw) (mg_none_of X G T.fZ) (T.iz.elim λt e=>⟨t,mg_of X G e⟩) (T.iZ.elim λt e=>⟨t,mg_of X G e⟩) (T.lD.elim λt e=>⟨t,mg_of X G e⟩) a.c12 a.c13 a.c11
    Mp:=cg (ps:=["net","number"]) X G T.D15 rfl rfl ‹pJ λ_ _=>rfl› λ_ _ F=>d15 (cl:=jA T) F (mg_none_of X G T.bw)
    c16:=cg (ps:=["net","number","room"]) X G T.D16 rfl rfl ‹mH λ_ _ _=>rfl› λ_ _ F=>d16 (cl:=jA T) F a.Mp
    c17:=cg (ps:=["bends","last"]) X G T.D17 rfl rfl ‹pJ λ_ _=>rfl› λ_ _ F=>d17 (cl:=jA T) F (mg_none_of X G T.vQ)
    Yr:=cg (ps:=["net","last"]) X G T.D18 rfl rfl ‹pJ λ_ _=>rfl› λ_ _ F=>d18 (cl:=jA T) F a.c9 a.c17
    c19:=cg (ps:=["way","closed"]) X G T.D19 rfl rfl ‹pJ λ_ _=>rfl› λ_ _ F=>d19 (cl:=jA T) F (mg_none_of X G T.fP)
    c20:=cg (ps:=["net","last","number"]) X G T.D20 rfl rfl ‹mH λ_ _ _=>rfl› λ_ _ F=>d20 (cl:=jA T) F a.Mp a.Yr a.c16
    c21:=cg (ps:=["net","last","number"]) X G T.D21 rfl rfl ‹mH λ_ _ _=>rfl› λ_ _ F=>d21 (cl:=jA T) F (mg_none_of X G T.fP) a.Mp a.Yr a.c16
    c22:=cg (ps:=["net","closed","number"]) X G T.D22 rfl rfl ‹mH λ_ _ _=>rfl› λ_ _ F=>d22 (cl:=jA T) F a.c19 a.Mp
    c23:=cg (ps:=["script","many"]) X G T.D23 rfl rfl ‹pJ λ_ _=>rfl› λ_ _ F=>d23 (cl:=jA T) F (mg_none_of X G T.Ei) (mg_none_of X G T.bw) (mg_none_of X G T.bL)
    c24:=cg (ps:=["draws","at","many"]) X G T.D24 rfl rfl ‹mH λ_ _ _=>rfl› λ_ _ F=>d24 (cl:=jA T) F (mg_none_of X G T.bw)
    c25:=cg (ps:=["draws","at","many"]) X G T.D25 rfl rfl ‹mH λ_ _ _=>rfl› λ_ _ F=>d25 (cl:=jA T) F (mg_none_of X G T.bw)
    c26:=cg (ps:=["draws","at","places","most"]) X G T.D26 rfl rfl ‹Zh λ_ _ _ _=>rfl› λ_ _ F=>d26 (cl:=jA T) F (mg_none_of X G T.fP) (mg_none_of X G T.oR) (mg_none_of X G T.bL) a.c24 a.c25 a.c14
    c27:=cg (ps:=["many","last"]) X G T.D27 rfl rfl ‹pJ λ_ _=>rfl› λ_ _ F=>d27 (cl:=jA T) F (mg_none_of X G T.bL)
    c28:=cg (ps:=["net","every","number","more"]) X G T.D28 rfl rfl ‹Zh λ_ _ _ _=>rfl› λ_ _ F=>d28 (cl:=jA T) F (mg_none_of X G T.bw) (mg_none_of X G T.fP) (mg_none_of X G T.oR) (mg_none_of X G T.bL)
    c29:=cg (ps:=["net","last","closed","number","way"]) X G T.D29 rfl rfl ‹lk5 λ_ _ _ _ _=>rfl› λ_ _ F=>d29 (cl:=jA T) F (mg_none_of X G T.gP) (mg_none_of X G T.aK) a.c22 a.c21 a.c20 (qZ X G (Mr T.lG T.iQ.choose_spec)) a.x22 a.x21 a.x20 (nD X (qZ X G (Mr T.rM T.cM.choose_spec)) (Z2 T.xP T.cM.choose_spec T.iQ.choose_spec)) (nD X (qZ X G (Mr T.GK T.bQ.choose_spec)) (Z2 T.pX T.bQ.choose_spec T.iQ.choose_spec)) (ZR T.oU T.cM.choose_spec) (ZR T.jt T.bQ.choose_spec) (mg_of X G T.fV.choose_spec) (mg_of X G T.cM.choose_spec) (mg_of X G T.bQ.choose_spec) (mg_of X G T.fW.choose_spec) (yZ T.gB T.cM.choose_spec T.fV.choose_spec) (yZ T.jb T.cM.choose_spec T.cM.choose_spec) (yZ T.gC T.cM.choose_spec T.bQ.choose_spec) (yZ T.gD T.cM.choose_spec T.fW.choose_spec) (yZ T.fJ T.bQ.choose_spec T.fV.choose_spec) (yZ T.gF T.bQ.choose_spec T.cM.choose_spec) (yZ T.fK T.bQ.choose_spec T.bQ.choose_spec) (yZ T.iM T.bQ.choose_spec T.fW.choose_spec) (Yu T.eU T.cM.choose_spec) (Yu T.dG T.bQ.choose_spec)
    c30:=cg (ps:=["net","every","last","closed","number"]) X G T.D30 rfl rfl ‹lk5 λ_ _ _ _ _=>rfl› λ_ _ F=>d30 (cl:=jA T) F (mg_none_of X G T.pW) (mg_none_of X G T.vR) (mg_none_of X G T.aK) (mg_none_of X G T.fP) a.c28 a.c22 a.c21 a.c20
    c31:=cg (ps:=["script"]) X G T.D31 rfl rfl ‹JM λ_=>rfl› λ_ _ F=>d31 (cl:=jA T) F (mg_none_of X G T.Ej) (mg_none_of X G T.bw) (mg_none_of X G T.bL) a.c23 a.c27 a.c24 a.c26 a.c29 a.c30 a.c25
    Ys:=sI (ps:=["net","number"]) X G T.D15 rfl rfl ‹pJ λ_ _=>rfl› λ_ _ F=>aeg (cl:=jA T) F (mg_none_of X G T.bw) (qZ X G (Mr T.rM T.cM.choose_spec))
    x16:=sI (ps:=["net","number","room"]) X G T.D16 rfl rfl ‹mH λ_ _ _=>rfl› λ_ _ F=>aej (cl:=jA T) F a.Mp a.Ys
    x20:=sI (ps:=["net","last","number"]) X G T.D20 rfl rfl ‹mH λ_ _ _=>rfl› λ_ _ F=>ady (cl:=jA T) F a.Mp a.Yr a.c16 a.Ys
    x21:=sI (ps:=["net","last","number"]) X G T.D21 rfl rfl ‹mH λ_ _ _=>rfl› λ_ _ F=>aep (cl:=jA T) F (mg_none_of X G T.fP) a.Mp a.Yr a.c16 a.Ys
    x22:=sI (ps:=["net","closed","number"]) X G T.D22 rfl rfl ‹mH λ_ _ _=>rfl› λ_ _ F=>adG (cl:=jA T) F a.c19 a.Mp a.Ys}
theorem gin{K:PySem.W.Frag}{x:Str}{i:Int}{t:Tok}(a:PySem.W.nsIn K mainGlobals x=some (some (Value.int i t))):∃t,PySem.W.nsIn K mainGlobals x=some (some (Value.int i t)):=⟨t,a⟩
set_option maxHeartbeats 0 in
theorem Vb{Pg:Program}{w:World}{K:PySem.W.Frag}{mg:Str->Option Value}{h:Heap}{i:Addr}(T:Txt K)(X:K.In h)(G:h.Ns mainGlobals mg)(g:mg "law"=some (.ref i)):∃fd:FuncData,(∀(s:Shared)(u:Value),BindsTo s fd ⟨[u],[]⟩ [("script",u)])/\∀base:Heap,K.In base->base.Ns mainGlobals mg->iT Pg w K mg base Jv 40 i fd ["script"] (Ql K 1 (run Γ 100000000 40 31)):=by
 obtain⟨f,fd,a,F⟩:=T.D31.ex;have e:=g.symm.trans (mg_of X G a);cases e;refine⟨fd,λs u=>?_,λbase j l=>?_⟩;.obtain⟨oc,od,kV,m,q,r,cdv,ct,o,rfl,lk,p⟩:=F.ex;exact .of_eq rfl
 .have b:=HD (Pg:=Pg) (w:=w) (base:=base) T j l 39;exact d31 (cl:=jA T) (k:=39) (n:=100000000) (c:=run Γ 100000000 39) F (mg_none_of X G T.Ej) (mg_none_of X G T.bw) (mg_none_of X G T.bL) b.c23 b.c27 b.c24 b.c26 b.c29 b.c30 b.c25
end _T
open PySem W PyProof.Rows
set_option maxRecDepth 100000 in
set_option maxHeartbeats 0 in
theorem PySem.Challenge.cw_hourhaul_k89_worths_losses_gaps_holds : PySem.Challenge.rw_hourhaul_k89_worths_losses_gaps.Holds := by
 w_on;o_law;k_head;(case hw=>w_witness2);k_fill;refine _L.KJ (l:=PySem.Challenge.rw_hourhaul_k89_worths_losses_gaps) (n:=63) (k:=40) (x:="script") (CX:=_L.Jv) (sp:=λK=>_H.Ql K 1 (_H.run _T.Γ 100000000 40 31)) rfl (by decide) rfl ⟨rfl,by decide,by decide⟩ (λw h Y=>PySem.W.kIn_of Y) ?F ?S ?C;case F=>
  intro w mg q h j G i;refine _T.Vb ?T j G i;constructor;iterate 32(· refine' _H.T7 ?a ?l ?c ?k;case a|l|c|k=>k_is)
  iterate 16(· k_is)
  . (refine' _T.gin ?a);(case a=>k_is)
  . (refine' _T.gin ?a);(case a=>k_is)
  . (refine' _T.gin ?a);(case a=>k_is)
  . (refine' _T.gin ?a);(case a=>k_is)
  . (refine' _T.gin ?a);(case a=>k_is)
  . (refine' _H.Jw ?a);(case a=>k_is)
  . (refine' _H.Jw ?a);(case a=>k_is)
  . (refine' _H.Jw ?a);(case a=>k_is)
  . (refine' _H.Jw ?a);(case a=>k_is)
  . (refine' _H.Jw ?a);(case a=>k_is)
  . (refine' _H.Bo ?ca ?cq);(case ca=>k_is);(case cq=>k_exc)
  . (refine' _H.Bo ?ca ?cq);(case ca=>k_is);(case cq=>k_exc)
  . (refine' _H.Bo ?ca ?cq);(case ca=>k_is);(case cq=>k_exc)
  . (refine' _H.aas ?a ?c ?m);(case a=>k_is);(case c=>k_is);(case m=>k_is)
  . (refine' _H.aas ?a ?c ?m);(case a=>k_is);(case c=>k_is);(case m=>k_is)
  . (refine' _H.ZK ?a ?g ?h ?b ?f ?n ?t ?m);(case a=>k_is);(case g=>k_is);(case h=>k_is);(case b=>k_is);(case f=>k_is);(case n=>k_is);(case t=>k_is);(case m=>k_is)
  . (refine' _H.ZK ?a ?g ?h ?b ?f ?n ?t ?m);(case a=>k_is);(case g=>k_is);(case h=>k_is);(case b=>k_is);(case f=>k_is);(case n=>k_is);(case t=>k_is);(case m=>k_is)
  . (refine' _H.yX ?a ?c ?m);(case a=>k_is);(case c=>k_is);(case m=>kit_is)
  . (refine' _H.yX ?a ?c ?m);(case a=>k_is);(case c=>k_is);(case m=>kit_is)
  . (refine' _H.yX ?a ?c ?m);(case a=>k_is);(case c=>k_is);(case m=>kit_is)
  . (refine' _H.yX ?a ?c ?m);(case a=>k_is);(case c=>k_is);(case m=>kit_is)
  . (refine' _H.yX ?a ?c ?m);(case a=>k_is);(case c=>k_is);(case m=>kit_is)
  . (refine' _H.yX ?a ?c ?m);(case a=>k_is);(case c=>k_is);(case m=>kit_is)
  . (refine' _H.yX ?a ?c ?m);(case a=>k_is);(case c=>k_is);(case m=>kit_is)
  . (refine' _H.yX ?a ?c ?m);(case a=>k_is);(case c=>k_is);(case m=>kit_is)
  . (refine' _H.Ze ?a ?m);(case a=>k_is);(case m=>kit_is)
  . (refine' _H.Ze ?a ?m);(case a=>k_is);(case m=>kit_is)
 case S=>intro K H a ns o r p;obtain⟨as,e⟩:=_T.MK ns o;exact _H.Fp p e
 case C=>exact λH s e u z=>z
