import PyProof.Rows.All
import Wide.All
import OpenK.AllK
import Wide.FinOn
import Lean
import PyProof.EqAt
import PyProof.EqKinds
import PyProof.TupleCall
import PySem.Str
import PySem.Builtin.Int.W1All
import PyProof.NeKinds
import PyProof.ZipIter
import PyProof.SumWalkG
import PyProof.MinMaxWalk
import PyProof.WalksMore
import PyProof.SeqI3
import PyProof.WalkInts
import PyProof.Rows.CallKwBuiltin
import PyProof.Rows.Tup
import PyProof.CollectIter
import PyProof.EnumMake
import PyProof.TupleOfSeq
import PyProof.ListNew
import PyProof.ReprLoop
import PyProof.StationsW
import PyProof.ExcClass3
import PyProof.Rows.CatchBare
import OpenK.KOwn
import KE.KIsAll
import PyProof.NsDelKeeps
import PyProof.RulesAs
import PyProof.ExcArgsOwn
import PyProof.ListRange
import KE.RegKIsAll
import KE.KRevIter
import PyProof.Rows.SortRuns
import KE.KSortTup
import PyProof.DictWalks
import KE.KDictList
import KE.KItemsList
import PyProof.ExcBaseAll.ValueError
import PySem.Challenge.RW_hourhaul_k78_most_from_starts
set_option Elab.async false
set_option linter.all false
set_option maxRecDepth 100000
set_option genSizeOf false
set_option compiler.extract_closed false
set_option bootstrap.genMatcherCode false
open List(replicate getElem?_set_ne mem_map getElem?_set_self map_cons size_toArray mem_cons length_map map_map mem_singleton length_cons mem_cons_of_mem length_append nodup_cons mem_append mem_of_getElem? getElem?_append_left getElem?_map all_eq_true lookup_cons find?_cons append_nil map_append mem_append_right any_cons append_assoc map_nil mem_cons_self all_cons replicate_succ getElem?_append_right foldl map_congr_left filterMap_cons length_range getElem_mem getElem?_eq_getElem mem_range length_take drop_eq_getElem_cons cons_append toArray map nodup_append reverse_cons flatten_cons drop_eq_nil_iff filter_append any_eq_true of_mem_zip nil_append length_nil range_succ map_set)
open PySem.W(mg_none_of keepIn methodObj mg_of kitx_dict)
open Nat(le_refl ne_of_lt lt_of_lt_of_le zero_le le_trans lt_irrefl le_of_lt)
open PySem.Heap(lt_size get?_push_of_some get?_push_size get?_update_other size_push SameBut)
open PySem.Builtin.Tuple(tupleExact tupleItemsOf)
open Bool(and_eq_true false_eq_true or_eq_true not_eq_true')
open Option(map_eq_some_iff bind_some isSome_map getD_none getD_some)
open PySem.Builtin.Slice(slicePlaces sliceAdjust sliceApplied)
open PySem.Builtin.List(listTooLong listExtendWith listLengthHint listSameRef)
open Array(length_toList toList)
open PySem.SeqAt.EqAt(int_str str_int none_bool none_int none_str bool_none bool_bool bool_int bool_str int_none int_bool int_int str_none str_bool str_str)
open PySem.F(plainAttrs_list slot_tuple_add entry_tuple_add args_tuple_add_2 slot_tuple_mul slot_dict_get)
open Int(toNat_of_nonneg mul_zero mul_one sub_zero mul_comm max_eq_left mul_add mul_neg)
open PySem.SeqAt.RcAt(lists_lengths)
open PySem.SeqAt.RcNeAt(int_list str_list list_int list_str)
theorem gb{h:PySem.Heap}{o b:PySem.Obj}{a:PySem.Addr}(e:h.get? a=some o):(h.push b).get? a=some o:=PySem.Heap.get?_push_of_some _ e
theorem dw{b:Type}{l:List b}{i:Nat}{a:b}(h:l[i]?=some a):∃h:i<l.length,l[i]=a:=List.getElem?_eq_some_iff.mp h
theorem dz{b:Type}{l:List b}{i j:Nat}{a:b}(h:j≠i):(l.set i a)[j]?=l[j]?:=List.getElem?_set_ne (Ne.symm h)
theorem rK{n:Nat}:0<=n:=Nat.zero_le n
theorem cL{n:Nat}:n<=n:=Nat.le_refl n
section
namespace L2
open PySem PySem.Spec PyProof.Rows
variable{w:World}{h:Heap}{t' i:Nat}{M:Model}{A:Around}{s:Shared}{pos:Pos}{pins:List (Addr×Obj)}{K:PySem.W.Frag}{tg:Expr}{us:List Value}
noncomputable abbrev Key:=Sum Int Str
noncomputable def lJ:Key->Value->Bool|.inl k,v=>Value.isInt k v|.inr x,v=>Value.isStrOf x v
noncomputable def ZD(w:World):Key->Int|.inl k=>hashInt k|.inr x=>hashStr w x
theorem bf:∀{k:Key}{v:Value},lJ k v=true->(∃i t,k=Sum.inl i/\v=Value.int i t)\/(∃x t,k=Sum.inr x/\v=Value.str x t)|.inl i,v,h=>by obtain⟨t,e⟩:=Value.isInt_shape (k:=i) (v:=v) h;exact .inl ⟨i,t,rfl,e⟩|.inr x,v,h=>by obtain⟨t,e⟩:=Value.isStrOf_shape (x:=x) (v:=v) h;exact .inr ⟨x,t,rfl,e⟩
theorem An(i:Int)(t:Tok):lJ (.inl i) (.int i t)=true:=by simp[lJ,Value.isInt]
theorem zF(x:Str)(t:Tok):lJ (.inr x) (.str x t)=true:=by simp[lJ,Value.isStrOf]
theorem NP(a b:Int):decide ((Sum.inl a:Key)=Sum.inl b)=(a==b):=by
 by_cases e:a=b;.subst e;simp
 .have h:¬(Sum.inl a:Key)=Sum.inl b:=λq=>e (Sum.inl.inj q);rw[decide_eq_false h];exact(beq_eq_false_iff_ne.mpr e).symm
theorem N5(a b:Str):decide ((Sum.inr a:Key)=Sum.inr b)=decide (a=b):=by
 by_cases e:a=b;.subst e;simp
 .have h:¬(Sum.inr a:Key)=Sum.inr b:=λq=>e (Sum.inr.inj q);rw[decide_eq_false h,decide_eq_false e]
theorem N6(a:Int)(b:Str):decide ((Sum.inl a:Key)=Sum.inr b)=false:=decide_eq_false (λq=>nomatch q)
theorem Oh(a:Str)(b:Int):decide ((Sum.inr a:Key)=Sum.inl b)=false:=decide_eq_false (λq=>nomatch q)
noncomputable def aQ(prog:Program)(w:World):PySem.KeyKind prog w Key where
 is:=lJ;hash:=ZD w;inj:=λv a b g f=>by
  rcases bf g with⟨i,t,rfl,rfl⟩|⟨x,t,rfl,rfl⟩
  . rcases bf f with⟨j,u,rfl,e⟩|⟨y,u,rfl,e⟩;.injection e with e1 _;rw[e1]
    .exact nomatch e
  . rcases bf f with⟨j,u,rfl,e⟩|⟨y,u,rfl,e⟩;.exact nomatch e
    .injection e with e1 _;rw[e1]
 byValue:=λk v h=>by rcases bf h with⟨i,t,rfl,rfl⟩|⟨x,t,rfl,rfl⟩<;>rfl
 pyHash:=λc h=>by
  rcases bf c with⟨i,t,rfl,rfl⟩|⟨x,t,rfl,rfl⟩;.exact wpAny_pyHash_int h
  .exact wpAny_pyHash_str h
 eqBool:=λl c h=>by
  rcases bf l with⟨i,t,rfl,rfl⟩|⟨x,t,rfl,rfl⟩
  . rcases bf c with⟨j,u,rfl,rfl⟩|⟨y,u,rfl,rfl⟩;.rw[NP]at h;exact wpAny_eqBool_int h
    .rw[N6]at h;exact int_str i t y u _ _ _ _ h
  . rcases bf c with⟨j,u,rfl,rfl⟩|⟨y,u,rfl,rfl⟩;.rw[Oh]at h;exact str_int x t j u _ _ _ _ h
    .rw[N5]at h;exact wpAny_eqBool_str h
 «strs»:=λk x t v h=>by
  rcases bf h with⟨i,u,rfl,e⟩|⟨y,u,rfl,e⟩;.exact nomatch e
  .injection e with e1 _;subst e1;cases v<;>rfl
theorem vf(prog:Program)(w:World)(i:Int)(t:Tok):(aQ prog w).is (.inl i) (.int i t)=true:=An i t
theorem uF(prog:Program)(w:World)(x:Str)(t:Tok):(aQ prog w).is (.inr x) (.str x t)=true:=zF x t
inductive V where|non|bl(b:Bool)|int(i:Int)|str(x:Str)|byt(b:Array UInt8)|flt(b:UInt64)|ref(a:Addr)|ty(n:String)deriving DecidableEq
def RelV:V->Value->Prop|.non,u=>u=Value.none|.bl b,u=>u=Value.bool b|.int i,u=>∃t,u=Value.int i t|.str x,u=>∃t,u=Value.str x t|.byt b,u=>∃t,u=Value.bytes b t|.flt b,u=>∃t,u=Value.float b t|.ref a,u=>u=Value.ref a|.ty n,u=>u=Value.type n
abbrev Vals:List V->List Value->Prop:=Paired RelV
theorem Vals.length{xs:List V}{us:List Value}(r:Vals xs us):xs.length=us.length:=Paired.length r
theorem Vals.get:∀{xs:List V}{us:List Value}{i:Nat}{x:V},Vals xs us->xs[i]?=some x->∃u,us[i]?=some u/\RelV x u|_,_,_,_,.nil,e=>by simp at e|_,_,0,_,.cons r _,e=>by simp at e;subst e;exact⟨_,rfl,r⟩|_,_,i+1,x,.cons _ t,e=>by obtain⟨u,h1,a⟩:=Vals.get (i:=i) (x:=x) t (by simpa using e);exact⟨u,by simpa using h1,a⟩
theorem Vals.set{x:V}{u:Value}(r:RelV x u):∀{xs:List V}{us:List Value}(i:Nat),Vals xs us->Vals (xs.set i x) (us.set i u)|_,_,_,.nil=>.nil|_,_,0,.cons _ t=>.cons r t|_,_,i+1,.cons q t=>.cons q (Vals.set r i t)
theorem Vals.append:∀{xs ys:List V}{us ws:List Value},Vals xs us->Vals ys ws->Vals (xs++ys) (us++ws)|_,_,_,_,.nil,s=>s|_,_,_,_,.cons r t,s=>.cons r (Vals.append t s)
theorem Vals.take:∀{xs:List V}{us:List Value}(n:Nat),Vals xs us->Vals (xs.take n) (us.take n)|_,_,0,_=>.nil|_,_,_+1,.nil=>.nil|_,_,n+1,.cons r t=>.cons r (Vals.take n t)
theorem Vals.drop:∀{xs:List V}{us:List Value}(n:Nat),Vals xs us->Vals (xs.drop n) (us.drop n)|_,_,0,r=>r|_,_,_+1,.nil=>.nil|_,_,n+1,.cons _ t=>Vals.drop n t
def lU:Option V->Option Value->Prop|some v,some u=>RelV v u|none,none=>True|_,_=>False
def KV{κ:Type}:List (κ×V)->List (κ×Value)->Prop:=Paired λ(p:κ×V)(q:κ×Value)=>p.1=q.1/\RelV p.2 q.2
noncomputable def kV:Key->V|.inl i=>.int i|.inr x=>.str x
inductive HO where|lst(xs:List V)|tup(xs:List V)|dK(kvs:List (Key×V))|dT(kvs:List (List Key×V))|set(S:Int->Bool)(n:Nat)|ins(C dx:Addr)(fs:List (Str×V))|own(x:Addr)|xd(fs:List (Str×V))|met(f x:Addr)|qG(lo hi:Int)|cG(o:Obj)(u:HO)|Qv(ps:Array Value)|ext(φ:Heap->Prop)
noncomputable abbrev Hp:=Addr->Option HO
variable{H:Hp}
noncomputable def upd(H:Hp)(a:Addr)(o:HO):Hp:=λb=>if b=a then some o else H b
theorem aH{a:Addr}{o:HO}:upd H a o a=some o:=by unfold upd;rw[if_pos rfl]
theorem ao{a b:Addr}{o:HO}(h:b≠a):upd H a o b=H b:=by unfold upd;rw[if_neg h]
theorem xX{a:Addr}{o u:HO}:upd (upd H a o) a u=upd H a u:=by funext b;unfold upd;split<;>rfl
theorem Vg{a b:Addr}{o u:HO}(h:H a=some o)(h':H b=some u)(d:o≠u):a≠b:=by intro e;subst e;rw[h]at h';exact d (Option.some.inj h')
theorem eV{a b:Addr}{o:HO}(h:H a=some o)(h':H b=none):a≠b:=by intro e;subst e;rw[h]at h';cases h'
section
variable(P:Program)(w:World)
def bj(H:Hp)(h:Heap)(a:Addr):HO->Prop|.lst xs=>xs.length<=sizeLine/\∃(b:List Value)(n:Nat),Vals xs b/\h.get? a=some {cls:=.type "list",data:=.seq b.toArray n}|.tup xs=>xs.length<=sizeLine/\∃b:List Value,Vals xs b/\IsTup h a b.toArray|.dK kvs=>kvs.length<=sizeLine/\(a==sysModules)=false/\∃vs,KV kvs vs/\h.DictOf (aQ P w) a vs|.dT kvs=>kvs.length<=sizeLine/\(a==sysModules)=false/\∃xs:List (List Key×Addr×Value),Paired (λ(p:List Key×V)(q:List Key×Addr×Value)=>p.1=q.1/\H q.2.1=some (.tup (p.1.map kV))/\RelV p.2 q.2.2) kvs xs/\∃o es ep,h.get? a=some o/\o.ExactDict/\o.data=.dict es ep/\es.toList=xs.map (entryOfKey (tupleKind (aQ P w)))/\(xs.map (·.1)).Nodup|.set S n=>h.SetOf (intKind P w) a S n|.ins C e fs=>H e=some (.own a)/\fs.length<=1000/\e≠a/\h.get? a=some (PySem.W.instObj C e)/\∃c,h.Ns1 e c/\(∀f,lU (fs.lookup f) (c f))/\PySem.Within c (fs.map (·.1))|.own _=>∃o,h.get? a=some o|.xd fs=>∃c,h.Ns1 a c/\∀f,lU (fs.lookup f) (c f)|.qG lo hi=>∃t u v,h.get? a=some {cls:=.type "range",data:=.fields #[.int lo t,.int hi u,.int 1 v]}|.cG o u=>h.get? a=some o/\bj H h a u|.Qv ps=>h.get? a=some {cls:=.none,data:=.fields ps}|.met f x=>h.get? a=some (methodObj (.ref f) (.ref x))|.ext g=>g h/\(∃o,h.get? a=some o)/\∀h1 j:Heap,g h1->(∀o,h1.get? a=some o->j.get? a=some o)->g j
def j6(H:Hp)(h:Heap):Prop:=∀a o,H a=some o->bj P w H h a o
end
section
variable{P:Program}{w:World}{H H':Hp}{h h':Heap}{a:Addr}{o:HO}
theorem bj.lt(x:bj P w H h a o):a<h.objs.size:=by cases o with|lst xs=>obtain⟨_,_,_,_,e⟩:=x;exact lt_size e|tup xs=>obtain⟨_,_,_,p⟩:=x;exact p.lt|dK kvs=>obtain⟨_,_,_,_,o,_,_,e,_⟩:=x;exact lt_size e|dT kvs=>obtain⟨_,_,_,_,o,_,_,e,_⟩:=x;exact lt_size e|set S n=>obtain⟨o,_,_,_,e,_⟩:=x;exact lt_size e|ins C b fs=>obtain⟨_,_,_,e,_⟩:=x;exact lt_size e|own y=>obtain⟨_,e⟩:=x;exact lt_size e|xd fs=>obtain⟨_,⟨_,_,_,e,_⟩,_⟩:=x;exact lt_size e|qG lo hi=>obtain⟨_,_,_,e⟩:=x;exact lt_size e|cG c u=>obtain⟨e,_⟩:=x;exact lt_size e|Qv ps=>exact lt_size (show h.get? a=some _ from x)|met f y=>exact lt_size (show h.get? a=some _ from x)|ext g=>obtain⟨_,⟨_,e⟩,_⟩:=x;exact lt_size e
theorem Paired.Og{g j:Type}{F G:g->j->Prop}:∀{c:List g}{e:List j},Paired F c e->(∀a b,F a b->G a b)->Paired G c e|_,_,.nil,_=>.nil|_,_,.cons r t,f=>.cons (f _ _ r) (Paired.Og t f)
theorem bj.stay(x:bj P w H h a o)(k:∀b u,(b=a\/H b=some (.own a))->h.get? b=some u->h'.get? b=some u)(ho:∀b,H b=some (.own a)->H' b=some (.own a))(ht:∀b xs,H b=some (.tup xs)->H' b=some (.tup xs)):bj P w H' h' a o:=by induction o with|lst xs=>obtain⟨z,j,n,r,e⟩:=x;exact⟨z,j,n,r,k _ _ (.inl rfl) e⟩|tup xs=>obtain⟨z,j,r,g,e,c⟩:=x;exact⟨z,j,r,g,k _ _ (.inl rfl) e,c⟩|dK kvs=>obtain⟨z,y,vs,r,g,es,ep,e,c⟩:=x;exact⟨z,y,vs,r,g,es,ep,k _ _ (.inl rfl) e,c⟩|dT kvs=>obtain⟨z,y,xs,r,g,es,ep,e,c⟩:=x;exact⟨z,y,xs,Paired.Og r λp q z=>⟨z.1,ht _ _ z.2.1,z.2.2⟩,g,es,ep,k _ _ (.inl rfl) e,c⟩|set S n=>obtain⟨g,es,ep,t,e,c⟩:=x;exact⟨g,es,ep,t,k _ _ (.inl rfl) e,c⟩|ins C G fs=>obtain⟨d,z,ne,e,l,⟨m,es,ep,B,c⟩,r⟩:=x;exact⟨ho _ d,z,ne,k _ _ (.inl rfl) e,l,⟨m,es,ep,k _ _ (.inr d) B,c⟩,r⟩|own y=>obtain⟨g,e⟩:=x;exact⟨g,k _ _ (.inl rfl) e⟩|xd fs=>obtain⟨l,⟨m,es,ep,e,c⟩,r⟩:=x;exact⟨l,⟨m,es,ep,k _ _ (.inl rfl) e,c⟩,r⟩|qG lo hi=>obtain⟨t,u,v,e⟩:=x;exact⟨t,u,v,k _ _ (.inl rfl) e⟩|cG g u E=>obtain⟨e,q⟩:=x;exact⟨k _ _ (.inl rfl) e,E q⟩|Qv ps=>have e:h.get? a=some {cls:=.none,data:=.fields ps}:=x;show h'.get? a=some {cls:=.none,data:=.fields ps};exact k a _ (.inl rfl) e|met f y=>have e:h.get? a=some (methodObj (.ref f) (.ref y)):=x;show h'.get? a=some (methodObj (.ref f) (.ref y));exact k a _ (.inl rfl) e|ext I=>obtain⟨p,⟨o,e⟩,st⟩:=x;exact⟨st _ _ p λo q=>k _ _ (.inl rfl) q,⟨o,k _ _ (.inl rfl) e⟩,st⟩
theorem j6.lt(x:j6 P w H h)(e:H a=some o):a<h.objs.size:=(x a o e).lt
theorem j6.fresh(x:j6 P w H h)(e:h.objs.size<=a):H a=none:=by cases q:H a with|none=>rfl|some u=>exact absurd (lt_of_lt_of_le (x.lt q) e) (lt_irrefl _)
theorem j6.kept(x:j6 P w H h)(k:∀b u,h.get? b=some u->h'.get? b=some u):j6 P w H h':=λa o e=>(x a o e).stay (λb u _ q=>k b u q) (λ_ q=>q) λ_ _ q=>q
theorem j6.laid(x:j6 P w H h)(k:∀b u,h.get? b=some u->h'.get? b=some u)(l:h.objs.size<=a)(f:bj P w (upd H a o) h' a o):j6 P w (upd H a o) h':=λb u e=>by
 have g:=x.fresh l;by_cases j:b=a;.subst j;rw[aH]at e;cases e;exact f
 .rw[ao j]at e;exact(x b u e).stay (λc v _ q=>k c v q) (λc q=>by rw[ao (eV q g)];exact q) λc xs q=>by rw[ao (eV q g)];exact q
end
def Rd(H:Hp)(a:Addr)(u:HO):Prop:=H a=some u\/∃o,H a=some (.cG o u)
theorem Rd.ok{P:Program}{a:Addr}{u:HO}(r:Rd H a u)(x:j6 P w H h):bj P w H h a u:=by
 rcases r with r|⟨o,r⟩;.exact x a u r
 .obtain⟨_,q⟩:=x a _ r;exact q
def TX:Option HO->Prop|some (.lst _)=>True|some (.dK _)=>True|some (.dT _)=>True|some (.set _ _)=>True|some (.ins _ _ _)=>True|some (.ext _)=>True|_=>False
section
variable{P:Program}{w:World}{H:Hp}{h h':Heap}{x e:Addr}{o':HO}
theorem j6.write(ok:j6 P w H h)(f:TX (H x))(he:e=x\/H e=some (.own x))(k:∀b u,b≠e->h.get? b=some u->h'.get? b=some u)(j:∃u,h'.get? e=some u)(l:bj P w (upd H x o') h' x o'):j6 P w (upd H x o') h':=λb u q=>by
 have n:∀c y,H c=some (.own y)->c≠x:=λc y r z=>by subst z;rw[r]at f;exact f
 have m:∀c xs,H c=some (.tup xs)->c≠x:=λc xs r z=>by subst z;rw[r]at f;exact f
 by_cases g:b=x;.subst g;rw[aH]at q;cases q;exact l
 . rw[ao g]at q;by_cases a:b=e
   . have o:H b=some (.own x):=by
      rcases he with z|z;.exact absurd (a.trans z) g
      .rw[a];exact z
     rw[q]at o;cases o;obtain⟨v,p⟩:=j;exact⟨v,by rw[a];exact p⟩
   . refine(ok b u q).stay (λc v hc r=>k c v ?_ r) (λc r=>by rw[ao (n c b r)];exact r) λc xs r=>by rw[ao (m c xs r)];exact r
     rcases hc with rfl|hc;.exact a
     . rintro rfl;rcases he with z|z;.exact n c b hc z
       .rw[hc]at z;cases z;exact g rfl
end
structure Un(fs ex:List Addr)(H H':Hp)(h h':Heap):Prop where
 keep:∀b o,h.get? b=some o->H b=none->b∉fs->b∉ex->h'.get? b=some o
 slot:∀b o,h.get? b=some o->H b=none->b∈fs->b∉ex->∃sl,h'.get? b=some {o with slots:=sl}free:∀b o,h.get? b=some o->H b=none->b∉ex->H' b=none
 there:∀b o,h.get? b=some o->b∉ex->∃o',h'.get? b=some o'
 tups:∀b xs,H b=some (.tup xs)->H' b=some (.tup xs)sU:∀b o u,H b=some (.cG o u)->H' b=some (.cG o u)vo:∀b ps,H b=some (.Qv ps)->∃more,H' b=some (.Qv (ps++more))
section
variable{fs fs' ex ex':List Addr}{H H1 H2:Hp}{h h1 h2 h':Heap}{a x e:Addr}{o:HO}
theorem Un.any(u:Un fs ex H H1 h h1){b:Addr}{c:Obj}(q:h.get? b=some c)(n:H b=none)(f:b∉ex):∃sl,h1.get? b=some {c with slots:=sl}:=by
 by_cases g:b∈fs;.exact u.slot b c q n g f
 .exact⟨c.slots,u.keep b c q n g f⟩
theorem Un.kept(k:∀b u,h.get? b=some u->h'.get? b=some u):Un fs ex H H h h':=⟨λb c q _ _ _=>k b c q,λb c q _ _ _=>⟨c.slots,k b c q⟩,λ_ _ _ n _=>n,λb c q _=>⟨c,k b c q⟩,λ_ _ q=>q,λ_ _ _ q=>q,λ_ ps q=>⟨#[],by rw[q];simp⟩⟩
theorem Un.refl:Un fs ex H H h h:=Un.kept λ_ _ q=>q
theorem Un.laid(k:∀b u,h.get? b=some u->h'.get? b=some u)(f:h.objs.size<=a)(c:H a=none):Un fs ex H (upd H a o) h h' where
 keep:=λb u q _ _ _=>k b u q;slot:=λb u q _ _ _=>⟨u.slots,k b u q⟩;free:=λb u q n _=>by rw[ao (ne_of_lt (lt_of_lt_of_le (lt_size q) f))];exact n
 there:=λb u q _=>⟨u,k b u q⟩;tups:=λb xs q=>by rw[ao (eV q c)];exact q
 sU:=λb u xs q=>by rw[ao (eV q c)];exact q
 vo:=λb ps q=>⟨#[],by rw[ao (eV q c),q];simp⟩
theorem Un.write(f:TX (H x))(he:e=x\/H e=some (.own x))(k:∀b u,b≠e->h.get? b=some u->h'.get? b=some u)(g:∃u,h'.get? e=some u):Un fs ex H (upd H x o) h h':=by
 have l:∀b,H b=none->b≠x:=λb n z=>by subst z;rw[n]at f;exact f
 have m:∀b,H b=none->b≠e:=λb n z=>by
  subst z;rcases he with r|r;.exact l b n r
  .rw[n]at r;cases r
 have j:∀b u,H b=some u->¬ TX (some u)->b≠x:=λb u q p z=>by subst z;rw[q]at f;exact p f
 refine⟨λb u q n _ _=>k b u (m b n) q,λb u q n _ _=>⟨u.slots,k b u (m b n) q⟩,λb u q n _=>by rw[ao (l b n)];exact n,λb u q _=>?_,λb xs q=>by rw[ao (j b _ q λz=>z)];exact q,λb u xs q=>by rw[ao (j b _ q λz=>z)];exact q,λb ps q=>⟨#[],by rw[ao (j b _ q λz=>z),q];simp⟩⟩;by_cases c:b=e;.subst c;exact g
 .exact⟨u,k b u c q⟩
end
noncomputable def Xp(h:Heap)(H:Hp):List Addr:=(List.range h.objs.size).filter λa=>(H a).isSome
noncomputable def rP(h:Heap)(H:Hp):Heap:=PySem.W.hideAll h (Xp h H)
theorem zN(h:Heap)(H:Hp):(rP h H).objs.size=h.objs.size:=PySem.W.hideAll_size _ _
theorem Bu{b:Addr}{o:Obj}(e:h.get? b=some o)(n:H b=none):(rP h H).get? b=some o:=PySem.W.hideAll_get _ e λa=>by have q:(H b).isSome=true:=(List.mem_filter.mp a).2;rw[n]at q;simp at q
theorem Jj{b:Addr}{o:Obj}(e:(rP h H).get? b=some o):h.get? b=some o/\H b=none:=by have a:h.get? b=some o:=PySem.W.of_hideAll (Xp h H) e;refine⟨a,?_⟩;cases q:H b with|none=>rfl|some x=>have c:b∈Xp h H:=List.mem_filter.mpr ⟨mem_range.mpr (lt_size a),by simp[q]⟩;have z:(rP h H).get? b=none:=PySem.W.hideAll_none (Xp h H) c;rw[z]at e;cases e
structure Mod(K:PySem.W.Frag)(mg:Str->Option Value)(base:Heap):Prop where
 pg:K.In base
 glob:base.Ns mainGlobals mg
 blt:∃mb,base.Ns builtinsNs mb/\∀x:Str,x≠"__name__"->mb x=bootBuiltins x
 nolimit:base.NoLimit
structure Cx where
 prog:Program
 w:World
 K:PySem.W.Frag
 mg:Str->Option Value
 base:Heap
 A:Around
 N:List Str
 s₀:Shared
 H₀:Hp
 env:Env
 outer:List Env
 stack:List Env
 ex:List Addr
 fn:Str->Bool
 calm:Bool
 pn:List (Addr×Obj)xe:Value->Shared->Prop
variable{X:Cx}
noncomputable def frs(l:List Env):List Addr:=l.filterMap (·.frame)
noncomputable abbrev Cx.fs(X:Cx):List Addr:=frs X.outer
def tD(a:Scope)(x:Str):Prop:=a.names.lookup x=some .local\/a.names.lookup x=some .cell\/a.names.lookup x=some .free
def Loc(a:Scope)(x:Str):Prop:=a.names.lookup x=some .local\/a.names.lookup x=some .cell
def Look(env:Env)(h:Heap)(m:Str->Option Value)(x:Str)(u:Value):Prop:=(env.kindOf x=some .local/\m x=some u)\/((env.kindOf x=some .cell\/env.kindOf x=some .free)/\∃c,env.cells.lookup x=some c/\h.IsCell c (some u))
structure Cx.Ok(X:Cx):Prop where
 mod:Mod X.K X.mg X.base
 kind:X.env.scope.kind=.function
 glob:X.env.globals=mainGlobals
 blt:X.env.builtins=builtinsNs
 above:X.s₀.heap.objs.size<=X.env.locals
 inj:∀x y c,X.env.cells.lookup x=some c->X.env.cells.lookup y=some c->x=y
 has:∀x,(X.env.kindOf x=some .cell\/X.env.kindOf x=some .free)->∃c,X.env.cells.lookup x=some c
 cab:∀x c,X.fn x=true->X.env.cells.lookup x=some c->X.s₀.heap.objs.size<=c
 hd:X.calm=true->X.A.handled=none
 frames:X.A.frames=some X.stack
 Yl:X.stack=X.outer\/(X.stack=X.env::X.outer/\X.env.frame=some X.env.locals)exf:∀b∈X.ex,b≠X.env.locals/\∀x c,X.env.cells.lookup x=some c->c≠b
 bs:∀b o,X.base.get? b=some o->X.s₀.heap.get? b=some o/\X.H₀ b=none
 KD:X.base.objs.size<=X.s₀.heap.objs.size
 Gb:∀b o,X.base.get? b=some o->b∉X.ex
 Jw:∀b∈X.ex,b∉X.fs
 oY:X.s₀.heap.FunFrames X.base X.outer
 R8:∀b∈X.fs,X.H₀ b=none
structure Inv(X:Cx)(pins:List (Addr×Obj))(σ:List (Option V))(H:Hp)(s:Shared):Prop where
 ok:X.Ok
 os:s.os=X.s₀.os
 bare:AllBare s.gens
 base:Un X.fs X.ex X.H₀ H X.s₀.heap s.heap
 loc:∃m,s.heap.Ns X.env.locals m/\∀(i:Nat)(x:Str)(v:V),X.N[i]?=some x->σ[i]?=some (some v)->tD X.env.scope x->∃u,RelV v u/\Look X.env s.heap m x u
 cell:∀x c,X.env.cells.lookup x=some c->∃v,s.heap.IsCell c v
 free:H X.env.locals=none
 jo:∀x c,X.env.cells.lookup x=some c->H c=none
 pin:∀p∈X.pn++pins,s.heap.get? p.1=some p.2/\H p.1=none/\p.1≠X.env.locals/\p.1∉X.fs/\∀v,p.2.data≠.cell v
 hok:j6 X.prog X.w H s.heap
 len:σ.length=X.N.length
section
variable{X:Cx}{pins:List (Addr×Obj)}{σ:List (Option V)}{H H':Hp}{s:Shared}{h':Heap}
theorem Cx.Ok.YQ(ok:X.Ok){b:Addr}{o:Obj}(e:X.base.get? b=some o):b∉X.fs:=λa=>by have:=(ok.oY.mem a).1;rw[e]at this;cases this
theorem Inv.bs(I:Inv X pins σ H s):∀b o,X.base.get? b=some o->s.heap.get? b=some o/\H b=none:=λb o e=>⟨I.base.keep b o (I.ok.bs b o e).1 (I.ok.bs b o e).2 (I.ok.YQ e) (I.ok.Gb b o e),I.base.free b o (I.ok.bs b o e).1 (I.ok.bs b o e).2 (I.ok.Gb b o e)⟩
theorem Inv.bk(I:Inv X pins σ H s):∀b o,X.base.get? b=some o->s.heap.get? b=some o:=λb o e=>(I.bs b o e).1
theorem Inv.mod(I:Inv X pins σ H s):Mod X.K X.mg X.base:=I.ok.mod
theorem Inv.Qi(I:Inv X pins σ H s):X.K.In s.heap:=I.ok.mod.pg.keeps I.bk
theorem Inv.lt(I:Inv X pins σ H s):X.env.locals<s.heap.objs.size:=let⟨_,hn,_⟩:=I.loc;hn.lt
theorem Inv.sz(I:Inv X pins σ H s):X.s₀.heap.objs.size<=s.heap.objs.size:=le_trans I.ok.above (le_of_lt I.lt)
theorem Inv.YL(I:Inv X pins σ H s){a:Addr}(h:s.heap.objs.size<=a):a∉X.fs:=λb=>by obtain⟨_,o,ho,_⟩:=I.ok.oY.mem b;exact absurd (lt_of_lt_of_le (lt_size ho) (le_trans I.sz h)) (lt_irrefl _)
theorem Inv.Nf(I:Inv X pins σ H s):∀x c,X.env.cells.lookup x=some c->c≠X.env.locals:=λx c e z=>by obtain⟨v,o,ho,hd⟩:=I.cell x c e;obtain⟨m,⟨f,es,ep,a,b,_⟩,_⟩:=I.loc;rw[z,a]at ho;cases ho;rw[b]at hd;cases hd
theorem Inv.oY(I:Inv X pins σ H s):s.heap.FunFrames X.base X.outer:=by
 have all:∀(l:List Env),(∀b∈frs l,b∈X.fs)->X.s₀.heap.FunFrames X.base l->s.heap.FunFrames X.base l:=by intro l;induction l with|nil=>intro _ _;trivial|cons env r g=>intro hs j;obtain⟨k,⟨L,o,a,m,ho,hd⟩,hr⟩:=j;have c:L∈X.fs:=hs L (by unfold frs;rw[filterMap_cons,a];exact mem_cons_self);obtain⟨sl,e⟩:=I.base.slot L o ho (I.ok.R8 L c) c λz=>I.ok.Jw L z c;exact⟨k,⟨L,_,a,m,e,hd⟩,g (λb f=>hs b (by unfold frs;rw[filterMap_cons,a];exact mem_cons_of_mem _ f)) hr⟩
 exact all X.outer (λ_ f=>f) I.ok.oY
theorem Inv.stack(I:Inv X pins σ H s):s.heap.FunFrames X.base X.stack:=by
 rcases I.ok.Yl with e|⟨e,a⟩;.rw[e];exact I.oY
 .rw[e];obtain⟨m,b,_⟩:=I.loc;refine .cons (by rw[I.ok.kind];decide) a b ?_ I.oY;exact Heap.get?_none_of_le (le_trans I.ok.KD I.ok.above)
theorem Inv.sO(I:Inv X pins σ H s):∀b∈frs X.stack,b∈X.env.locals::X.fs:=λb a=>by
 rcases I.ok.Yl with e|⟨e,c⟩;.rw[e]at a;exact mem_cons_of_mem _ a
 .rw[e]at a;unfold frs at a;rw[filterMap_cons,c]at a;exact a
theorem Inv.yX(I:Inv X pins σ H s):∀b∈frs X.stack,H b=none:=λb hb=>by
 rcases mem_cons.mp (I.sO b hb)with e|hb;.rw[e];exact I.free
 .obtain⟨_,o,ho,_⟩:=I.ok.oY.mem hb;exact I.base.free b o ho (I.ok.R8 b hb) λz=>I.ok.Jw b z hb
theorem Inv.step{g':Array GenState}{d':Drawn}{ch:List Addr}(I:Inv X pins σ H s)(f:∀b∈ch,(b∈X.ex\/X.s₀.heap.objs.size<=b)/\b≠X.env.locals/\(∀x c,X.env.cells.lookup x=some c->c≠b)/\∀p∈X.pn++pins,p.1≠b)(keep:∀b o,b≠X.env.locals->b∉X.fs->b∉ch->s.heap.get? b=some o->H b=none->h'.get? b=some o)(slot:∀b o,b≠X.env.locals->b∈X.fs->b∉ch->s.heap.get? b=some o->H b=none->∃sl,h'.get? b=some {o with slots:=sl})(free:∀b o,b∉ch->s.heap.get? b=some o->H b=none->H' b=none)(there:∀b o,b∉ch->s.heap.get? b=some o->∃y,h'.get? b=some y)(tups:∀b xs,H b=some (.tup xs)->H' b=some (.tup xs))(sU:∀b o u,H b=some (.cG o u)->H' b=some (.cG o u))(vo:∀b ps,H b=some (.Qv ps)->∃more,H' b=some (.Qv (ps++more)))(ns:∀m,s.heap.Ns X.env.locals m->h'.Ns X.env.locals m)(hok:j6 X.prog X.w H' h')(O:AllBare g'):Inv X pins σ H' {s with heap:=h',gens:=g',drawn:=d',toks:=t'}:=by
 have B:∀b o,X.s₀.heap.get? b=some o->b≠X.env.locals:=λb o e=>ne_of_lt (lt_of_lt_of_le (lt_size e) I.ok.above);have G:∀b o,X.s₀.heap.get? b=some o->b∉X.ex->b∉ch:=λb o e a t=>by
  rcases(f b t).1 with z|z;.exact a z
  .exact absurd (lt_of_lt_of_le (lt_size e) z) (lt_irrefl _)
 have g:∀x c,X.env.cells.lookup x=some c->∀v,s.heap.IsCell c v->h'.IsCell c v:=λx c e v⟨o,ho,hd⟩=>by
  have C:c∉ch:=λz=>(f c z).2.2.1 x c e rfl;by_cases hc:c∈X.fs;.obtain⟨sl,q⟩:=slot c o (I.Nf x c e) hc C ho (I.jo x c e);exact⟨_,q,hd⟩
  .exact⟨o,keep c o (I.Nf x c e) hc C ho (I.jo x c e),hd⟩
 refine⟨I.ok,I.os,O,⟨λb o e n t a=>?_,λb o e n t a=>?_,λb o e n a=>?_,λb o e a=>?_,λb xs e=>tups b xs (I.base.tups b xs e),λb o xs e=>sU b o xs (I.base.sU b o xs e),λb ps e=>?_⟩,?_,λx c e=>?_,?_,λx c e=>?_,λp L=>?_,hok,I.len⟩;.exact keep b o (B b o e) t (G b o e a) (I.base.keep b o e n t a) (I.base.free b o e n a)
 .obtain⟨sl,j⟩:=I.base.slot b o e n t a;obtain⟨J,E⟩:=slot b _ (B b o e) t (G b o e a) j (I.base.free b o e n a);exact⟨J,E⟩
 .obtain⟨y,j⟩:=I.base.there b o e a;exact free b y (G b o e a) j (I.base.free b o e n a)
 .obtain⟨y,j⟩:=I.base.there b o e a;exact there b y (G b o e a) j
 .obtain⟨m1,j⟩:=I.base.vo b ps e;obtain⟨Q,E⟩:=vo b _ j;exact⟨m1++Q,by rw[E,Array.append_assoc]⟩
 . obtain⟨m,U,W⟩:=I.loc;refine⟨m,ns m U,λi x v j E Y=>?_⟩;obtain⟨u,r,l⟩:=W i x v j E Y;refine⟨u,r,?_⟩;rcases l with l|⟨k,c,e,z⟩;.exact .inl l
   .exact .inr ⟨k,c,e,g x c e _ z⟩
 .obtain⟨v,z⟩:=I.cell x c e;exact⟨v,g x c e v z⟩
 .obtain⟨m,⟨o,_,_,ho,_⟩,_⟩:=I.loc;exact free _ o (λz=>(f _ z).2.1 rfl) ho I.free
 .obtain⟨v,o,ho,hd⟩:=I.cell x c e;exact free c o (λz=>(f c z).2.2.1 x c e rfl) ho (I.jo x c e)
 .obtain⟨e,n,ne,N,d⟩:=I.pin p L;have C:p.1∉ch:=λz=>(f p.1 z).2.2.2 p L rfl;exact⟨keep p.1 p.2 ne N C e n,free p.1 p.2 C e n,ne,N,d⟩
theorem Inv.un(I:Inv X pins σ H s)(u:Un X.fs [] H H' s.heap h')(hok:j6 X.prog X.w H' h'):Inv X pins σ H' {s with heap:=h',toks:=t'}:=by obtain⟨m,⟨o,es,ep,ho,r⟩,_⟩:=id I.loc;obtain⟨sl,j⟩:=u.any ho I.free (by simp);exact I.step (g':=s.gens) (d':=s.drawn) (ch:=[]) (λ_ z=>nomatch z) (λb o _ c _ e n=>u.keep b o e n c (by simp)) (λb o _ c _ e n=>u.slot b o e n c (by simp)) (λb o _ e n=>u.free b o e n (by simp)) (λb o _ e=>u.there b o e (by simp)) u.tups u.sU u.vo (λp k=>by obtain⟨q,f,g,a,l⟩:=k;rw[ho]at a;cases a;exact⟨_,f,g,j,l⟩) hok I.bare
theorem Inv.call{g':Array GenState}{d':Drawn}{ch:List Addr}(I:Inv X pins σ H s)(u:Un (frs X.stack) ch H H' s.heap h')(hok:j6 X.prog X.w H' h')(l:AllBare g')(a:∀b∈ch,(b∈X.ex\/X.s₀.heap.objs.size<=b)/\b≠X.env.locals/\(∀x c,X.env.cells.lookup x=some c->c≠b)/\∀p∈X.pn++pins,p.1≠b):Inv X pins σ H' {s with heap:=h',gens:=g',drawn:=d',toks:=t'}:=by obtain⟨m,⟨o,es,ep,ho,r⟩,_⟩:=id I.loc;obtain⟨sl,g⟩:=u.any ho I.free λz=>(a _ z).2.1 rfl;exact I.step (ch:=ch) a (λb o g q hc e n=>u.keep b o e n (λz=>(mem_cons.mp (I.sO b z)).elim g q) hc) (λb o _ _ hc e n=>u.any e n hc) (λb o hc e n=>u.free b o e n hc) (λb o hc e=>u.there b o e hc) u.tups u.sU u.vo (λy t=>by obtain⟨B,j,k,f,v⟩:=t;rw[ho]at f;cases f;exact⟨_,j,k,g,v⟩) hok l
theorem Inv.turned{it:Addr}(I:Inv X pins σ H s)(k:∀b o,b≠it->s.heap.get? b=some o->h'.get? b=some o)(g:H it=none)(f:it≠X.env.locals)(h1:it∈X.ex\/X.s₀.heap.objs.size<=it)(j:∀x c,X.env.cells.lookup x=some c->c≠it)(l:∀p∈X.pn++pins,p.1≠it):Inv X pins σ H {s with heap:=h',toks:=t'}:=by
 have a:∀b u,H b=some u->b≠it:=λb u e z=>by rw[z,g]at e;cases e
 refine I.step (g':=s.gens) (d':=s.drawn) (ch:=[it]) (λb t=>?_) (λb o _ _ hc e _=>k b o (λz=>hc (by simp[z])) e) (λb o _ _ hc e _=>⟨o.slots,k b o (λz=>hc (by simp[z])) e⟩) (λ_ _ _ _ n=>n) (λb o hc e=>⟨o,k b o (λz=>hc (by simp[z])) e⟩) (λ_ _ e=>e) (λ_ _ _ e=>e) (λb ps e=>⟨#[],by rw[e];simp⟩) (λm y=>?_) (λb u e=>?_) I.bare
 . have e:b=it:=by simpa using t
   subst e;exact⟨h1,f,j,l⟩
 .obtain⟨o,es,ep,ho,r⟩:=y;exact⟨o,es,ep,k _ o (Ne.symm f) ho,r⟩
 . refine(I.hok b u e).stay (λc v hc q=>k c v ?_ q) (λ_ q=>q) λ_ _ q=>q;rcases hc with z|z;.rw[z];exact a b u e
   .exact a c _ z
theorem Inv.tok(I:Inv X pins σ H s)(t:Nat):Inv X pins σ H {s with toks:=t}:=I.un (h':=s.heap) (t':=t) Un.refl I.hok
theorem Inv.kept{t':Nat}(I:Inv X pins σ H s)(k:∀b u,s.heap.get? b=some u->h'.get? b=some u):Inv X pins σ H {s with heap:=h',toks:=t'}:=I.un (Un.kept k) (I.hok.kept k)
theorem Inv.laid{a:Addr}{o:HO}{t':Nat}(I:Inv X pins σ H s)(k:∀b u,s.heap.get? b=some u->h'.get? b=some u)(c:s.heap.objs.size<=a)(e:bj X.prog X.w (upd H a o) h' a o):Inv X pins σ (upd H a o) {s with heap:=h',toks:=t'}:=I.un (Un.laid k c (I.hok.fresh c)) (I.hok.laid k c e)
theorem Inv.write{x e:Addr}{o:HO}{t':Nat}(I:Inv X pins σ H s)(f:TX (H x))(he:e=x\/H e=some (.own x))(k:∀b u,b≠e->s.heap.get? b=some u->h'.get? b=some u)(a:∃u,h'.get? e=some u)(c:bj X.prog X.w (upd H x o) h' x o):Inv X pins σ (upd H x o) {s with heap:=h',toks:=t'}:=I.un (Un.write f he k a) (I.hok.write f he k a c)
theorem Inv.yE{a:List (Addr×Obj)}(I:Inv X pins σ H s)(h:∀p∈a,s.heap.get? p.1=some p.2/\H p.1=none/\p.1≠X.env.locals/\p.1∉X.fs/\∀v,p.2.data≠.cell v):Inv X a σ H s:=⟨I.ok,I.os,I.bare,I.base,I.loc,I.cell,I.free,I.jo,λp b=>(mem_append.mp b).elim (λz=>I.pin p (List.mem_append_left _ z)) (h p),I.hok,I.len⟩
theorem uD{N:List Str}(c:N.Nodup){j:Nat}{x:Str}(a:N[i]?=some x)(b:N[j]?=some x):i=j:=by obtain⟨h1,e⟩:=dw a;obtain⟨g,f⟩:=dw b;exact(List.getElem_inj c).mp (e.trans f.symm)
theorem ql{E:Value->Shared->Prop}{x:Str}{v:V}{u:Value}{Q:Unit->Shared->Prop}(I:Inv X pins σ H s)(hN:X.N.Nodup)(hi:X.N[i]?=some x)(l:Loc X.env.scope x)(r:RelV v u)(h:∀s',Inv X pins (σ.set i (some v)) H s'->(∃a,SameBut a s.heap s'.heap/\(a=X.env.locals\/X.env.cells.lookup x=some a))->Q () s')(hf:X.fn x=true\/X.env.scope.names.lookup x=some .local:=by first|exact .inl rfl|exact .inr rfl|assumption):wpAny M A (storeName X.env x u) Q E s:=by
 obtain⟨m,hn,hl⟩:=id I.loc;have O:(X.env.scope.kind==.class||(X.env.scope.kind==.module&&X.env.locals !=X.env.globals))=false:=by rw[I.ok.kind];rfl
 have C:i<σ.length:=by rw[I.len];exact(dw hi).1
 have Nf:=I.Nf;have f:∀{a:Addr}{h':Heap},(∃o,s.heap.get? a=some o/\H a=none)->SameBut a s.heap h'->j6 X.prog X.w H h':=λ{a h'}ha hs b ob e=>by
  obtain⟨_,_,t⟩:=ha;refine(I.hok b ob e).stay (λc Z hc q=>(hs.2 c ?_).trans q) (λ_ q=>q) λ_ _ q=>q;rintro rfl;rcases hc with rfl|hc;.rw[t]at e;cases e
  .rw[t]at hc;cases hc
 rcases l with hk|hk
 . refine wpAny_storeName_local hk hn (λh' ac hs=>?_) O;obtain⟨oL,_,_,ae,_⟩:=id hn;refine h _ ⟨I.ok,I.os,I.bare,⟨λb o e n G l=>?_,λb o e n G l=>?_,I.base.free,λb o e l=>?_,I.base.tups,I.base.sU,I.base.vo⟩,⟨_,ac,λj y v' g B e3=>?_⟩,λy c e=>?_,I.free,I.jo,λp hp=>?_,f ⟨oL,ae,I.free⟩ hs,by simpa using I.len⟩ ⟨_,hs,.inl rfl⟩;.exact(hs.2 b (ne_of_lt (lt_of_lt_of_le (lt_size e) I.ok.above))).trans (I.base.keep b o e n G l)
   .obtain⟨sl,g⟩:=I.base.slot b o e n G l;exact⟨sl,(hs.2 b (ne_of_lt (lt_of_lt_of_le (lt_size e) I.ok.above))).trans g⟩
   .obtain⟨o',g⟩:=I.base.there b o e l;exact⟨o',(hs.2 b (ne_of_lt (lt_of_lt_of_le (lt_size e) I.ok.above))).trans g⟩
   . by_cases J:j=i;.subst J;rw[hi]at g;cases g;rw[getElem?_set_self C]at B;cases B;exact⟨u,r,.inl ⟨hk,by simp⟩⟩
     . rw[dz J]at B;obtain⟨u',r',q⟩:=hl j y v' g B e3;refine⟨u',r',?_⟩;rcases q with⟨k,e⟩|⟨k,c,e,z⟩;.refine .inl ⟨k,?_⟩;have:y≠x:=λe=>J (uD hN g (e▸hi));simp[this,e]
       .exact .inr ⟨k,c,e,z.sameBut hs (Nf y c e)⟩
   .obtain⟨Z,z⟩:=I.cell y c e;exact⟨Z,z.sameBut hs (Nf y c e)⟩
   .obtain⟨e,n,ne,nf,d⟩:=I.pin p hp;exact⟨(hs.2 p.1 ne).trans e,n,ne,nf,d⟩
 . have L:X.fn x=true:=by
    rcases hf with z|z;.exact z
    .rw[z]at hk;cases hk
   obtain⟨c,hc⟩:=I.ok.has x (.inl hk);obtain⟨Z,z⟩:=I.cell x c hc;refine wpAny_storeName_cell I.ok.kind hk hc z (λh' U hs=>?_);obtain⟨oc,W,af⟩:=id z;refine h {s with heap:=h'} ⟨I.ok,I.os,I.bare,⟨λb o e n G l=>?_,λb o e n G l=>?_,I.base.free,λb o e l=>?_,I.base.tups,I.base.sU,I.base.vo⟩,⟨m,hn.sameBut hs (Ne.symm (Nf x c hc)),λj y v' g B e3=>?_⟩,λy c' e=>?_,I.free,I.jo,λp hp=>?_,f ⟨oc,W,I.jo x c hc⟩ hs,by simpa using I.len⟩ ⟨c,hs,.inr hc⟩;.exact(hs.2 b (ne_of_lt (lt_of_lt_of_le (lt_size e) (I.ok.cab x c L hc)))).trans (I.base.keep b o e n G l)
   .obtain⟨sl,g⟩:=I.base.slot b o e n G l;exact⟨sl,(hs.2 b (ne_of_lt (lt_of_lt_of_le (lt_size e) (I.ok.cab x c L hc)))).trans g⟩
   .obtain⟨o',g⟩:=I.base.there b o e l;exact⟨o',(hs.2 b (ne_of_lt (lt_of_lt_of_le (lt_size e) (I.ok.cab x c L hc)))).trans g⟩
   . by_cases J:j=i;.subst J;rw[hi]at g;cases g;rw[getElem?_set_self C]at B;cases B;exact⟨u,r,.inr ⟨.inl hk,c,hc,U⟩⟩
     . rw[dz J]at B;obtain⟨u',r',q⟩:=hl j y v' g B e3;refine⟨u',r',?_⟩;rcases q with q|⟨k,c',e,z'⟩;.exact .inl q
       .refine .inr ⟨k,c',e,z'.sameBut hs ?_⟩;rintro rfl;exact J (uD hN g (I.ok.inj _ _ _ e hc▸hi))
   . by_cases Y:c'=c;.subst Y;exact⟨_,U⟩
     .obtain⟨w2,z2⟩:=I.cell y c' e;exact⟨w2,z2.sameBut hs Y⟩
   .obtain⟨e,n,ne,nf,d⟩:=I.pin p hp;refine⟨(hs.2 p.1 ?_).trans e,n,ne,nf,d⟩;intro q;rw[q,W]at e;have q':oc=p.2:=Option.some.inj e;exact d Z (by rw[<-q'];exact af)
theorem jO{E:Value->Shared->Prop}{x:Str}{v:V}{u:Value}{Q:Unit->Shared->Prop}(I:Inv X pins σ H s)(b:X.N.Nodup)(hi:X.N[i]?=some x)(c:Loc X.env.scope x)(r:RelV v u)(h:∀a,Inv X pins (σ.set i (some v)) H a->Q () a)(e:X.fn x=true\/X.env.scope.names.lookup x=some .local:=by first|exact .inl rfl|exact .inr rfl|assumption):wpAny M A (storeName X.env x u) Q E s:=ql I b hi c r (λa f _=>h a f) e
end
abbrev XK:=Value->Option Addr->Hp->Prop
noncomputable abbrev St:=List (Option V)
abbrev VK:=V->Hp->Prop
abbrev TE:=St->Hp->VK->Prop
abbrev TT:=St->Hp->(Bool->Hp->Prop)->Prop
abbrev TA:=St->Hp->(List V->Hp->Prop)->Prop
structure Ends where
 nx:St->Hp->Prop
 rt:VK
 bk:St->Hp->Prop:=λ_ _=>False
 ct:St->Hp->Prop:=λ_ _=>False
abbrev TS:=Ends->St->Hp->Prop
inductive EP(X:Cx)(pins:List (Addr×Obj))(σ:St)(Q:VK)(u:Value)(s':Shared):Prop where|mk(v:V)(H':Hp)(q0:Inv X pins σ H' s')(q1:RelV v u)(q2:Q v H')
def TP(X:Cx)(pins:List (Addr×Obj))(σ:St)(Q:Bool->Hp->Prop)(b:Bool)(c:Shared):Prop:=∃a,Inv X pins σ a c/\Q b a
inductive AP(X:Cx)(pins:List (Addr×Obj))(σ:St)(Q:List V->Hp->Prop)(us:List Value)(s':Shared):Prop where|mk(vs:List V)(H':Hp)(q0:Inv X pins σ H' s')(q1:Vals vs us)(q2:Q vs H')
def SP(X:Cx)(pins:List (Addr×Obj))(D:Ends)(f:Flow)(c:Shared):Prop:=match f with|.next=>∃a b,Inv X pins a b c/\D.nx a b|.brk=>∃a b,Inv X pins a b c/\D.bk a b|.cont=>∃a b,Inv X pins a b c/\D.ct a b|.ret u=>∃v a b,Inv X pins a b c/\RelV v u/\D.rt v b
def PE(X:Cx)(e:Expr)(t:TE):Prop:=∀(pins:List (Addr×Obj))(s:Shared)(σ:St)(H:Hp)(Q:VK),Inv X pins σ H s->t σ H Q->wpAny (model X.prog X.w) X.A (eval e X.env) (EP X pins σ Q) X.xe s
def PT(X:Cx)(e:Expr)(t:TT):Prop:=∀(pins:List (Addr×Obj))(s:Shared)(σ:St)(H:Hp)(Q:Bool->Hp->Prop),Inv X pins σ H s->t σ H Q->wpAny (model X.prog X.w) X.A (isTrue e X.env (eval e X.env)) (TP X pins σ Q) X.xe s
def PW(X:Cx)(e:Expr)(t:TT):Prop:=∀(a:Sem Value)(pins:List (Addr×Obj))(s:Shared)(σ:St)(H:Hp)(Q:Bool->Hp->Prop),Inv X pins σ H s->t σ H Q->wpAny (model X.prog X.w) X.A (isTrue e X.env a) (TP X pins σ Q) X.xe s
theorem PW.pt{e:Expr}{t:TT}(h:PW X e t):PT X e t:=h _
def PA(X:Cx)(es:List Expr)(t:TA):Prop:=∀(pos:Pos)(pins:List (Addr×Obj))(s:Shared)(σ:St)(H:Hp)(Q:List V->Hp->Prop),Inv X pins σ H s->t σ H Q->wpAny (model X.prog X.w) X.A (spliced (backTo pos (starEach es X.env))) (AP X pins σ Q) X.xe s
def PS(X:Cx)(st:Stmt)(t:TS):Prop:=∀(pins:List (Addr×Obj))(s:Shared)(σ:St)(H:Hp)(D:Ends),Inv X pins σ H s->t D σ H->wpAny (model X.prog X.w) X.A (exec st X.env) (SP X pins D) X.xe s
def uL(X:Cx)(st:List Stmt)(t:TS):Prop:=∀(pins:List (Addr×Obj))(s:Shared)(σ:St)(H:Hp)(D:Ends),Inv X pins σ H s->t D σ H->wpAny (model X.prog X.w) X.A (execs st X.env) (SP X pins D) X.xe s
theorem bH{b:Type}{t:Sem b}{Q c:b->Shared->Prop}{E:Value->Shared->Prop}(h:wpAny M A t Q E s)(e:∀a s,Q a s->c a s):wpAny M A t c E s:=wpAny_mono h e λ_ _ x=>x
section
variable{X:Cx}
def Pk(i:Nat):TE:=λσ H Q=>∃v,σ[i]?=some (some v)/\Q v H
def tC(v:V):TE:=λ_ H Q=>Q v H
theorem cT{x:Str}(f:X.N[i]?=some x)(g:tD X.env.scope x)(hd:(x==("__debug__":Str))=false:=by decide)(b:(x==("__classdict__":Str))=false:=by decide):PE X (.Name x pos) (Pk i):=by
 intro pins s σ H Q I h;obtain⟨v,e,h⟩:=h;obtain⟨m,j,k⟩:=I.loc;obtain⟨u,r,l⟩:=k i x v f e g;have fin:EP X pins σ Q u s:=⟨v,H,I,r,h⟩;rcases l with⟨hk,n⟩|⟨hk,c,hc,a⟩;.exact wpAny_Name (wpAny_loadName_local I.ok.kind hk j n fin) hd
 . rcases hk with hk|hk;.exact wpAny_Name (wpAny_loadName_cell I.ok.kind hk hc a fin) hd
   .exact wpAny_Name (wpAny_loadName_free I.ok.kind hk hc a fin b) hd
theorem wX{i j pos}:PE X (.Constant (.int i) j pos) (tC (.int i)):=λ_ _ _ H _ I h=>wpAny_Constant_int ⟨.int i,H,I.tok _,⟨_,rfl⟩,h⟩
theorem Tv{b j pos}:PE X (.Constant (.bool b) j pos) (tC (.bl b)):=λ_ _ _ H _ I h=>Constant_bool ⟨.bl b,H,I,rfl,h⟩
theorem Mw{j pos}:PE X (.Constant .none j pos) (tC .non):=λ_ _ _ H _ I h=>Constant_none ⟨.non,H,I,rfl,h⟩
def Gl(X:Cx)(x:Str):Prop:=X.env.kindOf x=some .globalImplicit
theorem Ji{E:Value->Shared->Prop}{σ:St}{x:Str}{u:Value}{Q:Value->Shared->Prop}(I:Inv X pins σ H s)(a:Gl X x)(b:X.mg x=some u)(h:Q u s)(hd:(x==("__debug__":Str))=false:=by decide):wpAny (model X.prog X.w) X.A (eval (.Name x pos) X.env) Q E s:=Calls.Name_function_global I.ok.kind a (Calls.loadGlobal_global (by rw[I.ok.glob];exact I.mod.glob.keeps I.bk) b h) hd
theorem iz{E:Value->Shared->Prop}{σ:St}{x:Str}{u:Value}{Q:Value->Shared->Prop}(I:Inv X pins σ H s)(a:Gl X x)(b:X.mg x=none)(c:bootBuiltins x=some u)(h:Q u s)(e:x≠"__name__":=by decide)(hd:(x==("__debug__":Str))=false:=by decide):wpAny (model X.prog X.w) X.A (eval (.Name x pos) X.env) Q E s:=by obtain⟨g,h1,f⟩:=I.mod.blt;exact Calls.Name_function_global I.ok.kind a (Calls.loadGlobal_builtin (by rw[I.ok.glob];exact I.mod.glob.keeps I.bk) b (by rw[I.ok.blt];exact h1.keeps I.bk) ((f x e).trans c) h) hd
theorem Hm{x:Str}{v:V}{u:Value}(a:Gl X x)(b:X.mg x=none)(c:bootBuiltins x=some u)(r:RelV v u)(e:x≠"__name__":=by decide)(hd:(x==("__debug__":Str))=false:=by decide):PE X (.Name x pos) (tC v):=λ_ _ _ H _ I h=>iz I a b c ⟨v,H,I,r,h⟩ e hd
variable{a b:Expr}{ta tb:TE}{pos:Pos}
def PC(X:Cx)(op:CmpOp)(a b:Expr)(t:TE):Prop:=∀(pins:List (Addr × Obj))(s:Shared)(σ:St)(H:Hp)(Q:VK),Inv X pins σ H s->t σ H Q->wpAny (model X.prog X.w) X.A (eval a X.env) (λv c=>wpAny (model X.prog X.w) X.A (eval b X.env) (λu e=>wpAny (model X.prog X.w) X.A (compareOp op v u) (EP X pins σ Q) X.xe e) X.xe c) X.xe s
def tB(t:TE):TT:=λσ H Q=>t σ H λx e=>∃c,x=.bl c/\Q c e
theorem NZ{op:CmpOp}{t:TE}(h:PC X op a b t)(h1:behindInMarks op b=false:=by first|exact VJ _ (by decide) (by decide)|rfl):PT X (.Compare a [op] [b] pos) (tB t):=by intro pins s σ H Q I e;refine wpAny_isTrue_Compare1 (bH (h pins s σ H _ I e) λv s1 h1=>bH h1 λu s2 f=>bH f λc s3⟨x,H1,I1,r1,q1⟩=>?_) h1;obtain⟨d,rfl,q⟩:=q1;cases r1;exact wpAny_truthy_bool ⟨H1,I1,q⟩
theorem Mm{e:Expr}{t:TE}(h:PE X e t)(he:∀c,isTrue e X.env c=(do let v<-c;standAt e.pos;holding [v] (truthy v)):=by intro _;rfl):PT X e (tB t):=by intro pins s σ H Q I f;refine isTrue_plain (bH (h pins s σ H _ I f) λv s1⟨x,H1,I1,r1,q1⟩=>?_) (he _);obtain⟨d,rfl,q⟩:=q1;cases r1;exact wpAny_truthy_bool ⟨H1,I1,q⟩
variable{tA tB':TT}{rest:List Expr}
def tOr(t u:TT):TT:=λσ H Q=>t σ H λc e=>if c=true then Q true e else u σ e Q
def ZP(t:TT):TT:=λσ H Q=>t σ H λc e=>Q (!c) e
theorem Ov(f:PT X a tA):PW X (.BoolOp .Or [a] pos) tA:=by intro wh pins s σ H Q I h;refine isTrue_or (bH (f pins s σ H Q I h) λc s1 e=>?_);cases c with|false=>exact isTrue_or_nil e|true=>exact e
theorem Sw(f:PT X a tA)(g:PW X (.BoolOp .Or (b::rest) pos) tB'):PW X (.BoolOp .Or (a::b::rest) pos) (tOr tA tB'):=by intro wh pins s σ H Q I h;refine isTrue_or (bH (f pins s σ H _ I h) λc s1⟨e,I1,q1⟩=>?_);cases c with|true=>exact⟨e,I1,q1⟩|false=>exact g wh pins s1 σ e Q I1 q1
theorem Qf(e:PT X a tA):PT X (.UnaryOp .Not a pos) (ZP tA):=by intro pins s σ H Q I h;exact isTrue_not (e pins s σ H (λc f=>Q (!c) f) I h)
def S7(ta tb:TE):TE:=λσ H Q=>ta σ H λx e=>∃c,x=.bl c/\if c=true then tb σ e Q else Q (.bl false) e
def Ub(ta:TE):TE:=λσ H Q=>ta σ H λx e=>∃c,x=.bl c/\Q (.bl (!c)) e
theorem La{op}{t:TE}(h:PE X a t):PE X (.BoolOp op [a] pos) t:=λpins s σ H Q I c=>BoolOp_one (h pins s σ H Q I c)
theorem Nh(f:PE X a ta)(g:PE X (.BoolOp .And (b::rest) pos) tb):PE X (.BoolOp .And (a::b::rest) pos) (S7 ta tb):=by intro pins s σ H Q I h;refine BoolOp_and (bH (f pins s σ H _ I h) λv s1⟨x,H1,I1,r1,e⟩=>?_);obtain⟨c,rfl,e⟩:=e;cases r1;refine wpAny_truthy_bool ?_;cases c with|true=>exact g pins s1 σ H1 Q I1 e|false=>exact⟨.bl false,H1,I1,rfl,e⟩
theorem Py(f:PE X a ta):PE X (.UnaryOp .Not a pos) (Ub ta):=by intro pins s σ H Q I h;refine UnaryOp_ (bH (f pins s σ H _ I h) λv s1⟨x,H1,I1,r1,e⟩=>?_);obtain⟨c,rfl,e⟩:=e;cases r1;exact not_of (wpAny_truthy_bool ⟨.bl (!c),H1,I1,rfl,e⟩)
def tIf(t:TT)(ta tb:TE):TE:=λσ H Q=>t σ H λc e=>if c=true then ta σ e Q else tb σ e Q
theorem FW{c:Expr}(hc:PT X c tA)(f:PE X a ta)(g:PE X b tb):PE X (.IfExp c a b pos) (tIf tA ta tb):=by intro pins s σ H Q I h;refine wpAny_IfExp (bH (hc pins s σ H _ I h) λd s1⟨e,I1,q1⟩=>?_);cases d with|true=>exact f pins s1 σ e Q I1 q1|false=>exact g pins s1 σ e Q I1 q1
end
def dJ(K:PySem.W.Frag)(H:Hp)(a:Addr)(xs:List V):Prop:=Rd H a (.lst xs)\/∃(o:Obj)(b:Array Value)(n:Nat),K.lookup a=some o/\o.cls=.type "list"/\o.dict=none/\o.data=.seq b n/\b.size<=sizeLine/\Vals xs b.toList
def jg(K:PySem.W.Frag)(H:Hp)(a:Addr)(xs:List V):Prop:=Rd H a (.tup xs)\/∃(o:Obj)(b:Array Value)(n:Nat),K.lookup a=some o/\o.cls=.type "tuple"/\o.data=.seq b n/\b.size<=sizeLine/\Vals xs b.toList
noncomputable def Zk:Value->Option V|.none=>some .non|.bool b=>some (.bl b)|.int i _=>some (.int i)|.str x _=>some (.str x)|.bytes b _=>some (.byt b)|.float b _=>some (.flt b)|.ref a=>some (.ref a)|.type n=>some (.ty n)|_=>none
theorem RelV.abs{x:V}{u:Value}(r:RelV x u):Zk u=some x:=by cases x with|non=>cases r;rfl|bl _=>cases r;rfl|int _=>obtain⟨t,rfl⟩:=r;rfl|str _=>obtain⟨t,rfl⟩:=r;rfl|byt _=>obtain⟨t,rfl⟩:=r;rfl|flt _=>obtain⟨t,rfl⟩:=r;rfl|ref _=>cases r;rfl|ty _=>cases r;rfl
theorem RelV.inj{x y:V}{u:Value}(r:RelV x u)(q:RelV y u):x=y:=Option.some.inj (r.abs.symm.trans q.abs)
theorem Vals.inj:∀{xs ys:List V}{us:List Value},Vals xs us->Vals ys us->xs=ys|_,_,_,.nil,.nil=>rfl|_,_,_,.cons r t,.cons a t'=>by rw[r.inj a,Vals.inj t t']
section
variable{X:Cx}{pins:List (Addr×Obj)}{σ:St}{H:Hp}{s:Shared}{a:Addr}{xs ys:List V}
theorem dJ.of(h:H a=some (.lst xs)):dJ K H a xs:=.inl (.inl h)
theorem jg.of(h:H a=some (.tup xs)):jg K H a xs:=.inl (.inl h)
theorem Inv.list(I:Inv X pins σ H s)(h:dJ X.K H a xs):∃b:List Value,Vals xs b/\PlainL s.heap a b.toArray/\xs.length<=sizeLine:=by
 rcases h with h|⟨o,b,n,c,hc,hd,hs,hz,r⟩;.obtain⟨z,b,n,r,e⟩:=h.ok I.hok;exact⟨b,r,⟨_,n,e,rfl,rfl,rfl⟩,z⟩
 .refine⟨b.toList,r,⟨o,n,I.Qi a o c,hc,hd,by simpa using hs⟩,?_⟩;have e:=r.length;simp only[length_toList]at e;omega
theorem Inv.tuple(I:Inv X pins σ H s)(h:jg X.K H a xs):∃b:List Value,Vals xs b/\IsTup s.heap a b.toArray/\xs.length<=sizeLine:=by
 rcases h with h|⟨o,b,n,c,hc,hs,hz,r⟩;.obtain⟨z,b,r,p⟩:=h.ok I.hok;exact⟨b,r,p,z⟩
 .refine⟨b.toList,r,⟨o,I.Qi a o c,hc,n,by simpa using hs⟩,?_⟩;have e:=r.length;simp only[length_toList]at e;omega
theorem Inv.ux(I:Inv X pins σ H s)(h:dJ X.K H a xs)(h':dJ X.K H a ys):xs=ys:=by
 obtain⟨b,r,⟨o,n,e,_,_,d⟩,_⟩:=I.list h;obtain⟨its',f,⟨g,j,c,_,_,d'⟩,_⟩:=I.list h';rw[e]at c;cases c;rw[d]at d';injection d' with d1 _;have:b=its':=by simpa using congrArg toList d1
 subst this;exact r.inj f
theorem Inv.pQ(I:Inv X pins σ H s)(h:jg X.K H a xs)(h':jg X.K H a ys):xs=ys:=by
 obtain⟨b,r,⟨o,e,_,n,d⟩,_⟩:=I.tuple h;obtain⟨its',f,⟨g,c,_,j,d'⟩,_⟩:=I.tuple h';rw[e]at c;cases c;rw[d]at d';injection d' with d1 _;have:b=its':=by simpa using congrArg toList d1
 subst this;exact r.inj f
end
noncomputable abbrev Cx.wish(X:Cx)(E:Value->Shared->Prop):Cx:={X with xe:=E}
noncomputable abbrev Cx.TV(X:Cx):Cx:=X.wish λ_ _=>False
theorem Cx.Ok.wish{X:Cx}(ok:X.Ok)(E:Value->Shared->Prop):(X.wish E).Ok:=⟨ok.mod,ok.kind,ok.glob,ok.blt,ok.above,ok.inj,ok.has,ok.cab,ok.hd,ok.frames,ok.Yl,ok.exf,ok.bs,ok.KD,ok.Gb,ok.Jw,ok.oY,ok.R8⟩
theorem Cx.Ok.iH{E:Value->Shared->Prop}(ok:(X.wish E).Ok):X.Ok:=⟨ok.mod,ok.kind,ok.glob,ok.blt,ok.above,ok.inj,ok.has,ok.cab,ok.hd,ok.frames,ok.Yl,ok.exf,ok.bs,ok.KD,ok.Gb,ok.Jw,ok.oY,ok.R8⟩
section
variable{X:Cx}{pins:List (Addr×Obj)}{σ:St}{H:Hp}{s:Shared}{E:Value->Shared->Prop}
theorem Inv.wish(I:Inv X pins σ H s)(E:Value->Shared->Prop):Inv (X.wish E) pins σ H s:=⟨I.ok.wish E,I.os,I.bare,I.base,I.loc,I.cell,I.free,I.jo,I.pin,I.hok,I.len⟩
theorem Inv.iH(I:Inv (X.wish E) pins σ H s):Inv X pins σ H s:=⟨I.ok.iH,I.os,I.bare,I.base,I.loc,I.cell,I.free,I.jo,I.pin,I.hok,I.len⟩
theorem SP.iH{D:Ends}{f:Flow}{c:Shared}(h:SP (X.wish E) pins D f c):SP X pins D f c:=by cases f with|next=>obtain⟨a,b,I,q⟩:=h;exact⟨a,b,I.iH,q⟩|brk=>obtain⟨a,b,I,q⟩:=h;exact⟨a,b,I.iH,q⟩|cont=>obtain⟨a,b,I,q⟩:=h;exact⟨a,b,I.iH,q⟩|ret u=>obtain⟨v,a,b,I,r,q⟩:=h;exact⟨v,a,b,I.iH,r,q⟩
theorem uL.TV{st:List Stmt}{t:TS}(h:uL X.TV st t):uL X st t:=λpins s σ H D I a=>wpAny_mono (h pins s σ H D (I.wish _) a) (λ_ _ q=>q.iH) λ_ _ z=>False.elim z
end
section
variable{X:Cx}{st:Stmt}{rest:List Stmt}{t u:TS}{e:Expr}{te:TE}{pos:Pos}
def Ux:TS:=λD σ H=>D.nx σ H
def Zg(t u:TS):TS:=λD σ H=>t {D with nx:=u D} σ H
theorem zb:uL X [] Ux:=λ_ _ σ H _ I h=>wpAny_execs_nil ⟨σ,H,I,h⟩
theorem jG(h1:PS X st t)(b:uL X rest u):uL X (st::rest) (Zg t u):=by intro pins s σ H D I h;refine wpAny_execs_cons (bH (h1 pins s σ H {D with nx:=u D} I h) λf s1 q=>?_);cases f with|next=>obtain⟨a,c,g,q⟩:=q;exact b pins s1 a c D g q|ret v=>exact q|brk=>exact q|cont=>exact q
theorem Inv.quiet{σ:St}(I:Inv X pins σ H s):interactive X.env=false:=by simp[interactive,I.ok.kind]
def Vs(te:TE):TS:=λD σ H=>te σ H λ_ a=>D.nx σ a
theorem qY(he:PE X e te)(hs:swapsWith e none pos.line X.env=pure false:=by rfl):PS X (.Expr e pos) (Vs te):=by intro pins s σ H D I h;exact wpAny_Expr_any (bH (he pins s σ H _ I h) λv s1⟨x,H1,I1,r1,q1⟩=>⟨σ,H1,I1,q1⟩) I.quiet hs
def aaY(te:TE):TS:=λD σ H=>te σ H D.rt
theorem Cg(he:PE X e te):PS X (.Return (some e) pos) (aaY te):=by intro pins s σ H D I h;exact wpAny_Return_some (bH (he pins s σ H _ I h) λv s1⟨x,H1,I1,r1,q1⟩=>⟨x,σ,H1,I1,r1,q1⟩)
def Zb(c:TT)(t u:TS):TS:=λD σ H=>c σ H λb a=>if b=true then t D σ a else u D σ a
theorem Kq{c:Expr}{a b:List Stmt}{f:TT}(hc:PT X c f)(j:uL X a t)(k:uL X b u):PS X (.If c a b pos) (Zb f t u):=by intro pins s σ H D I h;refine wpAny_If (bH (hc pins s σ H _ I h) λd s1⟨g,I1,q1⟩=>?_);cases d with|true=>exact j pins s1 σ g D I1 q1|false=>exact k pins s1 σ g D I1 q1
end
abbrev TG:=V->St->Hp->(St->Hp->Prop)->Prop
abbrev Bj:=List V->St->Hp->(St->Hp->Prop)->Prop
def PG(X:Cx)(a:Expr)(t:TG):Prop:=∀(pins:List (Addr × Obj))(s:Shared)(σ:St)(H:Hp)(v:V)(u:Value)(Q:St->Hp->Prop),Inv X pins σ H s->RelV v u->t v σ H Q->wpAny (model X.prog X.w) X.A (assign a X.env u) (λ_ e=>∃b c,Inv X pins b c e/\Q b c) X.xe s
def Wq(X:Cx)(c:List Expr)(t:Bj):Prop:=∀(pins:List (Addr × Obj))(s:Shared)(σ:St)(H:Hp)(vs:List V)(us:List Value)(Q:St->Hp->Prop),Inv X pins σ H s->Vals vs us->t vs σ H Q->wpAny (model X.prog X.w) X.A (assignInOrder ((assignEach c X.env).map (·.2)) us) (λ_ e=>∃a b,Inv X pins a b e/\Q a b) X.xe s
abbrev Ez:=V->V->V->Hp->(Hp->Prop)->Prop
def PB(X:Cx)(t:Ez):Prop:=∀(pins:List (Addr × Obj))(s:Shared)(σ:St)(H:Hp)(o i v:V)(a iv u:Value)(Q:Hp->Prop),Inv X pins σ H s->RelV o a->RelV i iv->RelV v u->t o i v H Q->wpAny (model X.prog X.w) X.A (setItem a iv u) (λ_ c=>∃b,Inv X pins σ b c/\Q b) X.xe s
abbrev Xr:=V->V->Hp->VK->Prop
def WR(X:Cx)(op:Operator)(t:Xr):Prop:=∀(pins:List (Addr × Obj))(s:Shared)(σ:St)(H:Hp)(x y:V)(v u:Value)(Q:VK),Inv X pins σ H s->RelV x v->RelV y u->t x y H Q->wpAny (model X.prog X.w) X.A (inplaceOp op v u) (EP X pins σ Q) X.xe s
section
variable{X:Cx}{pos:Pos}
def ig(i:Nat):TG:=λv σ H Q=>Q (σ.set i (some v)) H
theorem bh{x:Str}(a:X.N.Nodup)(hi:X.N[i]?=some x)(b:Loc X.env.scope x)(c:X.fn x=true\/X.env.scope.names.lookup x=some .local:=by first|exact .inl rfl|exact .inr rfl|assumption):PG X (.Name x pos) (ig i):=by intro pins s σ H v u Q I r h;exact wpAny_assign_Name (jO I a hi b r (λf e=>⟨_,H,e,h⟩) c)
def NT:Bj:=λvs σ H Q=>vs=[]/\Q σ H
def Cw(t:TG)(u:Bj):Bj:=λvs σ H Q=>∃v r,vs=v::r/\t v σ H λa b=>u r a b Q
theorem mV:Wq X [] NT:=by intro pins s σ H vs us Q I r h;obtain⟨e,h⟩:=h;subst e;cases r;exact assignInOrder_nil ⟨σ,H,I,h⟩
theorem cN{e:Expr}{es:List Expr}{t:TG}{u:Bj}(h1:PG X e t)(b:Wq X es u)(hs:(assignEach (e::es) X.env).map (·.2)=assign e X.env::(assignEach es X.env).map (·.2):=by rfl):Wq X (e::es) (Cw t u):=by intro pins s σ H vs us Q I r h;obtain⟨v,g,c,h⟩:=h;subst c;cases r with|cons r f=>rw[hs];refine assignInOrder_cons (bH (h1 pins s σ H _ _ _ I r h) λ_ s1⟨a,H1,I1,q1⟩=>?_);exact b pins s1 a H1 _ _ Q I1 f q1
def Ql(K:PySem.W.Frag)(n:Nat)(t:Bj):TG:=λv σ H Q=>∃a xs,v=.ref a/\jg K H a xs/\xs.length=n/\t xs σ H Q
theorem rM{es:List Expr}{k:Nat}{t:Bj}{n:Nat}(hc:X.calm=true)(h:Wq X es t)(g:(assignEach es X.env).length=n:=by rfl)(hst:(assignEach es X.env).findIdx? (·.1)=none:=by rfl):PG X (.Tuple es k pos) (Ql X.K n t):=by intro pins s σ H v u Q I r c;obtain⟨a,xs,j,l,m,c⟩:=c;subst j;cases r;obtain⟨p,f,ht,hz⟩:=I.tuple l;refine assign_Tuple_tuple (I.ok.hd hc) ht (by simp[g,<-m,f.length]) hst λh' q=>?_;have x:Inv X pins σ H {s with heap:=h'}:=I.kept (t':=s.toks) λb o e=>q b o (ne_of_lt (lt_size e)) e;exact h pins _ σ H xs _ Q x (by simpa using f) c
def YZ(to a:TE)(t:Ez):TG:=λv σ H Q=>to σ H λo b=>a σ b λi c=>t o i v c λe=>Q σ e
theorem Mu{o i:Expr}{to b:TE}{t:Ez}(ho:PE X o to)(hi:PE X i b)(hs:PB X t)(c:∀ v,assign (.Subscript o i pos) X.env v=(do
  let a<-holding [v] (eval o X.env)let iv<-holding [v,a] (eval i X.env)standAt pos
  holding [v,a,iv] (setItem a iv v)release [v,a,iv] []):=by intro _;rfl):PG X (.Subscript o i pos) (YZ to b t):=by intro pins s σ H v u Q I r h;rw[c];refine wpAny_bind (wpAny_holding (bH (ho pins s σ H _ I h) λa s1⟨x,H1,I1,r1,q1⟩=>?_));refine wpAny_bind (wpAny_holding (bH (hi pins s1 σ H1 _ I1 q1) λiv s2⟨y,H2,I2,r2,q2⟩=>?_));refine wpAny_bind (wpAny_standAt (wpAny_bind (wpAny_holding (bH (hs pins s2 σ H2 x y v a iv u _ I2 r1 r2 r q2) λ_ s3⟨e,I3,q3⟩=>?_))));exact wpAny_release ⟨σ,e,I3,q3⟩
def Pr(te:TE)(g:TG):TS:=λD σ H=>te σ H λx a=>g x σ a D.nx
theorem M6{e:Expr}{te:TE}{g:TG}(he:PE X e te)(a:PG X tg g)(hs:swapsWithSole [tg] e pos.line X.env=pure false:=by rfl)(b:swappedStores [tg] e X.env=pure none:=by rfl)(h1:(assignEach [tg] X.env).map (·.2)=[assign tg X.env]:=by rfl):PS X (.Assign [tg] e pos) (Pr te g):=by intro pins s σ H D I h;refine wpAny_Assign_stores (bH (he pins s σ H _ I h) λv s1⟨x,H1,I1,r1,q1⟩=>?_) hs b;rw[h1];exact bH (a pins s1 σ H1 x v _ I1 r1 q1) λ_ s2 q=>q
theorem vQ{x:Str}{e:Expr}{te:TE}{a:Pos}(b:X.N.Nodup)(hi:X.N[i]?=some x)(c:Loc X.env.scope x)(he:PE X e te)(hs:swapsWith e (some (.Name x a)) pos.line X.env=pure false:=by rfl)(f:X.fn x=true\/X.env.scope.names.lookup x=some .local:=by first|exact .inl rfl|exact .inr rfl|assumption):PS X (.Assign [.Name x a] e pos) (Pr te (ig i)):=by intro pins s σ H D I h;refine wpAny_Assign_Name (bH (he pins s σ H _ I h) λv s1⟨y,H1,I1,r1,q1⟩=>?_) hs;exact jO I1 b hi c r1 (λs2 g=>⟨_,H1,g,q1⟩) f
def aaQ(i j:Nat)(a:TA):TS:=λD σ H=>a σ H λvs b=>∃v w,vs=[v,w]/\D.nx ((σ.set i (some v)).set j (some w)) b
theorem Mx{j:Nat}{x y:Str}{a b:Expr}{r:TA}{g k pt:Pos}{kt k2 Qw}(hc:X.calm=true)(t:X.N.Nodup)(hi:X.N[i]?=some x)(C:X.N[j]?=some y)(l:i≠j)(u:X.env.scope.names.lookup x=some .local)(z:X.env.scope.names.lookup y=some .local)(E:PA X [a,b] r)(G:swappedStores [.Tuple [.Name x g,.Name y k] kt pt] (.Tuple [a,b] k2 Qw) X.env=pure (some [x,y]))(hs:swapsWithSole [.Tuple [.Name x g,.Name y k] kt pt] (.Tuple [a,b] k2 Qw) pos.line X.env=pure false:=by rfl):PS X (.Assign [.Tuple [.Name x g,.Name y k] kt pt] (.Tuple [a,b] k2 Qw) pos) (aaQ i j r):=by
 intro pins s σ H D I h;rw[exec_Assign_arm];refine wpAny_bind (wpAny_standAt ?_);rw[hs];refine wpAny_bind (wpAny_pure ?_);rw[if_neg (by decide)];refine wpAny_bind (Tuple_ (bH (E _ pins s σ H _ I h) λus s1⟨vs,H1,I1,r1,m⟩=>?_));obtain⟨v,w,J,m⟩:=m;subst J;obtain⟨c,f,rfl,L,O⟩:∃c f,us=[c,f]/\RelV v c/\RelV w f:=by cases r1 with|cons p q=>cases q with|cons Q U=>cases U;exact⟨_,_,rfl,p,Q⟩
 refine wpAny_newObj_type ?_ (by show 2<=sizeLine;decide);have W:Inv X pins σ H1 {s1 with heap:=s1.heap.push {cls:=.type "tuple",data:=.seq [c,f].toArray}}:=I1.kept (t':=s1.toks) λb o e=>gb e;rw[G];refine wpAny_bind (wpAny_pure ?_);show wpAny (model X.prog X.w) X.A (do rule "assign.swapped-stores";let items<-unpackItems (.ref s1.heap.objs.size) 2 none;assignInOrder [λv=>bindName X.env y v,λv=>bindName X.env x v] items.reverse;pure Flow.next) _ _ _;refine wpAny_bind (wpAny_rule (wpAny_bind (unpackItems_tuple (items:=#[c,f]) (I.ok.hd hc) (IsTup.new s1.heap _) λh' n=>?_)));have Y:=W.kept (h':=h') (t':=s1.toks) λb o e=>n b o (ne_of_lt (lt_size e)) e;show wpAny _ _ (assignInOrder [λv=>bindName X.env y v,λv=>bindName X.env x v] [f,c]>>=λ_=>pure Flow.next) _ _ _;refine wpAny_bind (assignInOrder_cons (wpAny_bindName (jO Y t C (.inl z) O (λs2 Z=>?_) (.inr z))));refine assignInOrder_cons (wpAny_bindName (jO Z t hi (.inl u) L (λs3 B=>assignInOrder_nil (wpAny_pure ?_)) (.inr u)));rw[List.set_comm _ _ (Ne.symm l)]at B;exact⟨_,H1,B,m⟩
def Vw(to a te:TE)(b:V->V->Hp->VK->Prop)(c:Xr)(e:Ez):TS:=λD σ H=>to σ H λo f=>a σ f λi g=>b o i g λx j=>te σ j λy k=>c x y k λz l=>e o i z l λm=>D.nx σ m
def Vu(X:Cx)(t:V->V->Hp->VK->Prop):Prop:=∀(pins:List (Addr × Obj))(s:Shared)(σ:St)(H:Hp)(o i:V)(a iv:Value)(Q:VK),Inv X pins σ H s->RelV o a->RelV i iv->t o i H Q->wpAny (model X.prog X.w) X.A (getItem a iv) (EP X pins σ Q) X.xe s
theorem Hz{o i e:Expr}{to g te:TE}{j:V->V->Hp->VK->Prop}{k:Xr}{l:Ez}{op:Operator}{c:Pos}(ho:PE X o to)(hi:PE X i g)(p:Vu X j)(he:PE X e te)(q:WR X op k)(hs:PB X l)(r:∀b iv a,augStore i b iv a=(do holding [a,b,iv] (setItem b iv a);release [a,b,iv] [];pure .next):=by intros;rfl):PS X (.AugAssign (.Subscript o i c) op e pos) (Vw to g te j k l):=by intro pins s σ H D I h;refine wpAny_AugAssign_SubscriptAny (bH (ho pins s σ H _ I h) λb s1⟨m,H1,I1,r1,q1⟩=>?_) r;refine bH (hi pins s1 σ H1 _ I1 q1) λiv s2⟨n,H2,I2,r2,q2⟩=>?_;refine bH (p pins s2 σ H2 m n b iv _ I2 r1 r2 q2) λf s3⟨t,H3,I3,r3,q3⟩=>?_;refine bH (he pins s3 σ H3 _ I3 q3) λv s4⟨u,H4,I4,r4,q4⟩=>?_;refine bH (q pins s4 σ H4 t u f v _ I4 r3 r4 q4) λa s5⟨x,H5,I5,r5,q5⟩=>?_;exact bH (hs pins s5 σ H5 m n x b iv a _ I5 r1 r2 r5 q5) λ_ s6⟨y,I6,q6⟩=>⟨σ,y,I6,q6⟩
def ipI(f:Int->Int->Int):Xr:=λx y H Q=>∃i j,x=.int i/\y=.int j/\Q (.int (f i j)) H
theorem MJ:WR X .Add (ipI λi j=>i+j):=by intro pins s σ H x y v u Q I r1 a h;obtain⟨i,j,b,c,q⟩:=h;subst b;subst c;obtain⟨t,rfl⟩:=r1;obtain⟨t',rfl⟩:=a;exact iadd_int ⟨.int _,H,I.tok _,⟨_,rfl⟩,q⟩
end
section
variable{X:Cx}{pos:Pos}
def M9(c:TT)(j:TS):TS:=λD σ H=>∃W:Nat->St->Hp->Prop,(∃m,W m σ H)/\∀m σ H,W m σ H->c σ H λb e=>if b=true then ∃N:St->Hp->Prop,(∀a f,N a f->∃g,g<m/\W g a f)/\j {D with nx:=N,ct:=N,bk:=D.nx} σ e else D.nx σ e
theorem Fp{c:Expr}{body:List Stmt}{u:TT}{x:TS}(y:PassesOwn (model X.prog X.w) X.A X.env X.xe)(hc:PT X c u)(G:uL X body x):PS X (.While c body [] pos) (M9 u x):=by intro pins s σ H D I h;obtain⟨W,⟨m0,J⟩,g⟩:=h;refine wpAny_While (codeAny_whileLoop (λn L=>∃j z,Inv X pins j z L/\W n j z) ?_ m0 ⟨σ,H,I,J⟩);rintro n s1⟨e,B,O,Q⟩;refine wpAny_passesOwn y (bH (hc pins s1 e B _ O (g n e B Q)) λb s2⟨C,I2,l⟩=>?_);cases b with
 |true=>obtain⟨N,E,l⟩:=l;rw[if_pos rfl];refine wpAny_passesOwn y (bH (G pins s2 e C _ I2 l) λf s3 m=>?_);cases f with|next=>obtain⟨a,k,o,p⟩:=m;obtain⟨q,r,t⟩:=E a k p;exact⟨q,r,a,k,o,t⟩|cont=>obtain⟨a,k,o,p⟩:=m;obtain⟨q,r,t⟩:=E a k p;exact⟨q,r,a,k,o,t⟩|brk=>exact m|ret v=>exact m
 |false=>rw[if_neg Bool.false_ne_true];exact wpAny_execs_nil ⟨e,C,I2,l⟩
end
structure It where
 go:Nat->Hp->Prop
 KJ:Nat->Hp->V->Hp->Prop
 stop:Nat->Hp->Prop
def oG(X:Cx)(pins:List (Addr×Obj))(H:Hp)(b:Addr):Prop:=H b=none/\b≠X.env.locals/\b∉X.fs/\(b∈X.ex\/X.s₀.heap.objs.size<=b)/\(∀x c,X.env.cells.lookup x=some c->c≠b)/\∀p∈X.pn++pins,p.1≠b
theorem Inv.El{σ:St}{f:Hp}{b:Addr}(I:Inv X pins σ H s)(a:s.heap.objs.size<=b)(g:f b=none):oG X pins f b:=by
 refine⟨g,Nat.ne_of_gt (lt_of_lt_of_le I.lt a),I.YL a,.inr (le_trans I.sz a),λx c e z=>?_,λp j z=>?_⟩;.obtain⟨v,q⟩:=I.cell x c e;exact absurd (lt_of_lt_of_le q.lt (by rw[z];exact a)) (lt_irrefl _)
 .exact absurd (lt_of_lt_of_le (lt_size (I.pin p j).1) (by rw[z];exact a)) (lt_irrefl _)
structure Turn(P:Program)(w:World)(K:PySem.W.Frag)(tg:Expr)(J:It)(fp:List Addr)(it:Addr)(tn:Nat->Heap->Prop):Prop where
 mem:it∈fp
 obj:∀i h,tn i h->∀b∈fp,∃o,h.get? b=some o/\∀v,o.data≠.cell v
 keep:∀i h h',tn i h->(∀b∈fp,∀o,h.get? b=some o->h'.get? b=some o)->tn i h'
 item:∀(X:Cx),X.prog=P->X.w=w->X.K=K->X.calm=true->∀(i:Nat)(pins:List (Addr×Obj))(s:Shared)(σ:St)(H:Hp)(E:Value->Shared->Prop),Inv X pins σ H s->(∀b∈fp,oG X pins H b)->tn i s.heap->J.go i H->wpAny (model P w) X.A (pyNext (.ref it)) (λr s1=>∃u,r=some u/\wpAny (model P w) X.A (letOwnedTupleGo tg (.ref it) u) (λ_ s2=>∃x H',Inv X pins σ H' s2/\RelV x u/\J.KJ i H x H'/\tn (i+1) s2.heap/\∀b∈fp,H' b=none) E s1) E s
 done:∀(X:Cx),X.prog=P->X.w=w->X.K=K->X.calm=true->∀(i:Nat)(pins:List (Addr×Obj))(s:Shared)(σ:St)(H:Hp)(E:Value->Shared->Prop),Inv X pins σ H s->(∀b∈fp,oG X pins H b)->tn i s.heap->J.stop i H->wpAny (model P w) X.A (pyNext (.ref it)) (λr s1=>r=none/\Inv X pins σ H s1) E s
 self:∀(A:Around)(i:Nat)(s:Shared)(Q:Value->Shared->Prop)(E:Value->Shared->Prop),tn i s.heap->Q (.ref it) s->wpAny (model P w) A (pyIter (.ref it)) Q E s
abbrev TI:=St->Hp->(It->Hp->Prop)->Prop
def PIE(X:Cx)(pins:List (Addr×Obj))(σ:St)(tg:Expr)(R:It->Hp->Prop)(a:Value)(s2:Shared):Prop:=∃(it:Addr)(e:List Addr)(f:Nat->Heap->Prop)(J:It)(c:Hp),a=.ref it/\Inv X pins σ c s2/\Turn X.prog X.w X.K tg J e it f/\f 0 s2.heap/\(∀b∈e,oG X pins c b)/\R J c
def PI(X:Cx)(tg iter:Expr)(a:TI):Prop:=∀(pins:List (Addr × Obj))(s:Shared)(σ:St)(H:Hp)(R:It->Hp->Prop),Inv X pins σ H s->a σ H R->wpAny (model X.prog X.w) X.A (eval iter X.env) (λv s1=>wpAny (model X.prog X.w) X.A (pyIter v) (PIE X pins σ tg R) X.xe s1) X.xe s
theorem yd{E:Value->Shared->Prop}{it:Addr}{u:Value}{o:Obj}{n:String}{vs:Array Value}{Q:Unit->Shared->Prop}(ho:s.heap.get? it=some o)(hc:o.cls=.type n)(hd:o.data=.fields vs)(b:["enumerate","zip","dict_itemiterator","dict_reverseitemiterator","odict_iterator","itertools.zip_longest","itertools.pairwise"].contains n=false)(a:Q () s):wpAny M A (letOwnedTupleGo tg (.ref it) u) Q E s:=by unfold letOwnedTupleGo;cases tg<;>first|exact wpAny_pure a|(cases u<;>first|exact wpAny_pure a|(refine wpAny_bind (wpAny_load ho ?_);rw[hc,hd];show wpAny M A (if(["enumerate","zip","dict_itemiterator","dict_reverseitemiterator","odict_iterator","itertools.zip_longest","itertools.pairwise"].contains n&&vs[0]?==some (rawInt _))=true then _ else _) Q E s;rw[if_neg (by intro h;rw[b,Bool.false_and]at h;cases h)];exact wpAny_pure a))
noncomputable def O6(K:PySem.W.Frag)(a:Addr):It:=⟨λi H=>∃xs x,dJ K H a xs/\xs[i]?=some x,λi H x b=>b=H/\∀xs,dJ K H a xs->xs[i]?=some x,λi H=>∃xs,dJ K H a xs/\xs.length<=i⟩
noncomputable def Rv(K:PySem.W.Frag)(a:Addr):It:=⟨λi H=>∃xs x,jg K H a xs/\xs[i]?=some x,λi H x b=>b=H/\∀xs,jg K H a xs->xs[i]?=some x,λi H=>∃xs,jg K H a xs/\xs.length<=i⟩
noncomputable def Ud(lo:Int)(n:Nat):It:=⟨λi _=>i<n,λi H x a=>a=H/\x=.int (lo+i),λi _=>n<=i⟩
theorem zA{P:Program}(a it:Addr):Turn P w K tg (O6 K a) [it] it (λi h=>h.IsListIter it a i)where
 mem:=by simp
 obj:=λi h st b f=>by
  have e:b=it:=by simpa using f
  subst e;obtain⟨o,e,c,d⟩:=st;exact⟨o,e,λv z=>by rw[d]at z;cases z⟩
 keep:=λi h h' st k=>st.at λo e=>k it (by simp) o e;item:=by intro X m n q hc i pins s σ H E I j st r;subst m n q;obtain⟨xs,x,l,t⟩:=r;obtain⟨y,B,p,hz⟩:=I.list l;obtain⟨u,C,G⟩:=B.get t;obtain⟨f0,f1,f2,f3,f4,f5⟩:=j it (by simp);refine wpAny_pyNext_list_item st p.isList (x:=u) (by simpa using C) λh' g J=>?_;have L:Inv X pins σ H {s with heap:=h'}:=I.turned (t':=s.toks) (λb o f e=>(J.2 b f).trans e) f0 f1 f3 f4 f5;obtain⟨o,e,c,d⟩:=id g;exact⟨u,rfl,yd (s:={s with heap:=h'}) e c d (by decide) ⟨x,H,L,G,⟨rfl,λys N=>by rw[I.ux N l];exact t⟩,g,λb f=>(j b f).1⟩⟩
 done:=by intro X m n q hc i pins s σ H E I j st r;subst m n q;obtain⟨xs,l,t⟩:=r;obtain⟨y,B,p,hz⟩:=I.list l;obtain⟨f0,f1,f2,f3,f4,f5⟩:=j it (by simp);have Q:=B.length;exact wpAny_pyNext_list_end (I.ok.hd hc) st p.isList (by simp;omega) λh' O=>⟨rfl,I.turned (t':=s.toks) (λb o f e=>O b o f e) f0 f1 f3 f4 f5⟩
 self:=λ_ _ _ _ _ st h=>wpAny_pyIter_listiter st h
theorem wQ{P:Program}(a it:Addr):Turn P w K tg (Rv K a) [it] it (λi h=>h.IsTupleIter it a i)where
 mem:=by simp
 obj:=λi h st b f=>by
  have e:b=it:=by simpa using f
  subst e;obtain⟨o,e,c,d⟩:=st;exact⟨o,e,λv z=>by rw[d]at z;cases z⟩
 keep:=λi h h' st k=>st.at λo e=>k it (by simp) o e;item:=by intro X n q r hc i pins s σ H E I l st t;subst n q r;obtain⟨xs,x,m,y⟩:=t;obtain⟨g,B,p,hz⟩:=I.tuple m;obtain⟨u,C,G⟩:=B.get y;obtain⟨f0,f1,f2,f3,f4,f5⟩:=l it (by simp);refine wpAny_pyNext_tuple_item st (show s.heap.IsTuple a g.toArray from p) (x:=u) (by simpa using C) λh' j J=>?_;have L:Inv X pins σ H {s with heap:=h'}:=I.turned (t':=s.toks) (λb o f e=>(J.2 b f).trans e) f0 f1 f3 f4 f5;obtain⟨o,e,c,d⟩:=id j;exact⟨u,rfl,yd (s:={s with heap:=h'}) e c d (by decide) ⟨x,H,L,G,⟨rfl,λys N=>by rw[I.pQ N m];exact y⟩,j,λb f=>(l b f).1⟩⟩
 done:=by intro X n q r hc i pins s σ H E I l st t;subst n q r;obtain⟨xs,m,y⟩:=t;obtain⟨g,B,p,hz⟩:=I.tuple m;obtain⟨f0,f1,f2,f3,f4,f5⟩:=l it (by simp);have Q:=B.length;exact wpAny_pyNext_tuple_end (I.ok.hd hc) st (show s.heap.IsTuple a g.toArray from p) (by simp;omega) λh' O=>⟨rfl,I.turned (t':=s.toks) (λb o f e=>O b o f e) f0 f1 f3 f4 f5⟩
 self:=λ_ _ _ _ _ st h=>wpAny_pyIter_tupleiter st h
theorem v8{P:Program}(it:Addr)(lo:Int)(n:Nat):Turn P w K tg (Ud lo n) [it] it (λi h=>IsRangeIter h it (lo+(i:Nat)*1) ((n:Int)-(i:Nat)) 1)where
 mem:=by simp
 obj:=λi h st b a=>by
  have e:b=it:=by simpa using a
  subst e;exact⟨_,st,λv z=>by have q:Data.fields _=Data.cell v:=z;cases q⟩
 keep:=λi h h' st k=>k it (by simp) _ st;item:=by intro X g j l hc i pins s σ H E I f st m;subst g j l;obtain⟨f0,f1,f2,f3,f4,f5⟩:=f it (by simp);have W:=Walks.range (prog:=X.prog) (w:=X.w) (I.ok.hd hc) it lo 1 n;refine W.item i s _ _ m st λv h' p r c u=>?_;obtain⟨t,rfl⟩:=r;have x:Inv X pins σ H {s with heap:=h',toks:=p}:=I.turned (λb o a e=>u b o (by simpa using a) e) f0 f1 f3 f4 f5;refine⟨_,rfl,yd (s:={s with heap:=h',toks:=p}) (n:="range_iterator") c rfl rfl (by decide) ⟨.int (lo+i),H,x,⟨t,?_⟩,⟨rfl,rfl⟩,c,λb a=>(f b a).1⟩⟩;rw[mul_one]
 done:=by intro X g j l hc i pins s σ H E I f st m;subst g j l;obtain⟨f0,f1,f2,f3,f4,f5⟩:=f it (by simp);exact wpAny_pyNext_range_end (I.ok.hd hc) st (by have:n<=i:=m;omega) λh' y=>⟨rfl,I.turned (t':=s.toks) (λb o a e=>y b o a e) f0 f1 f3 f4 f5⟩
 self:=λ_ _ _ _ _ st h=>wpAny_pyIter_rangeiter st h
section
variable{X:Cx}{tg:Expr}
theorem Fy{σ:St}{R:It->Hp->Prop}{E:Value->Shared->Prop}{lo hi:Int}{t u v:Tok}{a:Nat}(I:Inv X pins σ H s)(h1:-(2^62)<=lo)(f:lo<2^62)(g:-(2^62)<=hi)(j:hi<2^62)(q:R (Ud lo (hi-lo).toNat) H):wpAny (model X.prog X.w) X.A (pyIter (.ref s.heap.objs.size)) (PIE X pins σ tg R) E {s with heap:=s.heap.push {cls:=.type "range",data:=.fields #[.int lo t,.int hi u,.int 1 v]},toks:=a}:=by
 refine wpAny_pyIter_range (IsRange.new ..) (small_one h1 f g j) ?_;have c:Inv X pins σ H {s with heap:=s.heap.push {cls:=.type "range",data:=.fields #[.int lo t,.int hi u,.int 1 v]},toks:=a}:=I.kept λb o e=>gb e;refine⟨(s.heap.push {cls:=.type "range",data:=.fields #[.int lo t,.int hi u,.int 1 v]}).objs.size,[(s.heap.push {cls:=.type "range",data:=.fields #[.int lo t,.int hi u,.int 1 v]}).objs.size],_,_,H,rfl,c.kept (t':=a) λb o e=>gb e,v8 _ lo (hi-lo).toNat,?_,λb k=>?_,q⟩
 . have l:lo+((0:Nat):Int)*1=lo:=by simp
   have m:(((hi-lo).toNat:Nat):Int)-((0:Nat):Int)=Builtin.Range.rangeSize lo hi 1:=by rw[rangeSize_one];split<;>omega
   show IsRangeIter _ _ (lo+((0:Nat):Int)*1) ((((hi-lo).toNat:Nat):Int)-((0:Nat):Int)) 1;rw[l,m];exact get?_push_size _ rfl
 . have e:b=(s.heap.push {cls:=.type "range",data:=.fields #[.int lo t,.int hi u,.int 1 v]}).objs.size:=by simpa using k
   subst e;exact c.El (cL) (c.hok.fresh (cL))
def Uk(a:TA):TI:=λσ H R=>a σ H λvs b=>∃j:Int,vs=[.int j]/\-(2^62)<=j/\j<2^62/\R (Ud 0 j.toNat) b
theorem qu{a:Expr}{c:TA}{p:Pos}(f:Gl X "range")(g:X.mg "range"=none)(k:PA X [a] c)(hs:starEach [a] X.env=[(false,eval a X.env)]:=by rfl):PI X tg (.Call (.Name "range" p) [a] [] pos) (Uk c):=by intro pins s σ H R I h;refine Call_ (iz I f g boot_range (PyProof.Rows.callWith_type1 (bH (k pos pins s σ H _ I h) λus s1⟨vs,H1,I1,r1,b⟩=>?_) hs rfl));obtain⟨j,e,b,l,q⟩:=b;subst e;cases r1 with|cons r m=>cases m;obtain⟨t,rfl⟩:=r;exact call_range_1 (Fy I1 (by omega) (by omega) b l (by simpa using q))
def Zq(f:TI)(g:TG)(j:TS):TS:=λD σ H=>f σ H λJ k=>∃W:Nat->Nat->St->Hp->Prop,(∃m,W 0 m σ k)/\∀i m σ H,W i m σ H->(J.stop i H/\D.nx σ H)\/(J.go i H/\∃N:St->Hp->Prop,(∀a b,N a b->∃e,e<m/\W (i+1) e a b)/\∀x b,J.KJ i H x b->g x σ b λc l=>j {D with nx:=N,ct:=N,bk:=D.nx} c l)
noncomputable def oV(a:List Addr)(h:Heap):List (Addr×Obj):=a.filterMap λb=>(h.get? b).map λo=>(b,o)
theorem gw{a:List Addr}{b:Addr}{o:Obj}(c:b∈a)(e:h.get? b=some o):(b,o)∈oV a h:=List.mem_filterMap.mpr ⟨b,c,by rw[e];rfl⟩
theorem Ay{a:List Addr}{p:Addr×Obj}(c:p∈oV a h):p.1∈a/\h.get? p.1=some p.2:=by obtain⟨b,f,e⟩:=List.mem_filterMap.mp c;cases q:h.get? b with|none=>rw[q]at e;cases e|some o=>rw[q]at e;have g:(b,o)=p:=Option.some.inj e;subst g;exact⟨f,q⟩
theorem Inv.pinned{σ:St}{a:List Addr}(I:Inv X pins σ H s)(g:∀b∈a,oG X pins H b)(ho:∀b∈a,∃o,s.heap.get? b=some o/\∀v,o.data≠.cell v):Inv X (pins++oV a s.heap) σ H s:=I.yE λp j=>(mem_append.mp j).elim (λz=>I.pin p (mem_append_right _ z)) λz=>by obtain⟨c,e⟩:=Ay z;obtain⟨f0,f1,f2,_⟩:=g p.1 c;obtain⟨o,f,d⟩:=ho p.1 c;rw[e]at f;cases f;exact⟨e,f0,f1,f2,d⟩
theorem Inv.jL{a:List (Addr×Obj)}{σ:St}(I:Inv X (pins++a) σ H s):Inv X pins σ H s:=I.yE λp b=>I.pin p (mem_append_right _ (List.mem_append_left _ b))
theorem Ci{iter:Expr}{body:List Stmt}{Z:TI}{g:TG}{tb:TS}(z:PassesOwn (model X.prog X.w) X.A X.env X.xe)(hc:X.calm=true)(hi:PI X tg iter Z)(hg:PG X tg g)(c:uL X body tb)(hs:∀x,foldedSetIterable iter X.env x=pure x:=by intro _;rfl):PS X (.For tg iter body [] pos) (Zq Z g tb):=by
 intro pins s σ H D I h;refine wpAny_For (bH (hi pins s σ H _ I h) λv s1 h1=>bH h1 λac s2 h2=>?_) hs;obtain⟨it,B,tn,J,H2,e,I2,T,Q,f2,W,⟨m0,w0⟩,C⟩:=h2;subst e--what stays true of the iterator's objects through the loop
 have j:∀{t:Hp},(∀b∈B,t b=none)->∀b∈B,oG X pins t b:=λhn b c=>⟨hn b c,(f2 b c).2⟩;refine codeAny_forLoop_any (λn s'=>∃i k t,Inv X pins k t s'/\tn i s'.heap/\(∀b∈B,t b=none)/\W i n k t) ?_ m0 ⟨0,σ,H2,I2,Q,λb c=>(f2 b c).1,w0⟩;rintro n s3⟨i,l,O,I3,E,G,w3⟩;rcases C i n l O w3 with⟨stop,qn⟩|⟨go,N,hN,step⟩;.refine wpAny_passesOwn z (bH (T.done X rfl rfl rfl hc i pins s3 l O X.xe I3 (j G) E stop) λr s4⟨hr,I4⟩=>?_);subst hr;exact wpAny_execs_nil ⟨l,O,I4,qn⟩
 . refine wpAny_passesOwn z (bH (T.item X rfl rfl rfl hc i pins s3 l O X.xe I3 (j G) E go) λr s4⟨u,hr,h4⟩=>?_);subst hr;refine wpAny_passesOwn z (bH h4 λ_ s5⟨x,H5,I5,r5,y5,st5,fr5⟩=>?_);have U:=I5.pinned (j fr5) (T.obj _ _ st5);refine wpAny_passesOwn z (bH (hg _ s5 l H5 x u _ U r5 (step x H5 y5)) λ_ s6⟨Y,H6,I6,q6⟩=>?_);refine wpAny_passesOwn z (bH (c _ s6 Y H6 _ I6 q6) λf s7 y=>?_);have again:∀{a:St}{p:Hp},Inv X (pins++oV B s5.heap) a p s7->N a p->∃m,m<n/\∃i k t,Inv X pins k t s7/\tn i s7.heap/\(∀b∈B,t b=none)/\W i m k t:=λ{a p}q L=>by obtain⟨m',hm,w7⟩:=hN a p L;refine⟨m',hm,i+1,a,p,q.jL,T.keep _ _ _ st5 λb c o e=>(q.pin (b,o) (mem_append_right _ (mem_append_right _ (gw c e)))).1,λb c=>?_,w7⟩;obtain⟨o,e,d⟩:=T.obj _ _ st5 b c;exact(q.pin (b,o) (mem_append_right _ (mem_append_right _ (gw c e)))).2.1
   cases f with|next=>obtain⟨a,p,q,L⟩:=y;exact again q L|cont=>obtain⟨a,p,q,L⟩:=y;exact again q L|brk=>obtain⟨a,p,q,y⟩:=y;exact⟨a,p,q.jL,y⟩|ret v=>obtain⟨x7,a,p,q,r7,y⟩:=y;exact⟨x7,a,p,q.jL,r7,y⟩
end
abbrev R2:=V->V->Hp->VK->Prop
def fH(X:Cx)(f:Value->Value->Sem Value)(r:R2):Prop:=∀(pins:List (Addr × Obj))(s:Shared)(σ:St)(H:Hp)(x y:V)(v u:Value)(Q:VK),Inv X pins σ H s->RelV x v->RelV y u->r x y H Q->wpAny (model X.prog X.w) X.A (f v u) (EP X pins σ Q) X.xe s
def Z8(X:Cx)(f:Value->Sem Value)(r:V->Hp->VK->Prop):Prop:=∀(pins:List (Addr × Obj))(s:Shared)(σ:St)(H:Hp)(x:V)(v:Value)(Q:VK),Inv X pins σ H s->RelV x v->r x H Q->wpAny (model X.prog X.w) X.A (f v) (EP X pins σ Q) X.xe s
def dj(X:Cx)(f:Value)(r:List V->Hp->VK->Prop):Prop:=∀(pins:List (Addr × Obj))(s:Shared)(σ:St)(H:Hp)(xs:List V)(us:List Value)(Q:VK),Inv X pins σ H s->Vals xs us->r xs H Q->wpAny (model X.prog X.w) X.A (call f us) (EP X pins σ Q) X.xe s
def RG(r:R2)(a b:TE):TE:=λσ H Q=>a σ H λx c=>b σ c λy e=>r x y e Q
def tUn(r:V->Hp->VK->Prop)(a:TE):TE:=λσ H Q=>a σ H λx b=>r x b Q
def rI(C:Int->Int->Prop)(g:Int->Int->V):R2:=λx y H Q=>∃i j,x=.int i/\y=.int j/\C i j/\Q (g i j) H
def Jp(g:Int->Int->V):R2:=λx y H Q=>∃i j,x=.int i/\y=.int j/\Q (g i j) H
def rU(g:Int->V):V->Hp->VK->Prop:=λx H Q=>∃i,x=.int i/\Q (g i) H
section
variable{X:Cx}{a b c:Expr}{ta tb tc:TE}{pos:Pos}
theorem Th(l:PE X a ta)(m:PE X b tb){σ:St}{R:V->V->Hp->Prop}(I:Inv X pins σ H s)(h:ta σ H λx k=>tb σ k λy e=>R x y e){Q:Value->Shared->Prop}{f:Value->Value->Sem Value}(n:∀v u s2 x y e,Inv X pins σ e s2->RelV x v->RelV y u->R x y e->wpAny (model X.prog X.w) X.A (f v u) Q X.xe s2):wpAny (model X.prog X.w) X.A (eval a X.env) (λv g=>wpAny (model X.prog X.w) X.A (eval b X.env) (λu j=>wpAny (model X.prog X.w) X.A (f v u) Q X.xe j) X.xe g) X.xe s:=by refine bH (l pins s σ H _ I h) λv s1⟨x,k,I1,r1,q1⟩=>?_;refine bH (m pins s1 σ k _ I1 q1) λu s2⟨y,e,I2,r2,q2⟩=>?_;exact n v u s2 x y e I2 r1 r2 q2
theorem Vx{op:Operator}{r:R2}(ho:fH X (binaryOp op) r)(e:PE X a ta)(f:PE X b tb):PE X (.BinOp a op b pos) (RG r ta tb):=by intro pins s σ H Q I h;exact wpAny_BinOp (Th e f I h λv u s2 x y g j k l q=>ho pins s2 σ g x y v u Q j k l q)
theorem Uq{op:UnaryOp}{r:V->Hp->VK->Prop}(ho:Z8 X (unaryOp op) r)(e:PE X a ta):PE X (.UnaryOp op a pos) (tUn r ta):=by intro pins s σ H Q I h;exact UnaryOp_ (bH (e pins s σ H _ I h) λv s1⟨x,H1,I1,r1,q1⟩=>ho pins s1 σ H1 x v Q I1 r1 q1)
theorem opI{f:Value->Value->Sem Value}{C:Int->Int->Prop}{g:Int->Int->Int}(rule:∀(i j:Int)(t u:Tok)(s:Shared)(Q:Value->Shared->Prop)(E:Value->Shared->Prop),C i j->Q (.int (g i j) s.toks) {s with toks:=s.toks+1}->wpAny (model X.prog X.w) X.A (f (.int i t) (.int j u)) Q E s):fH X f (rI C λi j=>.int (g i j)):=by intro pins s σ H x y v u Q I e k h;obtain⟨i,j,rfl,rfl,hc,q⟩:=h;obtain⟨t,rfl⟩:=e;obtain⟨t',rfl⟩:=k;exact rule i j t t' s _ _ hc ⟨.int (g i j),H,I.tok _,⟨_,rfl⟩,q⟩
theorem T5{f:Value->Value->Sem Value}{g:Int->Int->Int}(rule:∀(i j:Int)(t u:Tok)(s:Shared)(Q:Value->Shared->Prop)(E:Value->Shared->Prop),Q (.int (g i j) s.toks) {s with toks:=s.toks+1}->wpAny (model X.prog X.w) X.A (f (.int i t) (.int j u)) Q E s):fH X f (Jp λi j=>.int (g i j)):=by intro pins s σ H x y v u Q I e k h;obtain⟨i,j,rfl,rfl,q⟩:=h;obtain⟨t,rfl⟩:=e;obtain⟨t',rfl⟩:=k;exact rule i j t t' s _ _ ⟨.int (g i j),H,I.tok _,⟨_,rfl⟩,q⟩
theorem K9{f:Value->Value->Sem Value}{g:Int->Int->Bool}(rule:∀(i j:Int)(t u:Tok)(s:Shared)(Q:Value->Shared->Prop)(E:Value->Shared->Prop),Q (.bool (g i j)) s->wpAny (model X.prog X.w) X.A (f (.int i t) (.int j u)) Q E s):fH X f (Jp λi j=>.bl (g i j)):=by intro pins s σ H x y v u Q I e k h;obtain⟨i,j,rfl,rfl,q⟩:=h;obtain⟨t,rfl⟩:=e;obtain⟨t',rfl⟩:=k;exact rule i j t t' s _ _ ⟨.bl (g i j),H,I,rfl,q⟩
def ZX(i j:Int):Prop:=0<=j/\j<=1000000/\i.natAbs<2^64
def Lr(i j:Int):Prop:=(-(2^64)<i/\i<2^64)\/(-(2^64)<j/\j<2^64)
theorem Lr.ok{i j:Int}(h:Lr i j):IntMulOk i j:=by
 rcases h with⟨h1,e⟩|⟨h1,e⟩;.exact .of_left (intBits_le_64 h1 e)
 .exact .of_right (intBits_le_64 h1 e)
theorem Pb:fH X (binaryOp .Add) (Jp λi j=>.int (i+j)):=T5 λ_ _ _ _ _ _ _ q=>add_int q
theorem Ls:fH X (binaryOp .Sub) (Jp λi j=>.int (i-j)):=T5 λ_ _ _ _ _ _ _ q=>sub_int q
theorem Ld:fH X (binaryOp .Mult) (rI Lr λi j=>.int (i*j)):=opI λ_ _ _ _ _ _ _ hc q=>mul_int q hc.ok
theorem Qj:fH X (binaryOp .Mod) (rI (λ_ j=>0<j) λi j=>.int (i%j)):=opI λi j _ _ _ _ _ hc q=>by have h1:(0:Int)<j:=hc;exact mod_int' (by omega) (by rw[Int.fmod_eq_emod_of_nonneg i (by omega)];exact q)
theorem O8:fH X (binaryOp .Pow) (rI ZX λi j=>.int (i^j.toNat)):=opI λ_ _ _ _ _ _ _ hc q=>pow_int_small hc.1 hc.2.1 hc.2.2 q
theorem unI{f:Value->Sem Value}{g:Int->Int}(rule:∀(i:Int)(t:Tok)(s:Shared)(Q:Value->Shared->Prop)(E:Value->Shared->Prop),Q (.int (g i) s.toks) {s with toks:=s.toks+1}->wpAny (model X.prog X.w) X.A (f (.int i t)) Q E s):Z8 X f (rU λi=>.int (g i)):=by intro pins s σ H x v Q I e h;obtain⟨i,rfl,q⟩:=h;obtain⟨t,rfl⟩:=e;exact rule i t s _ _ ⟨.int (g i),H,I.tok _,⟨_,rfl⟩,q⟩
theorem Nb:Z8 X (unaryOp .USub) (rU λi=>.int (-i)):=unI λ_ _ _ _ _ q=>neg_int q
end
section
variable{X:Cx}{a b c:Expr}{ta tb tc:TE}{pos:Pos}
theorem K7{σ:St}{Q:VK}{k f:Bool}(I:Inv X pins σ H s)(q:Q (.bl k) H)(e:k=f):EP X pins σ Q (.bool f) s:=by subst e;exact⟨.bl k,H,I,rfl,q⟩
theorem Vm:fH X (compareOp .Lt) (Jp λi j=>.bl (decide (i<j))):=K9 λ_ _ _ _ _ _ _ q=>lt_int q
theorem U9:fH X (compareOp .LtE) (Jp λi j=>.bl (decide (i<=j))):=K9 λ_ _ _ _ _ _ _ q=>le_int q
theorem Tr:fH X (compareOp .Gt) (Jp λi j=>.bl (decide (j<i))):=K9 λ_ _ _ _ _ _ _ q=>gt_int q
theorem Hs:fH X (compareOp .IsNot) (λx y H Q=>y=.non/\Q (.bl (!decide (x=.non))) H):=by intro pins s σ H x y v u Q I e f h;obtain⟨rfl,q⟩:=h;cases f;refine isnot_none_gen (K7 I q ?_);cases x<;>first|(cases e;rfl)|(obtain⟨t,rfl⟩:=e;rfl)
theorem cU(b:Expr){op:CmpOp}(h:op≠.In:=by decide)(e:op≠.NotIn:=by decide):behindInMarks op b=false:=by
 have f:(op==CmpOp.In)=false:=by cases op<;>first|rfl|exact absurd rfl h
 have g:(op==CmpOp.NotIn)=false:=by cases op<;>first|rfl|exact absurd rfl e
 cases b<;>simp[behindInMarks,f,g]
def Ti(t:TE):TT:=λσ H Q=>t σ H λx e=>∃k,x=.bl k/\Q k e
theorem yL{op:CmpOp}{r:R2}(ho:fH X (compareOp op) r)(f:PE X a ta)(g:PE X b tb)(j:behindInMarks op b=false):PT X (.Compare a [op] [b] pos) (Ti (RG r ta tb)):=by intro pins s σ H Q I h;refine wpAny_isTrue_Compare1 (bH (f pins s σ H _ I h) λv s1⟨x,H1,I1,r1,q1⟩=>bH (g pins s1 σ H1 _ I1 q1) λu s2⟨y,H2,I2,r2,q2⟩=>bH (ho pins s2 σ H2 x y v u _ I2 r1 r2 q2) λc s3⟨z,H3,I3,r3,k,e,q3⟩=>?_) j;subst e;cases r3;exact wpAny_truthy_bool ⟨H3,I3,q3⟩
theorem n8:(sizeLine:Nat)<2^63:=by rw[sizeLine_eq];decide
theorem vI:fH X (binaryOp .Add) (λx y H Q=>∃i j,x=.str i/\y=.str j/\i.length+j.length<=sizeLine/\Q (.str (i++j)) H):=by intro pins s σ H x y v u Q I e f h;obtain⟨i,j,rfl,rfl,hz,q⟩:=h;obtain⟨t,rfl⟩:=e;obtain⟨t',rfl⟩:=f;exact add_str (λt' g=>⟨.str (i++j),H,I.tok _,⟨_,rfl⟩,q⟩) hz
theorem vals1{x:V}(r:Vals [x] us):∃u,us=[u]/\RelV x u:=by cases r with|cons r1 e=>cases e;exact⟨_,rfl,r1⟩
theorem vals2{x y:V}(r:Vals [x,y] us):∃u e,us=[u,e]/\RelV x u/\RelV y e:=by cases r with|cons r1 f=>cases f with|cons g j=>cases j;exact⟨_,_,rfl,r1,g⟩
theorem zB(hc:X.calm=true):dj X (.builtin "max") (λxs H Q=>∃i j,xs=[.int i,.int j]/\Q (.int (if j>i then j else i)) H):=by
 intro pins s σ H xs us Q I r h;obtain⟨i,j,rfl,q⟩:=h;obtain⟨u,f,rfl,⟨t,rfl⟩,⟨t',rfl⟩⟩:=vals2 r;refine max_two_ints (I.ok.hd hc) λh' g k=>⟨_,H,I.kept k,?_,q⟩;by_cases e:j>i;.rw[if_pos e,if_pos e];exact⟨_,rfl⟩
 .rw[if_neg e,if_neg e];exact⟨_,rfl⟩
theorem Ac(hc:X.calm=true):dj X (.builtin "min") (λxs H Q=>∃i j,xs=[.int i,.int j]/\Q (.int (if j<i then j else i)) H):=by
 intro pins s σ H xs us Q I r h;obtain⟨i,j,rfl,q⟩:=h;obtain⟨u,f,rfl,⟨t,rfl⟩,⟨t',rfl⟩⟩:=vals2 r;refine min_two_ints (I.ok.hd hc) λh' g k=>⟨_,H,I.kept k,?_,q⟩;by_cases e:j<i;.rw[if_pos e,if_pos e];exact⟨_,rfl⟩
 .rw[if_neg e,if_neg e];exact⟨_,rfl⟩
end
theorem lU.some_of{v:V}{o:Option Value}(r:lU (some v) o):∃u,o=some u/\RelV v u:=by cases o with|none=>exact(show False from r).elim|some u=>exact⟨u,rfl,r⟩
structure iy(k:Nat)(A:Around):Prop where
 hd:A.handled=none
 dp:A.depth+3*k+5<recursionLimit
 un:A.units+16*k+200<cLine
theorem iy.deeper{k:Nat}{A:Around}(r:iy (k+1) A)(env:Env):iy k (A.deeper env):=⟨r.hd,by have:=r.dp;show A.depth+1+3*k+5<_;omega,by have:=r.un;show A.units+3+16*k+200<_;omega⟩
theorem iy.depth{k:Nat}{A:Around}(r:iy k A):A.depth<recursionLimit:=by have:=r.dp;omega
def aa7:TA:=λ_ H Q=>Q [] H
def Tu(a:TE)(b:TA):TA:=λσ H Q=>a σ H λx c=>b σ c λxs e=>Q (x::xs) e
section
variable{X:Cx}{e:Expr}{es:List Expr}{te:TE}{t:TA}{pos:Pos}
theorem cY:PA X [] aa7:=λ_ _ _ _ H Q I h=>Calls.spliced_nil ⟨[],H,I,.nil,h⟩
theorem bF(a:PE X e te)(hr:PA X es t)(hs:starEach (e::es) X.env=(false,eval e X.env)::starEach es X.env:=by rfl):PA X (e::es) (Tu te t):=by intro pos pins s σ H Q I h;rw[hs];show wpAny _ _ (spliced ((false,eval e X.env)::backTo pos (starEach es X.env))) _ _ s;refine Calls.spliced_cons (bH (a pins s σ H _ I h) λu s1⟨x,H1,I1,r1,q1⟩=>?_);exact bH (hr pos pins s1 σ H1 _ I1 q1) λus s2⟨xs,H2,I2,r2,q2⟩=>⟨x::xs,H2,I2,.cons r1 r2,q2⟩
def aat(t:TA):TE:=λσ H Q=>t σ H λxs a=>xs.length<=sizeLine/\∀p,a p=none->Q (.ref p) (upd a p (.tup xs))
def Zc(t:TA):TE:=λσ H Q=>t σ H λxs a=>xs.length<=sizeLine/\∀p,a p=none->Q (.ref p) (upd a p (.lst xs))
theorem Oi{x1}(h:PA X es t):PE X (.Tuple es x1 pos) (aat t):=by intro pins s σ H Q I a;refine wpAny_Tuple_spliced (bH (h pos pins s σ H _ I a) λus s1⟨xs,H1,I1,r,z,q⟩=>⟨by rw[<-r.length];exact z,?_⟩);have c:H1 s1.heap.objs.size=none:=I1.hok.fresh (cL);refine⟨.ref s1.heap.objs.size,upd H1 s1.heap.objs.size (.tup xs),I1.laid (t':=s1.toks) (λb u e=>gb e) (cL) ?_,rfl,q _ c⟩;exact⟨z,us,r,⟨_,get?_push_size _ rfl,rfl,_,rfl⟩⟩
theorem LQ(h:PA X es t):PE X (.List es pos) (Zc t):=by intro pins s σ H Q I a;refine wpAny_List_spliced (bH (h pos pins s σ H _ I a) λus s1⟨xs,H1,I1,r,z,q⟩=>⟨by rw[<-r.length];exact z,?_⟩);have c:H1 s1.heap.objs.size=none:=I1.hok.fresh (cL);refine⟨.ref s1.heap.objs.size,upd H1 s1.heap.objs.size (.lst xs),I1.laid (t':=s1.toks) (λb u e=>gb e) (cL) ?_,rfl,q _ c⟩;exact⟨z,us,0,r,get?_push_size _ rfl⟩
end
abbrev Sp:=List V->Hp->VK->XK->Prop
abbrev Dk:=List Env->Hp->Shared->XK->Value->Shared->Prop
structure Hn(P:Program)(w:World)(K:PySem.W.Frag)(mg:Str->Option Value)(base:Heap)(A:Around)(outer:List Env)(s:Shared)(H:Hp):Prop where
 frames:A.frames=some outer
 mod:Mod K mg base
 bs:∀b o,base.get? b=some o->s.heap.get? b=some o/\H b=none
 KD:base.objs.size<=s.heap.objs.size
 oY:s.heap.FunFrames base outer
 R8:∀b∈frs outer,H b=none
 hok:j6 P w H s.heap
 bare:AllBare s.gens
def CE(outer:List Env)(P:Program)(w:World)(H:Hp)(s:Shared)(Q:VK)(u:Value)(a:Shared):Prop:=∃v b,a.os=s.os/\AllBare a.gens/\Un (frs outer) [] H b s.heap a.heap/\j6 P w b a.heap/\RelV v u/\Q v b
def CR(CX:Dk)(outer:List Env)(P:Program)(w:World)(H:Hp)(s:Shared)(Q:VK)(E:XK)(r:Result)(a:Shared):Prop:=match r with|.ok (.ret u)=>CE outer P w H s Q u a|.ok _=>False|.error e=>CX outer H s E e a
structure kZ(P:Program)(w:World)(K:PySem.W.Frag)(mg:Str->Option Value)(base:Heap)(CX:Dk)(k:Nat)(f:Addr)(fd:FuncData)(ps:List Str)(sp:Sp):Prop where
 len:∀vs H Q E,sp vs H Q E->vs.length=ps.length
 run:∀(A:Around)(outer:List Env)(s:Shared)(H:Hp)(args:Args)(us:List Value)(vs:List V)(Q:VK)(E:XK),iy k A->Hn P w K mg base A outer s H->BindsTo s fd args (ps.zip us)->Vals vs us->sp vs H Q E->codeAny (model P w) A (.call (.ref f) args) (CR CX outer P w H s Q E) s
section
variable{X:Cx}{pins:List (Addr×Obj)}{σ:St}{H:Hp}{s s':Shared}
theorem Inv.env0(I:Inv X pins σ H s):Hn X.prog X.w X.K X.mg X.base X.A X.stack s H:=⟨I.ok.frames,I.ok.mod,I.bs,le_trans I.ok.KD I.sz,I.stack,I.yX,I.hok,I.bare⟩
theorem Inv.after{Q:VK}{u:Value}(I:Inv X pins σ H s)(h:CE X.stack X.prog X.w H s Q u s'):EP X pins σ Q u s':=by obtain⟨v,c,os,bare,un,hok,r,q⟩:=h;obtain⟨e,g,d,t,a⟩:=s';obtain rfl:a=s.os:=os;exact⟨v,c,I.call (h':=e) (g':=g) (d':=d) (t':=t) (ch:=[]) un hok bare (λb z=>absurd z (by simp)),r,q⟩
end
def Ui(sp:Sp)(a:List V)(E:XK)(t:TA):TE:=λσ H Q=>t σ H λvs b=>sp (vs++a) b Q E
def Binds(K:PySem.W.Frag)(fd:FuncData)(ps:List Str)(a:List Value):Prop:=∀(s:Shared)(us:List Value),K.In s.heap->(us++a).length=ps.length->BindsTo s fd ⟨us,[]⟩ (ps.zip (us++a))
theorem Binds.all{fd:FuncData}{ps:List Str}(h:∀us:List Value,us.length=ps.length->bindArgs fd ⟨us,[]⟩=pure (ps.zip us)):Binds K fd ps []:=λs us _ a=>by rw[append_nil]at a ⊢;exact .of_eq (h us a)
def Passes(CX:Dk)(X:Cx)(E:XK):Prop:=∀(pins:List (Addr×Obj))(σ:St)(H:Hp)(s:Shared)(e:Value)(a:Shared),Inv X pins σ H s->CX X.stack H s E e a->X.xe e a
section
variable{X:Cx}{CX:Dk}{k:Nat}{f C:Addr}{fd:FuncData}{ps:List Str}{sp:Sp}{KN:List V}{ds:List Value}{E:XK}{x m:Str}{p pos apos:Pos}{e o:Expr}{es:List Expr}{ta:TE}{t:TA}
theorem O3{σ:St}{Q:VK}{vs:List V}(F:kZ X.prog X.w X.K X.mg X.base CX k f fd ps sp)(hr:iy k X.A)(c:Binds X.K fd ps ds)(hd:Vals KN ds)(g:Passes CX X E)(I:Inv X pins σ H s)(r:Vals vs us)(h:sp (vs++KN) H Q E):wpAny (model X.prog X.w) X.A (call (.ref f) us) (EP X pins σ Q) X.xe s:=by
 have b:Vals (vs++KN) (us++ds):=r.append hd;have j:(us++ds).length=ps.length:=by rw[<-b.length];exact F.len _ _ _ _ h
 refine wpAny_call (codeAny_mono (F.run X.A X.stack s H ⟨us,[]⟩ (us++ds) (vs++KN) Q E hr I.env0 (c s us I.Qi j) b h) λr l a=>?_);cases r with|error e=>exact g pins σ H s e l I a|ok fl=>cases fl with|ret u=>exact I.after a|next=>exact False.elim a|brk=>exact False.elim a|cont=>exact False.elim a
theorem Jq(F:kZ X.prog X.w X.K X.mg X.base CX k f fd ps sp)(hr:iy k X.A)(b:Gl X x)(c:X.mg x=some (.ref f))(g:keepIn X.K (.ref f)=true)(j:Binds X.K fd ps ds)(hd:Vals KN ds)(l:Passes CX X E)(n:PA X (e::es) t)(a:(x==("__debug__":Str))=false:=by decide)(he:starEach (e::es) X.env=(false,eval e X.env)::starEach es X.env:=by rfl)(hpl:(backTo pos (starEach es X.env)).any (·.1)=false:=by rfl):PE X (.Call (.Name x p) (e::es) [] pos) (Ui sp KN E t):=by intro pins s σ H Q I h;refine wpAny_Call_Name_kw (Ji I b c ?_ a);refine PySem.W.callWith_K (h₀:=X.base) I.ok.mod.pg g (bH (n pos pins s σ H _ I h) λus s1⟨vs,H1,I1,r,q⟩=>⟨I1.Qi,?_⟩) he hpl;exact O3 F hr j hd l I1 r q
end
structure aL(N P:List Str)(sc:Scope):Prop where
 kind:sc.kind=.function
 co:sc.isCoroutine=false
 gen:sc.isGenerator=false
 nd:N.Nodup
 pre:N.take P.length=P
 par:∀x∈P,sc.names.lookup x=some .local\/sc.names.lookup x=some .cell
 Qx:∀y∈sc.names,y.2≠.free
theorem pU{kindOf:Str->Option NameKind}{x:Str}:∀{binds:List (Str×Value)}{m:Str->Option Value},(∀v,(x,v)∉binds)->bindL kindOf binds m x=m x
 |[],_,_=>rfl|(n,v)::r,m,h=>by
   unfold bindL;rw[pU λw a=>h w (mem_cons_of_mem _ a)];split
   . have:x≠n:=by rintro rfl;exact h v mem_cons_self
     simp[this]
   .rfl
theorem qp{kindOf:Str->Option NameKind}{x:Str}:∀{binds:List (Str×Value)}{m:Str->Option Value},(∀v,(x,v)∉binds)->bindC kindOf binds m x=m x
 |[],_,_=>rfl|(n,v)::r,m,h=>by
   unfold bindC;rw[qp λw a=>h w (mem_cons_of_mem _ a)];split;.rfl
   . have:x≠n:=by rintro rfl;exact h v mem_cons_self
     simp[this]
theorem qy{kindOf:Str->Option NameKind}{x:Str}{v:Value}:∀{P:List Str}{vs:List Value}{i:Nat}{m:Str->Option Value},P.Nodup->P[i]?=some x->vs[i]?=some v->kindOf x=some .local->bindL kindOf (P.zip vs) m x=some v|[],_,_,_,_,h,_,_=>by simp at h|_::_,[],_,_,_,_,h,_=>by simp at h|p::P,w::vs,0,m,nd,h1,a,b=>by simp at h1 a;subst h1;subst a;show bindL kindOf ((p,w)::P.zip vs) m p=_;unfold bindL;rw[pU λv c=>(nodup_cons.mp nd).1 (of_mem_zip c).1,if_pos b];simp|p::P,w::vs,i+1,m,nd,h1,a,b=>by show bindL kindOf ((p,w)::P.zip vs) m x=_;unfold bindL;exact qy (i:=i) (nodup_cons.mp nd).2 (by simpa using h1) (by simpa using a) b
theorem qz{kindOf:Str->Option NameKind}{x:Str}{v:Value}:∀{P:List Str}{vs:List Value}{i:Nat}{m:Str->Option Value},P.Nodup->P[i]?=some x->vs[i]?=some v->kindOf x≠some .local->bindC kindOf (P.zip vs) m x=some v|[],_,_,_,_,h,_,_=>by simp at h|_::_,[],_,_,_,_,h,_=>by simp at h|p::P,w::vs,0,m,nd,h1,a,b=>by simp at h1 a;subst h1;subst a;show bindC kindOf ((p,w)::P.zip vs) m p=_;unfold bindC;rw[qp λv c=>(nodup_cons.mp nd).1 (of_mem_zip c).1,if_neg b];simp|p::P,w::vs,i+1,m,nd,h1,a,b=>by show bindC kindOf ((p,w)::P.zip vs) m x=_;unfold bindC;exact qz (i:=i) (nodup_cons.mp nd).2 (by simpa using h1) (by simpa using a) b
noncomputable def start(N:List Str)(vs:List V):St:=vs.map some++replicate (N.length-vs.length) none
noncomputable def vV(CX:Dk)(P:Program)(w:World)(K:PySem.W.Frag)(mg:Str->Option Value)(base:Heap)(N:List Str)(qual:Str)(scope:Scope)(f:Addr)(b:Value)(A:Around)(outer:List Env)(s:Shared)(H:Hp)(E:XK):Cx where prog:=P;w:=w;K:=K;mg:=mg;base:=base;A:=A.deeper (envOfC qual scope s.heap.objs.size f b);N:=N;s₀:=s;H₀:=H;env:=envOfC qual scope s.heap.objs.size f b;outer:=outer;stack:=envOfC qual scope s.heap.objs.size f b::outer;ex:=[];calm:=true;fn:=λ_=>true;pn:=[];xe:=λe c=>wpAny (model P w) (A.deeper (envOfC qual scope s.heap.objs.size f b)) (leaving (envOfC qual scope s.heap.objs.size f b) e) (λ_ a=>CX outer H s E e a) (λg a=>CX outer H s E g a) c
theorem tZ{a:Scope}{n:Nat}{x:Str}(h:a.names.lookup x=some .cell):∃c,(cellsFrom n a.names []).lookup x=some c:=by have q:=PySem.W.cellsFrom_some a.names n [] (.inl h);exact Option.isSome_iff_exists.mp q
theorem Al{CX:Dk}{P:Program}{mg:Str->Option Value}{base:Heap}{N ps:List Str}{qual:Str}{scope:Scope}{f:Addr}{o:Value}{outer:List Env}{s1:Shared}{E:XK}{vs:List V}(S:aL N ps scope)(hd:A.handled=none)(j:Hn P w K mg base A outer s H)(J:vs.length=ps.length)(r:Vals vs us)(x:InCallC s s.heap.objs.size (bindL (envOfC qual scope s.heap.objs.size f o).kindOf (ps.zip us) λ_=>none) (cellsFrom (s.heap.objs.size+1) scope.names []) (bindC (envOfC qual scope s.heap.objs.size f o).kindOf (ps.zip us) λ_=>none) s1):Inv (vV CX P w K mg base N qual scope f o A outer s H E) [] (start N vs) H s1:=by
 have hpl:ps.length<=N.length:=by have:=congrArg List.length S.pre;rw[length_take]at this;omega
 obtain⟨h1,L,rfl,B⟩:=x.done;have t:∀b:Addr,b∉(vV CX P w K mg base N qual scope f o A outer s H E).ex:=λb z=>absurd (show b∈([]:List Addr)from z) (by simp);refine⟨⟨j.mod,S.kind,rfl,rfl,cL,λy z c h1 g=>?_,λy hy=>?_,λy c _ h=>?_,λ_=>hd,Around.frames_deeper j.frames,.inr ⟨rfl,rfl⟩,λb z=>absurd z (t b),j.bs,j.KD,λb _ _=>t b,λb z=>absurd z (t b),j.oY,j.R8⟩,rfl,j.bare,Un.kept B,⟨_,x.toInCall.ns,λi y v h1 g O=>?_⟩,λy c h=>⟨_,x.cell y c h⟩,j.hok.fresh (cL),λy c h=>?_,λp l=>absurd (show p∈([]:List (Addr×Obj))from l) (by simp),j.hok.kept B,?_⟩;.exact name_of_addr x.apart (PySem.mem_of_lookup h1) (PySem.mem_of_lookup g)
 . have hy:scope.names.lookup y=some .cell\/scope.names.lookup y=some .free:=hy;rcases hy with hy|hy;.exact tZ hy
   .exact absurd rfl (S.Qx _ (PySem.mem_of_lookup hy))
 .exact le_of_lt (x.above y c (PySem.mem_of_lookup h))
 . have hi:i<vs.length:=by
    unfold start at g;by_cases hi:i<vs.length;.exact hi
    .rw[getElem?_append_right (by simpa using hi)]at g;rw[List.getElem?_replicate]at g;split at g<;>cases g
   have G:vs[i]?=some v:=by unfold start at g;rw[getElem?_append_left (by simpa using hi),getElem?_map]at g;cases e:vs[i]?with|none=>rw[e]at g;cases g|some a=>rw[e]at g;cases g;rfl
   obtain⟨u,C,I⟩:=r.get G;have l:ps[i]?=some y:=by rw[<-S.pre,List.getElem?_take_of_lt (by omega)];exact h1
   have m:ps.Nodup:=by rw[<-S.pre];exact S.nd.sublist (List.take_sublist _ _)
   refine⟨u,I,?_⟩;rcases S.par y (mem_of_getElem? l)with k|k;.exact .inl ⟨k,qy m l C k⟩
   .obtain⟨c,e⟩:=tZ (n:=s.heap.objs.size+1) k;refine .inr ⟨.inl k,c,e,?_⟩;have q:=x.cell y c e;rw[qz m l C (by show scope.names.lookup y≠_;rw[k];decide)]at q;exact q
 .exact j.hok.fresh (le_of_lt (x.above y c (PySem.mem_of_lookup h)))
 .unfold start;show _=N.length;rw[length_append,length_map,List.length_replicate];omega
theorem TF{CX:Dk}{P:Program}{w:World}{K:PySem.W.Frag}{mg:Str->Option Value}{base:Heap}{k:Nat}{f:Addr}{name qual:Str}{a:Arguments}{body:List Stmt}{scope:Scope}{L kV m O cdv ct oc:Value}{U Z:Option Addr}{z:Array (Option Value)}{N ps:List Str}{sp:Sp}(lk:K.lookup f=some ⟨oc,Z,.func (PySem.W.fnOf name qual a body scope L kV m O U cdv ct),z⟩)(B:PySem.W.codeIn K cdv qual=true)(S:aL N ps scope)(len:∀vs H Q E,sp vs H Q E->vs.length=ps.length)(j:∀(A:Around)(outer:List Env)(s:Shared)(H:Hp)(vs:List V)(Q:VK)(E:XK),iy k (A.deeper (envOfC qual scope s.heap.objs.size f cdv))->sp vs H Q E->∃t,uL (vV CX P w K mg base N qual scope f cdv A outer s H E) body t/\t {nx:=λ_ g=>Q .non g,rt:=Q} (start N vs) H):kZ P w K mg base CX (k+1) f (PySem.W.fnOf name qual a body scope L kV m O U cdv ct) ps sp:=by
 refine⟨len,λA outer s H args us vs Q E hr p hb r hsp=>?_⟩;have hl:=len _ _ _ _ hsp;have Y:K.In s.heap:=p.mod.pg.keeps λb o e=>(p.bs b o e).1;have lim:s.heap.NoLimit:=p.mod.nolimit.keeps λb o e=>(p.bs b o e).1;have l:∀y∈ps.zip us,scope.names.lookup y.1=some .local\/(scope.names.lookup y.1=some .cell/\((cellsFrom (s.heap.objs.size+1) scope.names []).lookup y.1).isSome=true):=λ⟨n,v⟩hy=>by
  rcases S.par n (of_mem_zip hy).1 with q|q;.exact .inl q
  .exact .inr ⟨q,PySem.W.cellsFrom_some _ _ _ (.inl q)⟩
 refine codeAny_call_function hr.depth (Y _ _ lk) rfl S.co S.gen rfl (PySem.W.codeRec_of Y B) (hb _ _ _ _ ?_);refine wpAny_newFunctionEnv_cells S.kind l λenv he s1 x=>?_;subst he;refine⟨lim.keeps x.toInCall.keep,codeAny_func ?_⟩;obtain⟨t,ht,hq⟩:=j A outer s H vs Q E (hr.deeper _) hsp;have I:Inv (vV CX P w K mg base N qual scope f cdv A outer s H E) [] (start N vs) H s1:=Al S hr.hd p hl r x;refine wpAny_mono (ht [] s1 (start N vs) H _ I hq) (λfl C hs=>?_) λe C hs=>hs;have fin:∀{c:St}{g:Hp}{v:V}{u:Value},Inv (vV CX P w K mg base N qual scope f cdv A outer s H E) [] c g C->RelV v u->Q v g->CE outer P w H s Q u C:=λ{c g v u}J G q=>⟨v,g,J.os,J.bare,J.base,J.hok,G,q⟩;cases fl with|ret u=>obtain⟨v,c,g,J,G,q⟩:=hs;exact fin J G q|next=>obtain⟨c,g,J,q⟩:=hs;exact fin (v:=V.non) (u:=Value.none) J rfl q|brk=>obtain⟨_,_,_,q⟩:=hs;exact False.elim q|cont=>obtain⟨_,_,_,q⟩:=hs;exact False.elim q
section
variable{X:Cx}{x:Str}{p pos:Pos}{e:Expr}{es:List Expr}{t:TA}{id T:String}{r:List V->Hp->VK->Prop}
def XX(r:List V->Hp->VK->Prop)(t:TA):TE:=λσ H Q=>t σ H λvs a=>r vs a Q
theorem dC(hc:dj X (.builtin id) r)(b:Gl X x)(c:X.mg x=none)(f:bootBuiltins x=some (.builtin id))(g:PA X (e::es) t)(j:x≠"__name__":=by decide)(a:(x==("__debug__":Str))=false:=by decide)(he:starEach (e::es) X.env=(false,eval e X.env)::starEach es X.env:=by rfl)(hpl:(backTo pos (starEach es X.env)).any (·.1)=false:=by rfl):PE X (.Call (.Name x p) (e::es) [] pos) (XX r t):=by intro pins s σ H Q I h;refine wpAny_Call_Name_kw (iz I b c f ?_ j a);exact PyProof.Rows.callWith_builtin1 (bH (g pos pins s σ H _ I h) λus s1⟨vs,H1,I1,r1,q1⟩=>hc pins s1 σ H1 vs us Q I1 r1 q1) he hpl
theorem kJ(hc:dj X (.type T) r)(b:Gl X x)(c:X.mg x=none)(f:bootBuiltins x=some (.type T))(g:PA X (e::es) t)(j:x≠"__name__":=by decide)(a:(x==("__debug__":Str))=false:=by decide)(he:starEach (e::es) X.env=(false,eval e X.env)::starEach es X.env:=by rfl)(hpl:(backTo pos (starEach es X.env)).any (·.1)=false:=by rfl):PE X (.Call (.Name x p) (e::es) [] pos) (XX r t):=by intro pins s σ H Q I h;refine wpAny_Call_Name_kw (iz I b c f ?_ j a);exact PyProof.Rows.callWith_type1 (bH (g pos pins s σ H _ I h) λus s1⟨vs,H1,I1,r1,q1⟩=>hc pins s1 σ H1 vs us Q I1 r1 q1) he hpl
end
end L2
namespace HT
open PySem PyProof.Rows
section
variable{prog:Program}{w:World}{A:Around}{E:Value->Shared->Prop}{s:Shared}
theorem Iv{t b:Addr}{vs ws:List Value}{Q:Value->Shared->Prop}(ht:IsTup s.heap t vs.toArray)(o:IsTup s.heap b ws.toArray)(j:vs≠[])(h1:ws=[]->Q (.ref t) s)(p:ws≠[]->Q (.ref s.heap.objs.size) {s with heap:=s.heap.push {cls:=.type "tuple",data:=.seq (vs++ws).toArray}})(hsz:vs.length+ws.length<=sizeLine):wpAny (model prog w) A (binaryOp .Add (.ref t) (.ref b)) Q E s:=by
 obtain⟨⟨cls,k,data,sl⟩,ho,hc,n,hd⟩:=id ht;obtain⟨⟨l,c,data2,f⟩,a,g,m,h⟩:=id o;simp only at hc hd g h;subst hc hd g h;have e:vs.toArray++ws.toArray=(vs++ws).toArray:=by simp
 by_cases i:ws=[];.exact concat_meets ⟨_,ho,rfl⟩ ⟨_,a,rfl⟩ noFill_tuple_add seq_tuple_add slot_tuple_add entry_tuple_add (args_tuple_add_2 _ _) (tuple_addW1 t b vs.toArray ws.toArray n m k c sl f (by simpa using j) (by simp[i])) ⟨ho,a,h1 i⟩
 .refine concat_meets ⟨_,ho,rfl⟩ ⟨_,a,rfl⟩ noFill_tuple_add seq_tuple_add slot_tuple_add entry_tuple_add (args_tuple_add_2 _ _) (tuple_addW2 t b vs.toArray ws.toArray n m k c sl f (by simpa using j) (by simpa using i) (by rw[size_toArray,size_toArray];exact hsz)) ⟨ho,a,?_⟩;rw[e];exact p i
noncomputable def cI(n d:Nat):Option Int->Nat|none=>d|some v=>if v<0 then(v+(n:Int)).toNat else min v.toNat n
theorem Lq(n d:Nat)(hd:d<=n)(o:Option Int):cI n d o<=n:=by cases o with|none=>exact hd|some v=>
   show(if v<0 then(v+(n:Int)).toNat else min v.toNat n)<=n;by_cases a:v<0;.rw[if_pos a];omega
   .rw[if_neg a];exact Nat.min_le_right _ _
theorem yl(v:Int)(n d:Nat):(if v<0 then max (v+(n:Int)) 0 else min v (n:Int))=((cI n d (some v):Nat):Int):=by
 show(if v<0 then max (v+(n:Int)) 0 else min v (n:Int))=(((if v<0 then(v+(n:Int)).toNat else min v.toNat n):Nat):Int);by_cases a:v<0;.simp only[if_pos a];omega
 .simp only[if_neg a];omega
theorem vR(lo hi:Option Int)(n:Nat):sliceAdjust lo hi 1 (n:Int)=(((cI n 0 lo:Nat):Int),((cI n n hi:Nat):Int)):=by
 have h1:¬((1:Int)<0):=by omega
 unfold sliceAdjust;simp only[h1,if_false];refine Prod.ext ?_ ?_;.cases lo with|none=>rfl|some v=>exact yl v n 0
 .cases hi with|none=>rfl|some v=>exact yl v n n
theorem wU(i j:Nat):slicePlaces (i:Int) (j:Int) 1=j-i:=by
 unfold slicePlaces;have h1:(1:Int)>0:=by omega
 simp only[h1,if_true,Int.ediv_one];split<;>omega
theorem oR{v:Value}{o:Option Int}{Q:Option Int->Shared->Prop}(p:IsPart v o)(h:Q o s):wpAny (model prog w) A (Builtin.Slice.slicePartIndex v) Q E s:=by cases p with|none=>exact slicePart_none h|int i t=>exact slicePart_int h
theorem gf{sl:Addr}{c e:Value}{lo hi:Option Int}{n:Nat}{Q:Int×Int×Nat->Shared->Prop}(hs:s.heap.IsSliceOf sl c e .none)(f:IsPart c lo)(g:IsPart e hi)(h:Q (((cI n 0 lo:Nat):Int),1,cI n n hi-cI n 0 lo) s):wpAny (model prog w) A (sliceApplied (.ref sl) (pure (n:Int))) Q E s:=by obtain⟨os,a,i,b⟩:=id hs;unfold sliceApplied Builtin.Slice.sliceFields;refine wpAny_bind (wpAny_bind (wpAny_field a b (x:=c) rfl (wpAny_bind (wpAny_field a b (x:=e) rfl (wpAny_bind (wpAny_field a b (x:=.none) rfl (wpAny_pure ?_)))))));refine wpAny_bind (slicePart_none ?_);show wpAny _ _ (if((1:Int)==0)=true then _ else _) _ _ s;rw[if_neg (by decide)];refine wpAny_bind (oR f (wpAny_bind (oR g (wpAny_bind (wpAny_pure ?_)))));show wpAny _ _ (match sliceAdjust lo hi 1 (n:Int)with|(lo,hi)=>pure (lo,(1:Int),slicePlaces lo hi 1)) _ _ s;rw[vR lo hi n];show wpAny _ _ (pure (((cI n 0 lo:Nat):Int),(1:Int),slicePlaces ((cI n 0 lo:Nat):Int) ((cI n n hi:Nat):Int) 1)) _ _ s;rw[wU];exact wpAny_pure h
theorem Ea(xs:Array Value)(i k:Nat):((List.range k).filterMap λ(m:Nat)=>xs[((i:Int)+(m:Int)*1).toNat]?).toArray=((xs.toList.drop i).take k).toArray:=by
 have e:(λ(m:Nat)=>xs[((i:Int)+(m:Int)*1).toNat]?)=λm=>xs[i+m]?:=by
  funext m;have:((i:Int)+(m:Int)*1).toNat=i+m:=by omega
  rw[this]
 rw[e];have:=pick_run xs i k;rw[List.filterMap_map]at this;have a:((λx=>xs[x]?)∘ λx=>i+x)=λm=>xs[i+m]?:=rfl;rw[a]at this;rw[this]
theorem jQ{t sl:Addr}{items:Array Value}{g i:Value}{lo hi:Option Int}{Q:Value->Shared->Prop}(ht:IsTup s.heap t items)(hs:s.heap.IsSliceOf sl g i .none)(j:IsPart g lo)(k:IsPart i hi)(l:¬(cI items.size 0 lo=0/\cI items.size items.size hi=items.size))(h:Q (.ref s.heap.objs.size) {s with heap:=s.heap.push {cls:=.type "tuple",data:=.seq ((items.toList.drop (cI items.size 0 lo)).take (cI items.size items.size hi-cI items.size 0 lo)).toArray}})(hsz:items.size<=sizeLine):wpAny (model prog w) A (getItem (.ref t) (.ref sl)) Q E s:=by
 have a:sizeOk (.seq ((items.toList.drop (cI items.size 0 lo)).take (cI items.size items.size hi-cI items.size 0 lo)).toArray):=by show((items.toList.drop (cI items.size 0 lo)).take (cI items.size items.size hi-cI items.size 0 lo)).toArray.size<=sizeLine;rw[size_toArray,length_take,List.length_drop,length_toList];omega
 have o:cI items.size items.size hi<=items.size:=Lq _ _ (cL) hi;obtain⟨os,b,c,n⟩:=id hs;have e:s.TypeIs (.ref sl) "slice":=⟨os,b,c⟩;unfold getItem;try with_reducible refine wpAny_holding ?_
 first|refine wpAny_bind (wpAny_pure ?_)|skip
 refine wpAny_bind (wpAny_sequenceKey ht.typeIs (by decide) ?_);refine wpAny_bind (wpAny_callSpecial?_slot (name:=Str.ofString "__getitem__") ht.typeIs PyProof.Rows.slot_tuple_getitem (wpAny_call_entry PyProof.Rows.slot_tuple_getitem ht.typeIs entry_tuple_getitem ?_ (args_tuple_getitem _ _)));show wpAny _ _ (tupleItemsOf (.ref t)>>=_) _ _ s;refine wpAny_bind (tupleItemsOf_ ht ?_);refine wpAny_bind (wpAny_typeOf e ?_);rw[if_pos (by decide)];refine wpAny_bind (gf hs j k ?_);have f:¬((((cI items.size 0 lo:Nat):Int)==0&&(1:Int)==1&&(cI items.size items.size hi-cI items.size 0 lo)==items.size)=true):=by intro q;rw[and_eq_true,and_eq_true]at q;have p:((cI items.size 0 lo:Nat):Int)=0:=eq_of_beq q.1.1;have r:cI items.size items.size hi-cI items.size 0 lo=items.size:=eq_of_beq q.2;exact l ⟨by omega,by omega⟩
 show wpAny _ _ (if(((cI items.size 0 lo:Nat):Int)==0&&(1:Int)==1&&(cI items.size items.size hi-cI items.size 0 lo)==items.size)=true then _ else _) _ _ s;rw[if_neg f,Ea];first|exact wpAny_bind (m:=tupleExact _) (wpAny_newObj_type (wpAny_pure ⟨_,rfl,wpAny_pure h⟩) a)|exact wpAny_bind (m:=tupleExact _) (wpAny_newObj_type (wpAny_bind (wpAny_pure (wpAny_pure ⟨_,rfl,wpAny_pure h⟩))) a)|exact wpAny_bind (wpAny_bind (m:=tupleExact _) (wpAny_newObj_type (wpAny_pure (wpAny_pure ⟨_,rfl,wpAny_pure h⟩)) a))|exact wpAny_bind (wpAny_bind (m:=tupleExact _) (wpAny_newObj_type (wpAny_pure ⟨_,rfl,wpAny_pure h⟩) a))
end
end HT
namespace L2
open PySem PySem.Spec PyProof.Rows
variable{n:Nat}{s:Shared}{x:V}
abbrev TO:=St->Hp->(Option Int->Hp->Prop)->Prop
def PO(X:Cx)(e:Option Expr)(t:TO):Prop:=∀(a:List (Addr × Obj))(s:Shared)(σ:St)(H:Hp)(Q:Option Int->Hp->Prop),Inv X a σ H s->t σ H Q->wpAny (model X.prog X.w) X.A (evalPart e X.env) (λu c=>∃o b,Inv X a σ b c/\IsPart u o/\Q o b) X.xe s
def Jl:TO:=λ_ H Q=>Q none H
def Vd(t:TE):TO:=λσ H Q=>t σ H λx a=>∃i,x=.int i/\Q (some i) a
section
variable{X:Cx}{e:Expr}{te:TE}{lo hi:Option Expr}{tl th:TO}{pos p2:Pos}
theorem Ja:PO X none Jl:=by intro a s σ H Q I h;rw[evalPart_none];exact wpAny_pure ⟨none,H,I,.none,h⟩
theorem Jv(h:PE X e te):PO X (some e) (Vd te):=by intro a s σ H Q I b;rw[evalPart_some];refine bH (h a s σ H _ I b) λu s1⟨x,H1,I1,r1,q1⟩=>?_;obtain⟨i,rfl,q⟩:=q1;obtain⟨t,rfl⟩:=r1;exact⟨some i,H1,I1,.int i t,q⟩
def W5(X:Cx)(r:V->Option Int->Option Int->Hp->VK->Prop):Prop:=∀(a:List (Addr × Obj))(s:Shared)(σ:St)(H:Hp)(x:V)(v b c:Value)(lo hi:Option Int)(sl:Addr)(Q:VK),Inv X a σ H s->RelV x v->s.heap.IsSliceOf sl b c .none->IsPart b lo->IsPart c hi->r x lo hi H Q->∃T id,typeLookup (.type T) "__getitem__"=pure (some (.builtin id))/\s.TypeIs v T/\wpAny (model X.prog X.w) X.A (getItem v (.ref sl)) (EP X a σ Q) X.xe s
def tSl(r:V->Option Int->Option Int->Hp->VK->Prop)(te:TE)(tl th:TO):TE:=λσ H Q=>te σ H λx a=>tl σ a λl b=>th σ b λu c=>r x l u c Q
theorem uf{r:V->Option Int->Option Int->Hp->VK->Prop}(hr:W5 X r)(he:PE X e te)(g:PO X lo tl)(i:PO X hi th):PE X (.Subscript e (.Slice lo hi none p2) pos) (tSl r te tl th):=by intro a s σ H Q I h;refine Subscript_ (bH (he a s σ H _ I h) λv s1⟨x,H1,I1,r1,q1⟩=>?_);refine wpAny_Slice (bH (g a s1 σ H1 _ I1 q1) λc s2⟨l,H2,I2,pl,q2⟩=>bH (i a s2 σ H2 _ I2 q2) λf s3⟨u,H3,I3,pu,q3⟩=>?_);rw[evalPart_none];refine wpAny_pure ?_;have j:Inv X a σ H3 {s3 with heap:=s3.heap.push {cls:=.type "slice",data:=.fields #[c,f,.none]}}:=I3.kept (t':=s3.toks) λb o q=>gb q;obtain⟨T,id,k,ht,m⟩:=hr a {s3 with heap:=s3.heap.push {cls:=.type "slice",data:=.fields #[c,f,.none]}} σ H3 x v c f l u s3.heap.objs.size Q j r1 (Heap.IsSliceOf.new ..) pl pu q3;show wpAny (model X.prog X.w) X.A (subscriptTail e (.Slice lo hi none p2) v (.ref s3.heap.objs.size)) (EP X a σ Q) X.xe {s3 with heap:=s3.heap.push {cls:=.type "slice",data:=.fields #[c,f,.none]}};exact tail_any (ops:=[.ref s3.heap.objs.size,v]) ht k m (by with_unfolding_all rfl)
noncomputable def tU(xs:List V)(lo hi:Option Int):List V:=(xs.drop (HT.cI xs.length 0 lo)).take (HT.cI xs.length xs.length hi-HT.cI xs.length 0 lo)
theorem lH(xs:List V)(lo hi:Option Int):(tU xs lo hi).length<=xs.length:=by unfold tU;rw[length_take,List.length_drop];omega
def aaS(K:PySem.W.Frag):V->Option Int->Option Int->Hp->VK->Prop:=λx lo hi H Q=>∃a xs,x=.ref a/\jg K H a xs/\¬(HT.cI xs.length 0 lo=0/\HT.cI xs.length xs.length hi=xs.length)/\∀p,H p=none->Q (.ref p) (upd H p (.tup (tU xs lo hi)))
theorem Qm:W5 X (aaS X.K):=by
 intro g s σ H x v p t lo hi sl Q I i hs j k h;obtain⟨a,xs,rfl,l,m,q⟩:=h;cases i;obtain⟨f,r,ht,hz⟩:=I.tuple l;have c:f.toArray.size=xs.length:=by rw[size_toArray];exact r.length.symm
 refine⟨"tuple",_,PyProof.Rows.slot_tuple_getitem.lookup,ht.typeIs,?_⟩;refine HT.jQ ht hs j k (by rw[c];exact m) ?_ (by rw[c];exact hz);rw[c];refine⟨.ref s.heap.objs.size,_,I.laid (t':=s.toks) (o:=.tup (tU xs lo hi)) (λb u q=>gb q) (cL) ?_,rfl,q _ (I.hok.fresh (cL))⟩;exact⟨le_trans (lH xs lo hi) hz,_,(r.drop (HT.cI xs.length 0 lo)).take (HT.cI xs.length xs.length hi-HT.cI xs.length 0 lo),IsTup.new _ _⟩
def Tq(K:PySem.W.Frag):R2:=λx y H Q=>∃a b xs ys,x=.ref a/\y=.ref b/\jg K H a xs/\jg K H b ys/\xs≠[]/\xs.length+ys.length<=sizeLine/\(ys=[]->Q (.ref a) H)/\(ys≠[]->∀p,H p=none->Q (.ref p) (upd H p (.tup (xs++ys))))
theorem Vals.mG{xs:List V}{a:List Value}(r:Vals xs a):a=[]↔xs=[]:=by cases r with|nil=>simp|cons _ _=>simp
theorem Im:fH X (binaryOp .Add) (Tq X.K):=by intro f s σ H x y v u Q I i j h;obtain⟨a,b,xs,ys,rfl,rfl,k,l,m,hz,p,r⟩:=h;cases i;cases j;obtain⟨t,r1,A,_⟩:=I.tuple k;obtain⟨g,c,p2,_⟩:=I.tuple l;refine HT.Iv A p2 (λz=>m (r1.mG.mp z)) (λz=>⟨.ref a,H,I,rfl,p (c.mG.mp z)⟩) (λz=>?_) (by rw[<-r1.length,<-c.length];exact hz);refine⟨.ref s.heap.objs.size,_,I.laid (t':=s.toks) (o:=.tup (xs++ys)) (λb B q=>gb q) (cL) ?_,rfl,r (λw=>z (c.mG.mpr w)) _ (I.hok.fresh (cL))⟩;exact⟨by rw[length_append];exact hz,_,r1.append c,IsTup.new _ _⟩
end
noncomputable def gQ(n:Nat)(i:Int):Option Nat:=if 0<=i then(if i<n then some i.toNat else none)else if-(n:Int)<=i then some (i+n).toNat else none
noncomputable def Ce{a:Type}(xs:List a)(i:Int):Option a:=(gQ xs.length i).bind λj=>xs[j]?
theorem zc{i:Int}{j:Nat}(h:gQ n i=some j):seqIndex? i n=some j/\j<n/\-(n:Int)<=i/\i<n:=by
 unfold gQ at h;by_cases h0:0<=i
 . rw[if_pos h0]at h;by_cases h1:i<n;.rw[if_pos h1]at h;have e:i.toNat=j:=Option.some.inj h;exact⟨by rw[seqIndex_of h0 h1,e],by omega,by omega,h1⟩
   .rw[if_neg h1]at h;cases h
 . rw[if_neg h0]at h;by_cases h1:-(n:Int)<=i;.rw[if_pos h1]at h;have e:(i+n).toNat=j:=Option.some.inj h;exact⟨by rw[seqIndex_neg (by omega) h1,e],by omega,h1,by omega⟩
   .rw[if_neg h1]at h;cases h
theorem rE{a:Type}{xs:List a}{i:Int}{v:a}(h:Ce xs i=some v):∃j,seqIndex? i xs.length=some j/\xs[j]?=some v/\j<xs.length/\-(xs.length:Int)<=i/\i<xs.length:=by unfold Ce at h;cases e:gQ xs.length i with|none=>rw[e]at h;cases h|some j=>rw[e]at h;obtain⟨h1,b,c,f⟩:=zc e;exact⟨j,h1,h,b,c,f⟩
def rO(b:Expr):Prop:=∀o i,subscripted b false o i=operate [o,i] (getItem o i)
def Wi(X:Cx)(r:R2):Prop:=∀(b slice:Expr)(a:List (Addr × Obj))(s:Shared)(σ:St)(H:Hp)(x y:V)(v u:Value)(Q:VK),Inv X a σ H s->RelV x v->RelV y u->r x y H Q->subscripted slice false v u=operate [v,u] (getItem v u)->wpAny (model X.prog X.w) X.A (subscriptTail b slice v u) (EP X a σ Q) X.xe s
def MtR(X:Cx)(id:String)(r:V->List V->Hp->VK->Prop):Prop:=∀(a:List (Addr × Obj))(s:Shared)(σ:St)(H:Hp)(x:V)(xs:List V)(v:Value)(b:List Value)(Q:VK),Inv X a σ H s->RelV x v->Vals xs b->r x xs H Q->wpAny (model X.prog X.w) X.A (call (.builtin id) (v::b)) (EP X a σ Q) X.xe s
section
variable{X:Cx}{a b:Expr}{ta tb:TE}{pos:Pos}
theorem J5{r:R2}(hr:Wi X r)(e:PE X a ta)(f:PE X b tb)(hs:rO b):PE X (.Subscript a b pos) (RG r ta tb):=by intro c s σ H Q I h;exact Subscript_ (Th e f I h λv u s2 x y g i j k q=>hr a b c s2 σ g x y v u Q i j k q (hs _ _))
def Tz(K:PySem.W.Frag):R2:=λx y H Q=>∃p xs i v,x=.ref p/\y=.int i/\dJ K H p xs/\Ce xs i=some v/\Q v H
def aaW(K:PySem.W.Frag):R2:=λx y H Q=>∃p xs i v,x=.ref p/\y=.int i/\jg K H p xs/\Ce xs i=some v/\Q v H
theorem yq:Wi X (Tz X.K):=by
 intro e slice c s σ H x y v u Q I m o h hs;obtain⟨p,xs,i,z,rfl,rfl,A,he,q⟩:=h;cases m;obtain⟨t,rfl⟩:=o;obtain⟨f,r,g,hz⟩:=I.list A;obtain⟨j,h1,B,M,C,E⟩:=rE he;obtain⟨w,l,G⟩:=r.get B;have J:=r.length;have N:=n8;have fin:EP X c σ Q w s:=⟨z,H,I,G,q⟩;by_cases h0:0<=i
 . have k:i.toNat=j:=by rw[seqIndex_of h0 E]at h1;exact Option.some.inj h1
   exact item_listR g.isList h0 (by omega) (by rw[k];simpa using l) fin hs
 . have k:(i+(f.toArray.size:Int)).toNat=j:=by rw[seqIndex_neg (by omega) C]at h1;rw[size_toArray,<-J];exact Option.some.inj h1
   exact subscriptTail_builtinR (x:=w) g.isList.typeIs slot_list_getitem.lookup (wpAny_getItem_list_neg (Q:=λr L=>r=w/\EP X c σ Q r L) g.isList (by omega) (by rw[size_toArray]<;>omega) (by omega) (by rw[k];simpa using l) ⟨rfl,fin⟩) hs
theorem K8:Wi X (aaW X.K):=by intro e slice c s σ H x y v u Q I g k h hs;obtain⟨p,xs,i,z,rfl,rfl,l,he,q⟩:=h;cases g;obtain⟨t,rfl⟩:=k;obtain⟨m,r,f,hz⟩:=I.tuple l;obtain⟨j,h1,o,G,J,L⟩:=rE he;obtain⟨w,A,B⟩:=r.get o;have C:=r.length;have M:=n8;have fin:EP X c σ Q w s:=⟨z,H,I,B,q⟩;exact subscriptTail_builtinR (x:=w) f.typeIs slot_tuple_getitem.lookup (getItem_tuple (j:=j) (Q:=λr E=>r=w/\EP X c σ Q r E) f (by omega) (by omega) (by rw[size_toArray,<-C];exact h1) (by simpa using A) ⟨rfl,fin⟩) hs
theorem wH(c:List Value)(n j:Nat)(u:Value):Obj.mapSeq (·.setIfInBounds j u) {cls:=.type "list",data:=.seq c.toArray n}={cls:=.type "list",data:=.seq (c.set j u).toArray n}:=by simp[Obj.mapSeq]
theorem Inv.lst{f:List (Addr×Obj)}{σ:St}{H:Hp}{s:Shared}{p:Addr}{xs:List V}(I:Inv X f σ H s)(h:H p=some (.lst xs)):∃(c:List Value)(n:Nat),Vals xs c/\s.heap.get? p=some {cls:=.type "list",data:=.seq c.toArray n}/\xs.length<=sizeLine:=by obtain⟨z,c,n,r,e⟩:=I.hok p _ h;exact⟨c,n,r,e,z⟩
theorem Inv.O5{c:List (Addr×Obj)}{σ:St}{H:Hp}{s:Shared}{p:Addr}{xs ys:List V}{g its':List Value}{n i:Nat}{f:Obj->Obj}(I:Inv X c σ H s)(h:H p=some (.lst xs))(ho:s.heap.get? p=some {cls:=.type "list",data:=.seq g.toArray n})(j:f {cls:=.type "list",data:=.seq g.toArray n}={cls:=.type "list",data:=.seq its'.toArray i})(r:Vals ys its')(hz:ys.length<=sizeLine)(t:Nat):Inv X c σ (upd H p (.lst ys)) {s with heap:=s.heap.update p f,toks:=t}:=by
 have e:(s.heap.update p f).get? p=some {cls:=.type "list",data:=.seq its'.toArray i}:=by rw[Heap.get?_update_self f ho (by rw[j]<;>rfl),j]
 refine I.write (x:=p) (e:=p) (by rw[h];trivial) (.inl rfl) (λb u k q=>(get?_update_other _ _ (Ne.symm k)).trans q) ⟨_,e⟩ ?_;exact⟨hz,its',i,r,e⟩
def Us:V->V->V->Hp->(Hp->Prop)->Prop:=λo i v H Q=>∃p xs k j,o=.ref p/\i=.int k/\H p=some (.lst xs)/\gQ xs.length k=some j/\Q (upd H p (.lst (xs.set j v)))
theorem set_list:PB X Us:=by
 intro c s σ H o i v E iv u Q I z A B h;obtain⟨p,xs,k,j,rfl,rfl,l,C,q⟩:=h;cases z;obtain⟨t,rfl⟩:=A;obtain⟨e,n,r,ho,hz⟩:=I.lst l;obtain⟨h1,G,m,w⟩:=zc C;have f:=r.length;have J:=n8;have y:Inv X c σ (upd H p (.lst (xs.set j v))) {s with heap:=s.heap.update p (Obj.mapSeq (·.setIfInBounds j u))}:=I.O5 l ho (wH e n j u) (r.set B j) (by rw[List.length_set];exact hz) s.toks;by_cases h0:0<=k
 . have g:k.toNat=j:=by rw[seqIndex_of h0 w]at h1;exact Option.some.inj h1
   exact PySem.W.ki_setAt ho h0 (by omega) (by rw[size_toArray,<-f];exact w) (by rw[g];exact⟨_,y,q⟩)
 . have g:(k+(e.toArray.size:Int)).toNat=j:=by rw[seqIndex_neg (by omega) m]at h1;rw[size_toArray,<-f];exact Option.some.inj h1
   exact PySem.W.ki_setBack ho (by omega) (by rw[size_toArray,<-f];exact m) (by omega) (by rw[g];exact⟨_,y,q⟩)
theorem qM(lo hi:Option Int)(n:Nat):(sliceBounds lo hi none n).1=((HT.cI n 0 lo:Nat):Int)/\(sliceBounds lo hi none n).2.1=((HT.cI n n hi:Nat):Int)/\(sliceBounds lo hi none n).2.2=1:=by
 refine⟨?_,?_,rfl⟩;.cases lo with|none=>simp[sliceBounds,HT.cI]|some i=>
     simp only[sliceBounds,HT.cI,getD_none,show(1:Int)>0 by decide,if_true];by_cases h:i<0;.simp only[h,if_true]<;>omega
     .simp only[h,if_false]<;>omega
 .cases hi with|none=>simp[sliceBounds,HT.cI]|some i=>
     simp only[sliceBounds,HT.cI,getD_none,show(1:Int)>0 by decide,if_true];by_cases h:i<0;.simp only[h,if_true]<;>omega
     .simp only[h,if_false]<;>omega
theorem pB(c:List Value)(lo hi:Option Int):slicePick c.toArray lo hi none=((c.drop (HT.cI c.length 0 lo)).take (HT.cI c.length c.length hi-HT.cI c.length 0 lo)).toArray:=by obtain⟨h1,e,f⟩:=qM lo hi c.toArray.size;unfold slicePick;rw[h1,e,f];simp only[sliceRange_one,pick_run,size_toArray]<;>rfl
def YF(K:PySem.W.Frag):V->Option Int->Option Int->Hp->VK->Prop:=λx lo hi H Q=>∃a xs,x=.ref a/\dJ K H a xs/\∀p,H p=none->Q (.ref p) (upd H p (.lst (tU xs lo hi)))
theorem Ib:W5 X (YF X.K):=by intro e s σ H x v l m lo hi sl Q I f hs g i h;obtain⟨a,xs,rfl,j,q⟩:=h;cases f;obtain⟨k,r,ht,hz⟩:=I.list j;have c:=r.length;refine⟨"list",_,slot_list_getitem.lookup,ht.isList.typeIs,?_⟩;refine wpAny_getItem_list_slice ht.isList hs g i .none (by simp) ?_ (by rw[size_toArray]<;>omega);rw[pB,<-c];refine⟨.ref s.heap.objs.size,_,I.laid (t':=s.toks) (o:=.lst (tU xs lo hi)) (λb p q=>gb q) (cL) ?_,rfl,q _ (I.hok.fresh (cL))⟩;exact⟨le_trans (lH xs lo hi) hz,_,0,(r.drop (HT.cI xs.length 0 lo)).take (HT.cI xs.length xs.length hi-HT.cI xs.length 0 lo),get?_push_size _ rfl⟩
noncomputable def ji:V->Bool|.non=>true|.bl _=>true|.int _=>true|.str _=>true|_=>false
noncomputable def G8:V->V->Bool|.non,.non=>true|.bl a,.bl b=>a==b|.bl a,.int b=>(if a then 1 else 0)==b|.int a,.bl b=>a==(if b then 1 else 0)|.int a,.int b=>a==b|.str a,.str b=>a==b|_,_=>false
theorem PK{A:Around}{y:V}{u v:Value}(e:RelV y u)(c:RelV x v)(g:ji y=true)(f:ji x=true):SeqAt.EqAt A s u v (G8 y x):=by cases y with
 |non=>cases e;cases x with|non=>cases c;exact SeqAt.EqAt.same _|bl b=>cases c;exact none_bool b|int b=>obtain⟨t,rfl⟩:=c;exact none_int b t|str b=>obtain⟨t,rfl⟩:=c;exact none_str b t|_=>exact absurd (show false=true from f) Bool.false_ne_true
 |bl a=>cases e;cases x with|non=>cases c;exact bool_none a|bl b=>cases c;exact bool_bool a b|int b=>obtain⟨t,rfl⟩:=c;exact bool_int a b t|str b=>obtain⟨t,rfl⟩:=c;exact bool_str a b t|_=>exact absurd (show false=true from f) Bool.false_ne_true
 |int a=>obtain⟨t',rfl⟩:=e;cases x with|non=>cases c;exact int_none a t'|bl b=>cases c;exact int_bool a t' b|int b=>obtain⟨t,rfl⟩:=c;exact int_int a t' b t|str b=>obtain⟨t,rfl⟩:=c;exact int_str a t' b t|_=>exact absurd (show false=true from f) Bool.false_ne_true
 |str a=>obtain⟨t',rfl⟩:=e;cases x with|non=>cases c;exact str_none a t'|bl b=>cases c;exact str_bool a t' b|int b=>obtain⟨t,rfl⟩:=c;exact str_int a t' b t|str b=>obtain⟨t,rfl⟩:=c;exact str_str a t' b t|_=>exact absurd (show false=true from f) Bool.false_ne_true
 |_=>exact absurd (show false=true from g) Bool.false_ne_true
noncomputable def wI(x:V)(u:Value):Bool:=match u with|.none=>G8 .non x|.bool b=>G8 (.bl b) x|.int i _=>G8 (.int i) x|.str z _=>G8 (.str z) x|_=>false
theorem Dh{y:V}{u:Value}(r:RelV y u)(f:ji y=true):wI x u=G8 y x:=by cases y with|non=>cases r;rfl|bl b=>cases r;rfl|int i=>obtain⟨t,rfl⟩:=r;rfl|str z=>obtain⟨t,rfl⟩:=r;rfl|_=>exact absurd (show false=true from f) Bool.false_ne_true
theorem jD{x:V}:∀{xs:List V}{c:List Value},Vals xs c->xs.all ji=true->c.any (wI x)=xs.any λy=>G8 y x|_,_,.nil,_=>rfl|y::xs,u::c,.cons r t,f=>by rw[all_cons,and_eq_true]at f;rw[any_cons,any_cons,Dh r f.1,jD t f.2]
theorem il{A:Around}{s:Shared}{x:V}{v:Value}(e:RelV x v)(g:ji x=true):∀{xs:List V}{c:List Value},Vals xs c->xs.all ji=true->∀u∈c,SeqAt.EqAt A s u v (wI x u)
 |_,_,.nil,_=>λu hu=>by cases hu|y::xs,u::c,.cons r t,f=>λh hu=>by
   rw[all_cons,and_eq_true]at f;rcases mem_cons.mp hu with rfl|hu;.rw[Dh r f.1];exact PK r e f.1 g
   .exact il e g t f.2 h hu
noncomputable def inV(x:V)(xs:List V):Bool:=xs.any λy=>G8 y x
def rIn(K:PySem.W.Frag)(neg:Bool):R2:=λx y H Q=>∃p xs,y=.ref p/\(dJ K H p xs\/jg K H p xs)/\ji x=true/\xs.all ji=true/\Q (.bl (if neg then !inV x xs else inV x xs)) H
theorem Aq:fH X (compareOp .In) (rIn X.K false):=by
 intro g s σ H x y v u Q I i k h;obtain⟨p,xs,rfl,hq,j,fs,q⟩:=h;cases k;rcases hq with hq|hq;.obtain⟨c,r,e,hz⟩:=I.list hq;refine SeqAt.in_listAt (wI x) e.isList (λw f=>il i j r fs w (by simpa using f)) ⟨.bl _,H,I,rfl,?_⟩;rw[show c.toArray.any (wI x)=c.any (wI x)by simp,jD r fs];exact q
 .obtain⟨c,r,e,hz⟩:=I.tuple hq;refine SeqAt.in_tupleAt (wI x) e (λw f=>il i j r fs w (by simpa using f)) ⟨.bl _,H,I,rfl,?_⟩;rw[show c.toArray.any (wI x)=c.any (wI x)by simp,jD r fs];exact q
theorem sH:fH X (compareOp .NotIn) (rIn X.K true):=by
 intro g s σ H x y v u Q I i k h;obtain⟨p,xs,rfl,hq,j,fs,q⟩:=h;cases k;rcases hq with hq|hq;.obtain⟨c,r,e,hz⟩:=I.list hq;refine SeqAt.notIn_listAt (wI x) e.isList (λw f=>il i j r fs w (by simpa using f)) ⟨.bl _,H,I,rfl,?_⟩;rw[show c.toArray.any (wI x)=c.any (wI x)by simp,jD r fs];exact q
 .obtain⟨c,r,e,hz⟩:=I.tuple hq;refine SeqAt.notIn_tupleAt (wI x) e (λw f=>il i j r fs w (by simpa using f)) ⟨.bl _,H,I,rfl,?_⟩;rw[show c.toArray.any (wI x)=c.any (wI x)by simp,jD r fs];exact q
theorem sG:dj X (.builtin "len") (λxs H Q=>∃p ys,xs=[.ref p]/\(dJ X.K H p ys\/jg X.K H p ys)/\Q (.int ys.length) H):=by
 intro i s σ H xs k Q I r h;obtain⟨p,ys,rfl,hq,q⟩:=h;obtain⟨u,rfl,j⟩:=vals1 r;cases j;have l:=n8;rcases hq with hq|hq;.obtain⟨e,f,g,hz⟩:=I.list hq;have c:=f.length;exact Calls.call_len_list g.isList (by simp only[size_toArray]<;>omega) ⟨.int ys.length,H,I.tok _,⟨s.toks+1,by rw[size_toArray,c]⟩,q⟩
 .obtain⟨e,f,g,hz⟩:=I.tuple hq;have c:=f.length;exact len_tuple g (by simp only[size_toArray]<;>omega) ⟨.int ys.length,H,I.tok _,⟨s.toks+1,by rw[size_toArray,c]⟩,q⟩
theorem rN:dj X (.type "list") (λxs H Q=>∃p ys,xs=[.ref p]/\(dJ X.K H p ys\/jg X.K H p ys)/\∀l,H l=none->Q (.ref l) (upd H l (.lst ys))):=by
 intro i s σ H xs v Q I r h;obtain⟨p,ys,rfl,hq,q⟩:=h;obtain⟨u,rfl,t⟩:=vals1 r;cases t;have fin:∀(c:List Value),Vals ys c->ys.length<=sizeLine->∀(h':Heap)(f:Nat),(∀b m,s.heap.get? b=some m->h'.get? b=some m)->h'.get? s.heap.objs.size=some {cls:=.type "list",dict:=none,data:=.seq c.toArray f,slots:=#[]}->EP X i σ Q (.ref s.heap.objs.size) {s with heap:=h'}:=λc g hz h' f kp e=>⟨.ref s.heap.objs.size,_,I.laid (t':=s.toks) kp (cL) (show bj X.prog X.w _ h' _ (.lst ys)from⟨hz,c,f,g,e⟩),rfl,q _ (I.hok.fresh (cL))⟩;rcases hq with hq|hq;.obtain⟨c,g,k,hz⟩:=I.list hq;have j:=g.length;obtain⟨o,ho,hc,n,hd⟩:=k.isList;exact call_list_seq p (.inl rfl) ho hc hd (λh' f kp e=>fin c g hz h' f kp e) (by simp only[size_toArray]<;>omega)
 .obtain⟨c,g,k,hz⟩:=I.tuple hq;have j:=g.length;obtain⟨o,ho,hc,n,hd⟩:=k;exact call_list_seq p (.inr rfl) ho hc hd (λh' f kp e=>fin c g hz h' f kp e) (by simp only[size_toArray]<;>omega)
theorem jj:dj X (.type "tuple") (λxs H Q=>∃p ys,xs=[.ref p]/\((dJ X.K H p ys/\∀l,H l=none->Q (.ref l) (upd H l (.tup ys)))\/(jg X.K H p ys/\Q (.ref p) H))):=by
 intro c s σ H xs y Q I r h;obtain⟨p,ys,rfl,h⟩:=h;obtain⟨u,rfl,t⟩:=vals1 r;cases t;rcases h with⟨g,q⟩|⟨g,q⟩;.obtain⟨f,i,j,hz⟩:=I.list g;have k:=i.length;refine call_tuple_list j.isList (λh' kp=>?_) (by simp only[size_toArray]<;>omega);have m:Inv X c σ H {s with heap:=h'}:=I.kept (t':=s.toks) kp;have v:Inv X c σ (upd H h'.objs.size (.tup ys)) {s with heap:=h'.push {cls:=.type "tuple",data:=.seq f.toArray}}:=m.laid (t':=s.toks) (λb o e=>gb e) (cL) (show bj X.prog X.w _ _ _ (.tup ys)from⟨hz,f,i,IsTup.new _ _⟩);exact⟨.ref h'.objs.size,_,v,rfl,q _ (m.hok.fresh (cL))⟩
 .obtain⟨f,i,j,hz⟩:=I.tuple g;exact call_tuple_same j ⟨.ref p,H,I,rfl,q⟩
def tyV(K:PySem.W.Frag)(T:String)(x:V)(H:Hp):Prop:=match x with|.str _=>T="str"|.int _=>T="int"|.ref p=>(T="list"/\∃xs,dJ K H p xs)\/(T="tuple"/\∃o,K.lookup p=some o/\o.cls=.type "tuple"/\o.dict=none)\/(T="dict"/\((∃kvs,H p=some (.dK kvs))\/∃kvs,H p=some (.dT kvs)))\/(T="set"/\∃S n,H p=some (.set S n))|_=>False
theorem Pn{g:List (Addr×Obj)}{σ:St}{H:Hp}{T:String}{v:Value}(I:Inv X g σ H s)(r:RelV x v)(ty:tyV X.K T x H):
 s.TypeIs v T/\∀a,v=.ref a->∃j,s.heap.get? a=some j/\j.dict=none:=by cases x with|str z=>obtain⟨t,rfl⟩:=r;cases(show T="str"from ty);exact⟨typeIs_str s z t,λ_ e=>nomatch e⟩|int i=>obtain⟨t,rfl⟩:=r;cases(show T="int"from ty);exact⟨typeIs_int s i t,λ_ e=>nomatch e⟩|ref p=>
   cases r;rcases ty with⟨rfl,xs,l⟩|⟨rfl,o,f,hc,hd⟩|⟨rfl,f⟩|⟨rfl,S,n,f⟩;.obtain⟨m,_,k,_⟩:=I.list l;refine⟨k.isList.typeIs,λa e=>?_⟩;cases e;obtain⟨o,n,e,c,hd,_⟩:=k;exact⟨o,e,hd⟩
   .refine⟨⟨o,I.Qi p o f,hc⟩,λa e=>?_⟩;cases e;exact⟨o,I.Qi _ o f,hd⟩
   . have z:∃o,s.heap.get? p=some o/\o.ExactDict:=by
      rcases f with⟨kvs,f⟩|⟨kvs,f⟩;.obtain⟨_,_,_,_,o,_,_,e,ex,_⟩:=I.hok p _ f;exact⟨o,e,ex⟩
      .obtain⟨_,_,_,_,o,_,_,e,ex,_⟩:=I.hok p _ f;exact⟨o,e,ex⟩
     obtain⟨o,e,ex⟩:=z;refine⟨⟨o,e,ex.1⟩,λa h=>?_⟩;cases h;exact⟨o,e,ex.2.1⟩
   .obtain⟨o,_,_,_,e,ex,_⟩:=I.hok p _ f;refine⟨⟨o,e,ex.1⟩,λa h=>?_⟩;cases h;exact⟨o,e,ex.2.1⟩|_=>exact False.elim ty
def tBM(K:PySem.W.Frag)(T:String)(r:V->List V->Hp->VK->Prop)(to:TE)(t:TA):TE:=λσ H Q=>to σ H λx c=>tyV K T x c/\t σ c λxs e=>r x xs e Q
variable{o e:Expr}{es:List Expr}{to:TE}{t:TA}{name:Str}{apos cpos:Pos}{T id:String}{r:V->List V->Hp->VK->Prop}
theorem yZ(m:PlainAttrs T)(slot:Slot T name id)(k:typeOf (.builtin id)=pure (.type "method_descriptor"))(p:MtR X id r)(ho:PE X o to)(q:PA X (e::es) t)(g:attributeBase o name X.env (eval o X.env)=eval o X.env:=by rfl)(j:((backTo cpos (starEach (e::es) X.env)).all (λx=>!x.1)&&(backToKw cpos (keywordEach [] X.env)).all (λx=>x.1.isSome)&&decide ((e::es).length+([]:List Keyword).length+(if([]:List Keyword).isEmpty then 0 else 1)<30))=true:=by rfl)(i:(apos.endLine==cpos.line)=true:=by rfl)(hs:starEach (e::es) X.env=(false,eval e X.env)::starEach es X.env:=by rfl)(f:(backTo cpos (starEach es X.env)).any (·.1)=false:=by rfl):PE X (.Call (.Attribute o name apos) (e::es) [] cpos) (tBM X.K T r to t):=by intro c s σ H Q I h;refine wpAny_Call_method_late g j i rfl (bH (ho c s σ H _ I h) λv s1⟨x,H1,I1,r1,ty,q1⟩=>?_);obtain⟨h1,u⟩:=Pn I1 r1 ty;refine⟨T,id,m,slot,k,h1,u,?_⟩;have l:=q cpos c s1 σ H1 _ I1 q1;rw[hs]at l ⊢;refine Calls.callWith_builtin (by show(false||(backTo cpos (starEach es X.env)).any (·.1))=false;rw[f]<;>rfl) (Calls.evalArgs_plain ?_);exact bH l λw s2⟨vs,H2,I2,r2,q2⟩=>p c s2 σ H2 x vs v w Q I2 r1 r2 q2
end
def MtM(X:Cx)(id:String)(r:V->List V->Hp->VK->Prop):Prop:=∀(a:List (Addr × Obj))(s:Shared)(σ:St)(H:Hp)(x:V)(xs:List V)(v:Value)(b:List Value)(Q:VK),Inv X a σ H s->RelV x v->Vals xs b->r x xs H Q->wpAny (model X.prog X.w) X.A (call (.builtin id) (v::b)) (EP X a σ Q) X.xe s
theorem Vals.one:∀{x:V}{a:List Value},Vals [x] a->∃u,a=[u]/\RelV x u|x,a,h=>by cases h with|cons r t=>cases t;exact⟨_,rfl,r⟩
theorem Vals.two:∀{x y:V}{a:List Value},Vals [x,y] a->∃u v,a=[u,v]/\RelV x u/\RelV y v|x,y,a,h=>by cases h with|cons r t=>cases t with|cons q z=>cases z;exact⟨_,_,rfl,r,q⟩
theorem Vals.reverse{xs:List V}{a:List Value}(h:Vals xs a):Vals xs.reverse a.reverse:=by induction h with|nil=>exact .nil|cons r t b=>rw[reverse_cons,reverse_cons];exact Vals.append b (.cons r .nil)
theorem Vals.rep{xs:List V}{a:List Value}(h:Vals xs a):∀k:Nat,Vals (replicate k xs).flatten (replicate k a).flatten|0=>.nil|k+1=>by rw[replicate_succ,replicate_succ,flatten_cons,flatten_cons];exact Vals.append h (Vals.rep h k)
theorem foldl_rep(a:List Value):∀(k:Nat)(b:List Value),foldl (λc f=>c++f) b.toArray (replicate k a.toArray)=(b++(replicate k a).flatten).toArray
 |0,b=>by simp|k+1,b=>by
   have e:b.toArray++a.toArray=(b++a).toArray:=by simp
   have g:(b++a)++(replicate k a).flatten=b++(replicate (k+1) a).flatten:=by rw[replicate_succ,flatten_cons,append_assoc]
   rw[<-g,<-foldl_rep a k (b++a),<-e,replicate_succ,List.foldl_cons]
section
variable{X:Cx}{pins:List (Addr×Obj)}{σ:St}{H:Hp}{s:Shared}{l b:Addr}{xs ys zs:List V}
theorem Inv.SM{a its':List Value}{f:Array Value->Array Value}{t':Nat}(I:Inv X pins σ H s)(c:H l=some (.lst xs))(e:s.heap.get? l=some {cls:=.type "list",data:=.seq a.toArray n})(g:f a.toArray=its'.toArray)(h:Vals ys its')(hz:ys.length<=sizeLine):Inv X pins σ (upd H l (.lst ys)) {s with heap:=s.heap.update l (Obj.mapSeq f),toks:=t'}:=by have q:=PySem.IsL.update e f;rw[g]at q;refine I.write (x:=l) (e:=l) (by rw[c];exact trivial) (.inl rfl) (λk u i j=>(get?_update_other s.heap (Obj.mapSeq f) (Ne.symm i)).trans j) ⟨_,q⟩ ?_;exact⟨hz,its',_,h,q⟩
theorem Inv.Pu{a:List Value}{t':Nat}(I:Inv X pins σ H s)(c:Vals ys a)(hz:ys.length<=sizeLine):Inv X pins σ (upd H s.heap.objs.size (.lst ys)) {s with heap:=s.heap.push {cls:=.type "list",data:=.seq a.toArray},toks:=t'}:=I.laid (λ_ _ q=>gb q) (cL) ⟨hz,a,0,c,get?_push_size _ rfl⟩
theorem Inv.fresh(I:Inv X pins σ H s):H s.heap.objs.size=none:=I.hok.fresh (cL)
theorem Inv.Qt(I:Inv X pins σ H s)(c:H l=some (.lst xs)):xs.length<=sizeLine/\∃(a:List Value)(n:Nat),Vals xs a/\xs.length=a.length/\s.heap.get? l=some {cls:=.type "list",data:=.seq a.toArray n}:=by obtain⟨z,a,n,r,e⟩:=I.hok l _ c;exact⟨z,a,n,r,r.length,e⟩
theorem ue(h:n<=sizeLine):listTooLong n=false:=by unfold listTooLong;exact decide_eq_false (by omega)
end
section
variable{X:Cx}
def Ii:V->List V->Hp->VK->Prop:=λx vs H Q=>∃l xs y,x=.ref l/\vs=[y]/\H l=some (.lst xs)/\xs.length<sizeLine/\Q .non (upd H l (.lst (xs++[y])))
theorem lz:MtM X "list.append" Ii:=by intro b s σ H x vs v j Q I f g h;obtain⟨l,xs,y,rfl,rfl,c,hz,q⟩:=h;cases f;obtain⟨u,rfl,i⟩:=g.one;obtain⟨z,a,n,r,k,e⟩:=I.Qt c;refine call_meets F.slot_list_append ⟨_,e,rfl⟩ F.entry_list_append (F.args_list_append_2 _ _) (PySem.list_append l a.toArray n u (by rw[size_toArray];omega)) ⟨e,?_⟩;refine⟨.non,_,I.SM (its':=a++[u]) c e (by simp) (r.append (.cons i .nil)) ?_,rfl,q⟩;rw[length_append,List.length_singleton];omega
def GK:V->List V->Hp->VK->Prop:=λx vs H Q=>∃l b xs a,x=.ref l/\vs=[.ref b]/\H l=some (.lst xs)/\H b=some (.lst a)/\xs.length+a.length<=sizeLine/\Q .non (upd H l (.lst (xs++a)))
theorem Av:MtM X "list.extend" GK:=by
 intro f s σ H x vs v A Q I i j h;obtain⟨l,b,xs,B,rfl,rfl,g,k,hz,q⟩:=h;cases i;obtain⟨u,rfl,m⟩:=j.one;cases m;obtain⟨z,c,n,r,C,e⟩:=I.Qt g;obtain⟨E,a,o,p,t,w⟩:=I.Qt k;have hsz:c.toArray.size+a.toArray.size<=sizeLine:=by rw[size_toArray,size_toArray];omega
 have y:¬(!c.toArray.isEmpty&&listTooLong (c.toArray.size+a.toArray.size))=true:=by rw[ue hsz,Bool.and_false];exact Bool.false_ne_true
 refine call_meets F.slot_list_extend ⟨_,e,rfl⟩ F.entry_list_extend (F.args_list_extend_2 _ _) (AutoSeq1.list_extend_list_list_0 l c.toArray n b a.toArray o y (by rw[size_toArray];omega) (by omega)) ⟨e,w,?_⟩;refine⟨.non,_,I.SM (its':=c++a) g e (by simp) (r.append p) ?_,rfl,q⟩;rw[length_append];omega
theorem len_rep{a:Type}(xs:List a)(k:Nat):(replicate k xs).flatten.length=k*xs.length:=by induction k with|zero=>simp|succ k b=>rw[replicate_succ,flatten_cons,length_append,b,Nat.succ_mul,Nat.add_comm]
end
end L2
namespace Yo
open PySem PySem.W PySem.Calls PyProof.Rows
theorem lW{P:Params}{h:Heap}:∀(ns:List Int)(vs:List Value),WellAll P h vs (ns.map WData.int)->IntsAre vs ns:=by intro ns;induction ns with|nil=>intro vs w;rw[map_nil]at w;cases w;exact .nil|cons n ns c=>intro vs w;rw[map_cons]at w;cases w with|cons a b=>cases a;exact .cons _ _ (c _ b)
theorem Ah{l:OpenLaw}{n:Nat}(m:l.most=some n){P:Params}{h:Heap}{args:List WData}{b:List Value}(c:l.row.toRowW.claim.pre args=true)(j:WellAll P h b args):∃a vs ns,b=[Value.ref a]/\args=[WData.list (ns.map WData.int)]/\h.get? a=some {cls:=.type "list",data:=.seq vs.toArray}/\IntsAre vs ns/\ns.length<=n:=by
 have k:WShape.hasAll [] args [.list .int]=true:=(pre_splitW c).1;have hc:l.pre.holds [] {args:=args}=true:=(pre_splitW c).2;obtain⟨d,r,rfl,h1,o⟩:=hasAllW_cons k;obtain rfl:=hasAllW_nil o;obtain⟨xs,rfl,p⟩:=hasW_list h1;obtain⟨ns,rfl⟩:=items_int p;have e:ns.length<=n:=by
  unfold OpenLaw.pre at hc;have g:(WTm.not (.lt (.lit (.int (n:Int))) (.len (.arg 0)))).holds [] {args:=[.list (ns.map .int)]}=true:=by have g:=(holds_andW hc).1;rw[m]at g;exact g
  have i:=condW_of g (w_not (w_lt w_lit (w_len_list (w_arg rfl))));rw[length_map]at i;refine Nat.le_of_not_lt λq=>?_;have s:(n:Int)<((ns.length:Nat):Int):=by omega
  first|(rw[decide_eq_true s]at i;exact absurd i (by decide))|(simp at i;omega)
 cases j with|cons t u=>cases u;cases t with|list ho f=>exact⟨_,_,ns,rfl,rfl,ho,lW ns _ f,e⟩
theorem Ai(l:OpenLaw)(args:List WData):l.row.toRowW.claim.post args (.bool true) args=true:=postW_of (r:=l.row.toRowW) (X:=(true==true)) (show WShape.has [] (.bool true) .bool=true by first|rfl|decide|simp[WShape.has,WShape.arms,WShape.armsAll]) (show(WTm.eq .res (.lit (.bool true))).value [] {args:=args,res:=some (.bool true),after:=args}=some (.bool (true==true))from w_eq_bool (w_res rfl) w_lit) rfl
theorem uK{l:OpenLaw}{n:Nat}{q:Program}{c:List Str}{z:(Str->Option Value)->Heap->Prop}{A:World->Heap->Prop}{d:DefRec}(H:l.most=some n)(s:d.params.defaults=[])(call:∀(w:World)(s₀ b:Shared)(mg t:Str->Option Value)(h:Addr)(o:Obj)(u m e:Value)(a:Addr)(vs:List Value)(ns:List Int),Ground q c [] z w s₀ mg t b.heap->A w b.heap->b.heap.get? h=some o->o.data=.func (docDef d.name d.params d.body d.scope u m e)->b.heap.CodeRec m d.name->mg d.name=some (.ref h)->b.heap.get? a=some {cls:=.type "list",data:=.seq vs.toArray}->IntsAre vs ns->ns.length<=n->b.gens=#[]->codeAny (model l.prog w) callerA (.call (.ref h) ⟨[.ref a],[]⟩) (λr p=>r=.ok (.ret (.bool true))/\OldK b.heap p.heap/\p.os=b.os/\AllBare p.gens) b):WalkO q c z A l.row.toRowW d [] (λf vs=>PySem.call f vs):=by intro w s₀ b mg t G Y h o u m e I kV ho hd v B x J args C as i E L y M;obtain rfl:I=.none:=Dflts.none B s;obtain rfl:kV=.none:=Dflts.noKw B;obtain⟨a,vs,ns,rfl,rfl,j,g,k⟩:=Ah H i y;refine enter_call (codeAny_mono (call w s₀ b mg t h o u m e a vs ns G Y ho (fd_plain hd) v x j g k J) λr p N=>?_);obtain⟨rfl,O,Q,U⟩:=N;exact⟨.inl ⟨.bool true,.bool true,[],rfl,λ_=>rfl,.bool true,Ai l _,λ_=>⟨List.Pairwise.nil,λ_ W=>(nomatch W)⟩⟩,O,Q,U⟩
end Yo
namespace L2
open PySem PySem.Spec PyProof.Rows
theorem qt:∀{vs:List Value}{ns:List Int},IntsAre vs ns->Vals (ns.map V.int) vs|_,_,.nil=>.nil|_,_,.cons n t h=>.cons ⟨t,rfl⟩ (qt h)
def Only(H:Hp):Prop:=∀b,H b=none\/∃o xs,H b=some (.cG o (.lst xs))
theorem Cp{P:Program}{w:World}{K:PySem.W.Frag}{mg G:Str->Option Value}{CX:Dk}{k:Nat}{I a:Addr}{fd:FuncData}{x:Str}{sp:Sp}{c:Shared}{vs:List Value}{ns:List Int}(M:K.In c.heap)(l:c.heap.Ns mainGlobals mg)(f:c.heap.Ns builtinsNs G)(J:∀x:Str,x≠"__name__"->G x=bootBuiltins x)(p:c.heap.NoLimit)(Z:c.gens=#[])(C:c.heap.get? a=some {cls:=.type "list",data:=.seq vs.toArray})(hi:IntsAre vs ns)(N:ns.length<=sizeLine)(hr:iy k callerA)(F:∀base:Heap,K.In base->base.Ns mainGlobals mg->kZ P w K mg base CX k I fd [x] sp)(j:∀(s:Shared)(u:Value),BindsTo s fd ⟨[u],[]⟩ [(x,u)])(hsp:∀H:Hp,Only H->dJ K H a (ns.map V.int)->sp [.ref a] H (λv _=>v=.bl true) λ_ _ _=>False)(VN:∀H e g,CX [] H c (λ_ _ _=>False) e g->False):codeAny (model P w) callerA (.call (.ref I) ⟨[.ref a],[]⟩) (λr g=>r=.ok (.ret (.bool true))/\OldK c.heap g.heap/\g.os=c.os/\AllBare g.gens) c:=by
 have O:=qt hi;have t:=hi.length--from an abstract heap in which nothing but the script may be tracked
 have i:∀H:Hp,Only H->dJ K H a (ns.map V.int)->j6 P w H c.heap->(∀b,H b≠none->b=a)->(H a≠none->K.lookup a=none)->codeAny (model P w) callerA (.call (.ref I) ⟨[.ref a],[]⟩) (λr g=>r=.ok (.ret (.bool true))/\OldK c.heap g.heap/\g.os=c.os/\AllBare g.gens) c:=by
  intro H Q hS hok U hK;have X:∀{b:Addr}{o:Obj},c.heap.get? b=some o->H b=none->(rP c.heap H).get? b=some o:=λe n=>Bu e n;have VL:∀{b:Addr}{o:Obj}{es:Array DictEntry}{ep:Nat},c.heap.get? b=some o->o.data=.dict es ep->H b=none:=λ{b o es ep}e d=>by cases q:H b with|none=>rfl|some u=>have L:b=a:=U b (by rw[q];simp);subst L;rw[C]at e;cases e;have d':Data.seq vs.toArray _=Data.dict es ep:=d;cases d'
  have E:∀{b:Addr}{m:Str->Option Value},c.heap.Ns b m->(rP c.heap H).Ns b m:=λ{b m}⟨o,es,ep,e,d,r⟩=>⟨o,es,ep,X e (VL e d),d,r⟩;have y:K.In (rP c.heap H):=λb o e=>X (M b o e) (by cases q:H b with|none=>rfl|some u=>have L:b=a:=U b (by rw[q];simp);subst L;rw[hK (by rw[q];simp)]at e;cases e);have hM:Mod K mg (rP c.heap H):=⟨y,E l,⟨G,E f,J⟩,let⟨mc,h1,h2⟩:=p;⟨mc,E h1,h2⟩⟩;have e0:Hn P w K mg (rP c.heap H) callerA [] c H:=⟨rfl,hM,λb o e=>Jj e,Nat.le_of_eq (zN _ _),trivial,λb f=>absurd (show b∈([]:List Addr)from f) (by simp),hok,.of_eq Z⟩;refine codeAny_mono ((F _ y (E l)).run callerA [] c H ⟨[.ref a],[]⟩ [.ref a] [.ref a] _ _ hr e0 (j c (.ref a)) (.cons rfl .nil) (hsp H Q hS)) λr g h=>?_;cases r with|error e=>exact(VN H e g h).elim|ok fl=>cases fl with|next=>exact False.elim h|brk=>exact False.elim h|cont=>exact False.elim h|ret u=>obtain⟨v,H',os,bare,un,A,r',q⟩:=h;have q':v=.bl true:=q;subst q';obtain rfl:u=Value.bool true:=r';refine⟨rfl,OldK.of_keep λb o e=>?_,os,bare⟩;cases q:H b with|none=>exact un.keep b o e q (by intro z;exact absurd (show b∈([]:List Addr)from z) (by simp)) (by simp)|some u=>
        rcases Q b with z|⟨ob,xs,z⟩;.rw[q]at z;cases z
        .have z2:=un.sU b ob _ z;obtain⟨Y,_⟩:=hok b _ z;obtain⟨e2,_⟩:=A b _ z2;rw[e]at Y;cases Y;exact e2
 cases hk:K.lookup a with|some o=>--the script is one of the module's own objects
   have e:=M a o hk;rw[C]at e;cases e;refine i (λ_=>none) (λ_=>.inl rfl) (.inr ⟨_,vs.toArray,_,hk,rfl,rfl,rfl,by rw[size_toArray,t];exact N,by simpa using O⟩) (λb u z=>by have B:(none:Option HO)=some u:=z;cases B) (λb z=>absurd rfl z) λz=>absurd rfl z|none=>
   refine i (λb=>if b=a then some (.cG {cls:=.type "list",data:=.seq vs.toArray} (.lst (ns.map V.int)))else none) (λb=>?_) (.inl (.inr ⟨{cls:=.type "list",data:=.seq vs.toArray},if_pos rfl⟩)) (λb u z=>?_) (λb z=>?_) λ_=>hk
   . by_cases f:b=a;.exact .inr ⟨_,_,if_pos f⟩
     .exact .inl (if_neg f)
   . by_cases f:b=a;.have B:=(if_pos f).symm.trans z;cases B;subst f;exact⟨C,by rw[length_map];exact N,vs,_,O,C⟩
     .have B:=(if_neg f).symm.trans z;cases B
   . by_cases f:b=a;.exact f
     .exact absurd (if_neg f) z
theorem Io{l:PySem.W.OpenLaw}{n k:Nat}{q:Program}{i:List Str}{E:(Str->Option Value)->Heap->Prop}{B:World->Heap->Prop}{d:DefRec}{K:Params->PySem.W.Frag}{CX:World->Dk}{sp:World->Sp}{x:Str}(I:l.most=some n)(t:n<=sizeLine)(y:d.params.defaults=[])(hr:iy k callerA)(J:∀(w:World)(h:Heap),B w h->(K w.params).In h)(F:∀(w:World)(mg:Str->Option Value)(r:Addr)(h:Heap),(K w.params).In h->h.Ns mainGlobals mg->mg d.name=some (.ref r)->∃ fd:FuncData,(∀(s:Shared)(u:Value),BindsTo s fd ⟨[u],[]⟩ [(x,u)])/\∀base:Heap,(K w.params).In base->base.Ns mainGlobals mg->kZ l.prog w (K w.params) mg base (CX w) k r fd [x] (sp w))(hsp:∀(w:World)(H:Hp)(a:Addr)(ns:List Int),ns.length<=n->Only H->dJ (K w.params) H a (ns.map V.int)->sp w [.ref a] H (λv _=>v=.bl true) λ_ _ _=>False)(L:∀(w:World)(H:Hp)(s:Shared)(e:Value)(z:Shared),CX w [] H s (λ_ _ _=>False) e z->False):PySem.W.WalkO q i E B l.row.toRowW d [] (λf vs=>PySem.call f vs):=by refine Yo.uK I y λw s₀ m mg mb r o pm cd M a vs ns G Y ho hd N A p j c O=>?_;have C:=J w _ Y;obtain⟨fd,Q,U⟩:=F w mg r _ C G.T.g A;exact Cp C G.T.g G.T.b G.T.builtins G.T.nolimit O p j (le_trans c t) hr U Q (λH X Z=>hsp w H a ns c X Z) λH e z=>L w H m e z
theorem Dl{l:PySem.W.OpenLaw}{n k:Nat}{q:Program}{b:List Str}{o:(Str->Option Value)->Heap->Prop}{j:World->Heap->Prop}{d:DefRec}{K:Params->PySem.W.Frag}{CX:Dk}{sp:PySem.W.Frag->Sp}{x:Str}(p:l.most=some n)(c:n<=sizeLine)(g:d.params.defaults=[])(hr:iy k callerA)(r:∀(w:World)(h:Heap),j w h->(K w.params).In h)(F:∀(w:World)(mg:Str->Option Value)(m:Addr)(h:Heap),(K w.params).In h->h.Ns mainGlobals mg->mg d.name=some (.ref m)->∃ fd:FuncData,(∀(s:Shared)(u:Value),BindsTo s fd ⟨[u],[]⟩ [(x,u)])/\∀base:Heap,(K w.params).In base->base.Ns mainGlobals mg->kZ l.prog w (K w.params) mg base CX k m fd [x] (sp (K w.params)))(hsp:∀(K:PySem.W.Frag)(H:Hp)(a:Addr)(ns:List Int),ns.length<=n->Only H->dJ K H a (ns.map V.int)->sp K [.ref a] H (λv _=>v=.bl true) λ_ _ _=>False)(t:∀(H:Hp)(s:Shared)(e:Value)(i:Shared),CX [] H s (λ_ _ _=>False) e i->False):PySem.W.WalkO q b o j l.row.toRowW d [] (λf vs=>PySem.call f vs):=Io (K:=K) (CX:=λ_=>CX) (sp:=λw=>sp (K w.params)) p c g hr r F (λw H a ns h1 y z=>hsp (K w.params) H a ns h1 y z) λ_ H s e i=>t H s e i
end L2
namespace L2
open PySem PySem.Spec PyProof.Rows
noncomputable def gC(s:Stmt):Arguments:=match s with|.FunctionDef _ a _ _ _ _ _ _ _ _=>a|_=>{posonlyargs:=[],args:=[],vararg:=none,kwonlyargs:=[],kw_defaults:=[],kwarg:=none,defaults:=[]}
noncomputable def dU(s:Stmt):List Stmt:=match s with|.FunctionDef _ _ b _ _ _ _ _ _ _=>b|_=>[]
noncomputable def aC(s:Stmt):Scope:=match s with|.FunctionDef _ _ _ _ _ _ a _ _ _=>a|_=>{kind:=.function,names:=[],isGenerator:=false,isCoroutine:=false}
abbrev CP:Dk:=λ_ _ _ _ _ _=>False
abbrev E0:XK:=λ_ _ _=>False
theorem Vi{X:Cx}:Passes CP X E0:=λ_ _ _ _ _ _ _ h=>h.elim
structure iZ(K:PySem.W.Frag)(x qual:Str)(st:Stmt)(f:Addr)(fd:FuncData):Prop where
 ex:∃(oc:Value)(od:Option Addr)(kV doc pm:Value)(an:Option Addr)(cdv ct:Value)(osl:Array (Option Value)),fd=PySem.W.fnOf x qual (gC st) (dU st) (aC st) .none kV doc pm an cdv ct/\K.lookup f=some ⟨oc,od,.func fd,osl⟩/\PySem.W.codeIn K cdv qual=true
 kp:keepIn K (.ref f)=true
section
variable{P:Program}{w:World}{K:PySem.W.Frag}{mg:Str->Option Value}{base:Heap}
theorem iZ.ok{x qual:Str}{st:Stmt}{f:Addr}{fd:FuncData}{N ps:List Str}{k:Nat}{sp:Sp}(F:iZ K x qual st f fd)(S:aL N ps (aC st))(len:∀vs H Q E,sp vs H Q E->vs.length=ps.length)(a:∀(cdv:Value)(A:Around)(outer:List Env)(s:Shared)(H:Hp)(vs:List V)(Q:VK)(E:XK),iy k (A.deeper (envOfC qual (aC st) s.heap.objs.size f cdv))->sp vs H Q E->∃t,uL (vV CP P w K mg base N qual (aC st) f cdv A outer s H E).TV (dU st) t/\t {nx:=λ_ c=>Q .non c,rt:=Q} (start N vs) H):kZ P w K mg base CP (k+1) f fd ps sp:=by obtain⟨oc,i,kV,e,j,l,cdv,ct,g,rfl,lk,b⟩:=F.ex;refine TF lk b S len λA outer s H vs Q E hr hsp=>?_;obtain⟨t,h,q⟩:=a cdv A outer s H vs Q E hr hsp;exact⟨t,h.TV,q⟩
theorem iZ.binds{x qual:Str}{st:Stmt}{f:Addr}{fd:FuncData}{ps:List Str}(F:iZ K x qual st f fd)(h:∀(kV a b:Value)(c:Option Addr)(cdv ct:Value)(e:List Value),e.length=ps.length->bindArgs (PySem.W.fnOf x qual (gC st) (dU st) (aC st) .none kV a b c cdv ct) ⟨e,[]⟩=pure (ps.zip e)):Binds K fd ps []:=by obtain⟨oc,j,kV,a,b,c,cdv,ct,g,rfl,lk,i⟩:=F.ex;exact .all (h kV a b c cdv ct)
theorem Oj{x qual:Str}{st:Stmt}{f:Addr}{oc:Value}{h e:Option Addr}{b:Array (Option Value)}{kV a g cdv ct:Value}(l:K.lookup f=some ⟨oc,h,.func (PySem.W.fnOf x qual (gC st) (dU st) (aC st) .none kV a g e cdv ct),b⟩)(c:PySem.W.codeIn K cdv qual=true)(k:keepIn K (.ref f)=true):iZ K x qual st f (PySem.W.fnOf x qual (gC st) (dU st) (aC st) .none kV a g e cdv ct):=⟨⟨oc,h,kV,a,g,e,cdv,ct,b,rfl,l,c⟩,k⟩
end
def aF(H a:Hp):Prop:=∀b o,H b=some o->a b=some o
theorem aF.refl(H:Hp):aF H H:=λ_ _ h=>h
theorem aF.trans{H e f:Hp}(a:aF H e)(b:aF e f):aF H f:=λc o h=>b c o (a c o h)
theorem aF.seq{K:PySem.W.Frag}{H b:Hp}{a:Addr}{xs:List V}(e:aF H b)(h:dJ K H a xs):dJ K b a xs:=by
 rcases h with(h|⟨o,h⟩)|h;.exact .inl (.inl (e _ _ h))
 .exact .inl (.inr ⟨o,e _ _ h⟩)
 .exact .inr h
end L2
end
section
namespace HH
open PySem
inductive Dc where|k(kvs:List (Int×Int))|t(kvs:List (List Int×Int))deriving DecidableEq
inductive D where|non|bl(b:Bool)|int(i:Int)|str(s:Str)|tup(ds:List D)|lst(ds:List D)|cH(m:Dc)|dv(ks:List Int)(ds:List D)deriving Inhabited
mutual
noncomputable def jd:D->D->Bool|.non,.non=>true|.bl a,.bl b=>a==b|.bl a,.int i=>(if a then(1:Int)else 0)==i|.int i,.bl a=>i==(if a then(1:Int)else 0)|.int i,.int j=>i==j|.str a,.str b=>a==b|.tup xs,.tup ys=>fu xs ys|.lst xs,.lst ys=>fu xs ys|.cH a,.cH b=>decide (a=b)|.dv a xs,.dv b ys=>decide (a=b)&&fu xs ys|_,_=>false
noncomputable def fu:List D->List D->Bool|[],[]=>true|x::xs,y::ys=>jd x y&&fu xs ys|_,_=>false
end
theorem pqi{i j}:jd (.int i) (.int j)=(i==j):=(rfl)
theorem pqt{x y}:jd (.tup x) (.tup y)=fu x y:=(rfl)
theorem Wr{x y}:jd (.lst x) (.lst y)=fu x y:=(rfl)
noncomputable def dh:Nat->D->Bool|_,.non=>true|_,.bl _=>true|_,.int _=>true|_,.str _=>true|0,.tup _=>false|0,.lst _=>false|_,.cH _=>false|_,.dv _ _=>false|n+1,.tup a=>a.all (dh n)|n+1,.lst a=>a.all (dh n)
inductive Sl where|aP|val(b:Bool)(d:D)|own(b:Bool)(ds:List D)|lent(ds:List D)|fC(m:Dc)|hold(rows:List (List D))|cA(kvs:List (Int×D))deriving Inhabited
inductive R where|val(d:D)|own(ds:List D)deriving Inhabited
noncomputable def R.d:R->D|.val d=>d|.own a=>.lst a
inductive Res(α:Type)where|ok(a:α)(ρ:List Sl)|exc(k:Nat)(ρ:List Sl)|stuck deriving Inhabited
noncomputable def Res.bind{b c:Type}(f:b->List Sl->Res c):Res b->Res c|.ok a ρ=>f a ρ|.exc _ _=>.stuck|.stuck=>.stuck
noncomputable def lift{b:Type}(o:Option b)(ρ:List Sl):Res b:=match o with|some a=>.ok a ρ|none=>.stuck
inductive Op where|add|sub|mul|fdiv|mod|pow|shl|shr|band|Az|Yq|abe deriving DecidableEq
inductive Cm where|eq|ne|lt|le|gt|ge|isN|Jz|inn|zu|isT|VP|leT deriving DecidableEq
inductive Ty where|int|bool|str|tuple|list|none deriving DecidableEq
inductive Lz where|len|list|tuple|min2|max2|xg|Gd|sum|int|zx|keys|R9|Yr|Ge deriving DecidableEq
inductive P where|var(i:Nat)|con(d:D)|bin(o:Op)(a b:P)|neg(a:P)|not(a:P)|and(a b:P)|or(a b:P)|cmp(o:Cm)(a b:P)|JB(c a b:P)|tup(as:List P)|lst(as:List P)|idx(a i:P)|slice(a lo hi:P)|call(f:Nat)(as:List P)|blt(b:Lz)(as:List P)|inst(ts:List Ty)(a:P)|comp(src:P)(n:Nat)(is:List Nat)(one:Bool)(test:Option P)(elt:P)|qG(a b:P)|zip(a b:P)|Sd(x:Nat)(k d:P)|vw(x:Nat)|KQ(x:Nat)(k:P)|KY(x:Nat)(k:P)(neg:Bool)|xj(k e:Int)|Sg(x:Nat)(e:P)deriving Inhabited
noncomputable abbrev lim:Nat:=16777216
noncomputable def o4:D->D->Option R|.int i,.int j=>some (.val (.int (i+j)))|.lst xs,.lst ys=>if xs.length+ys.length<=lim then some (.own (xs++ys))else none|.tup xs,.tup ys=>if xs.length+ys.length<=lim then some (.val (.tup (xs++ys)))else none|.str x,.str y=>if x.length+y.length<=lim then some (.val (.str (x++y)))else none|_,_=>none
noncomputable def jU:D->D->Option R|.int i,.int j=>if((-18446744073709551616<i/\i<18446744073709551616)\/(-18446744073709551616<j/\j<18446744073709551616))then some (.val (.int (i*j)))else none|.lst xs,.int k=>if 0<=k/\0<xs.length/\xs.length*k.toNat<=lim then some (.own (replicate k.toNat xs).flatten)else none|.tup xs,.int k=>if 0<=k/\0<xs.length/\xs.length*k.toNat<=lim then some (.val (.tup (replicate k.toNat xs).flatten))else none|_,_=>none
noncomputable def uw:D->D->Option R|.int i,.int j=>some (.val (.int (i-j)))|_,_=>none
noncomputable def oO:D->D->Option R|.int i,.int j=>if 0<j/\j<1606938044258990275541962092341162602522202993782792835301376 then some (.val (.int (i/j)))else none|_,_=>none
noncomputable def vg:D->D->Option R|.int i,.int j=>if 0<j then some (.val (.int (i%j)))else none|_,_=>none
noncomputable def uR:D->D->Option R|.int i,.int j=>if 0<=j/\j<=1000/\i.natAbs<18446744073709551616 then some (.val (.int (i^j.toNat)))else none|_,_=>none
noncomputable def CK:D->D->Option R|.int i,.int j=>if 0<=j/\j<=1000/\i.natAbs<18446744073709551616 then some (.val (.int (i*2^j.toNat)))else none|_,_=>none
noncomputable def Bq:D->D->Option R|.int i,.int j=>if 0<=j then some (.val (.int (i/2^j.toNat)))else none|_,_=>none
noncomputable def wM:D->D->Option R|.int i,.int j=>some (.val (.int (Builtin.bitAnd i j)))|_,_=>none
noncomputable def flat:D->Bool|.tup _=>false|.lst _=>false|.cH _=>false|.dv _ _=>false|_=>true
noncomputable def items:D->Option (List D)|.lst a=>some a|.tup a=>some a|_=>none
noncomputable def Om:D->Option (List D)|.tup a=>some a|_=>none
noncomputable def BR(x y:D):Option Bool:=if dh 8 x&&dh 8 y then some (jd x y)else none
noncomputable def Ck(x y:D):Option Bool:=if dh 8 x&&dh 8 y then some (!jd x y)else none
noncomputable def Gx(f:Int->Int->Bool):D->D->Option Bool|.int i,.int j=>some (f i j)|_,_=>none
noncomputable def ie:D->Bool|.non=>true|_=>false
noncomputable def Yb(neg:Bool)(x:D):D->Option Bool|.non=>some (if neg then !ie x else ie x)|_=>none
noncomputable def uI(neg:Bool)(x y:D):Option Bool:=(items y).bind λys=>if(flat x&&ys.all flat)=true then some (if neg then !(ys.any λy=>jd y x)else ys.any λy=>jd y x)else none
noncomputable def cmT(neg:Bool):D->D->Option Bool|.bl b,.bl true=>some (if neg then !b else b)|_,_=>none
noncomputable def aY:List Int->List Int->Bool|[],_::_=>true|i::is,j::js=>decide (i<j)||(decide (i=j)&&aY is js)|_,[]=>false
noncomputable def lY:D->Int|.int i=>i|_=>0
noncomputable def bY:D->List Int|.int i=>[i]|.tup a=>a.map lY|_=>[]
noncomputable def fB:D->Bool|.int _=>true|_=>false
noncomputable def Dc.get:Dc->D->Option (Option Int)|.k kvs,.int i=>some ((kvs.find? λa=>decide (a.1=i)).map (·.2))|_,_=>none
noncomputable def putD{κ:Type}[DecidableEq κ](kvs:List (κ×Int))(k:κ)(v:Int):List (κ×Int):=if(kvs.any λa=>decide (a.1=k))=true then kvs.map (λa=>if a.1=k then(a.1,v)else a)else kvs++[(k,v)]
noncomputable def Dc.put:Dc->D->Int->Option Dc|.k kvs,.int i,v=>if kvs.length<lim then some (.k (putD kvs i v))else none|_,_,_=>none
noncomputable def jr(kvs:List (Int×D))(k:Int):Option D:=(kvs.find? λp=>decide (p.1=k)).map (·.2)
noncomputable def fj(kvs:List (Int×D))(k:Int)(d:D):List (Int×D):=if(kvs.any λp=>decide (p.1=k))=true then kvs.map (λp=>if p.1=k then(p.1,d)else p)else kvs++[(k,d)]
noncomputable def tX(neg:Bool):D->D->Option R|.int k,.dv ks _=>some (.val (.bl (if neg then !ks.contains k else ks.contains k)))|_,_=>none
noncomputable def yF:D->D->Option R|.cH m,k=>(m.get k).bind λo=>o.map λv=>.val (.int v)|.dv ks a,.int k=>(jr (ks.zip a) k).map .val|_,_=>none
noncomputable def pD:Op->D->D->Option R|.add=>o4|.mul=>jU|.sub=>uw|.fdiv=>oO|.mod=>vg|.pow=>uR|.shl=>CK|.shr=>Bq|.band=>wM|.Az=>yF|.Yq=>tX false|.abe=>tX true
noncomputable def U6:D->D->Option Bool|.int i,.int j=>some (decide (i<j))|.tup xs,.tup ys=>if(xs.all fB&&ys.all fB)=true then some (aY (xs.map lY) (ys.map lY))else none|_,_=>none
noncomputable def aaT:D->D->Option Bool|.int i,.int j=>some (decide (i<=j))|.tup xs,.tup ys=>if(xs.all fB&&ys.all fB)=true then some (!aY (ys.map lY) (xs.map lY))else none|_,_=>none
noncomputable def cm:Cm->D->D->Option Bool|.eq=>BR|.ne=>Ck|.lt=>U6|.le=>Gx λi j=>decide (i<=j)|.leT=>aaT|.gt=>Gx λi j=>decide (j<i)|.ge=>Gx λi j=>decide (j<=i)|.isN=>Yb false|.Jz=>Yb true|.inn=>uI false|.zu=>uI true|.isT=>cmT false|.VP=>cmT true
noncomputable def uE(o:Cm)(x y:D):Option R:=(cm o x y).map λk=>.val (.bl k)
noncomputable def gQ(n:Nat)(i:Int):Option Nat:=if 0<=i then(if i<n then some i.toNat else none)else if-(n:Int)<=i then some (i+n).toNat else none
noncomputable def at'{a:Type}(xs:List a)(i:Int):Option a:=(gQ xs.length i).bind λj=>xs[j]?
noncomputable def cI(n d:Nat):Option Int->Nat|none=>d|some i=>if 0<=i then min i.toNat n else(i+n).toNat
noncomputable def cut{a:Type}(xs:List a)(lo hi:Option Int):List a:=(xs.drop (cI xs.length 0 lo)).take (cI xs.length xs.length hi-cI xs.length 0 lo)
noncomputable def dW:D->Option Int|.int i=>some i|_=>none
noncomputable def RQ:D->Option Bool|.bl b=>some b|_=>none
noncomputable def dl2(k e:Int)(x y:D):Option R:=(dW x).bind λi=>(dW y).bind λj=>if i=k then none else some (.val (.dv [k,i] [.int e,.int j]))
noncomputable def Js:D->D->Option R|.lst a,.int i=>(a.mapM dW).bind λns=>if i∈ns/\ns.length<=1000 then some (.val (.int (ns.idxOf i)))else none|_,_=>none
noncomputable def HX(x y:D):Option R:=(items x).bind λa=>(dW y).bind λi=>(at' a i).map .val
noncomputable def Ei(x:D):Option R:=(dW x).map λi=>.val (.int (-i))
noncomputable def Tf:P->Bool|.con .non=>true|_=>false
noncomputable def part(p:P)(d:D):Option (Option Int):=if Tf p then some none else(dW d).map some
noncomputable def JQ:D->Option (Option Int)->Option (Option Int)->Option R|.lst xs,some lo,some hi=>some (.own (cut xs lo hi))|.tup xs,some lo,some hi=>some (.val (.tup (cut xs lo hi)))|_,_,_=>none
noncomputable def bR:Ty->D->Bool|.int,.int _=>true|.int,.bl _=>true|.bool,.bl _=>true|.str,.str _=>true|.tuple,.tup _=>true|.list,.lst _=>true|.none,.non=>true|_,_=>false
noncomputable def uq:D->Bool|.tup (x::xs)=>(x::xs).all fB|_=>false
noncomputable def sortable(ds:List D):Bool:=decide (ds.length<=16777216)&&(ds.all fB||ds.all uq)
noncomputable def Ks(c:List D):List D:=c.mergeSort λa b=>!aY (bY b) (bY a)
noncomputable def Qo:D->Option (List D)|.lst a=>some a|_=>none
noncomputable def mC(p:Int×Int):D:=.tup [.int p.1,.int p.2]
noncomputable def blt:Lz->List D->Option R|.len,[x]=>(items x).map λc=>.val (.int c.length)|.list,[x]=>(items x).map λc=>.own c|.tuple,[x]=>(items x).map λc=>.val (.tup c)|.min2,[.int i,.int j]=>some (.val (.int (if j<i then j else i)))|.max2,[.int i,.int j]=>some (.val (.int (if i<j then j else i)))|.xg,[x]=>((items x).bind λc=>c.mapM dW).bind λns=>ns.min?.map λi=>.val (.int i)|.Gd,[x]=>((items x).bind λc=>c.mapM dW).bind λns=>ns.max?.map λi=>.val (.int i)|.sum,[x]=>((items x).bind λc=>c.mapM dW).map λns=>.val (.int ns.sum)|.int,[.int i]=>some (.val (.int i))|.int,[.bl b]=>some (.val (.int (if b then 1 else 0)))|.zx,[.lst c]=>if c.length<=16777216 then some (.own c)else none|.keys,[.cH (.k kvs)]=>some (.val (.tup (kvs.map λp=>.int p.1)))|.keys,[.dv ks _]=>some (.val (.tup (ks.map D.int)))|.R9,[.dv ks _]=>if ks.length<=16777216 then some (.own (ks.map D.int))else none|.Yr,[.lst c]=>some (.val (.tup c.reverse))|.Ge,[.cH (.k kvs)]=>if kvs.length<=16777216/\kvs.Pairwise (λa b=>a.1<b.1)then some (.own (kvs.map mC))else none|_,_=>none
noncomputable def pk(ρ:List Sl)(i:Nat):Option D:=match ρ[i]?with|some (.val _ d)=>some d|some (.own _ a)=>some (.lst a)|some (.lent a)=>some (.lst a)|_=>none
noncomputable def wC(ρ:List Sl)(i:Nat):Option (List D):=match pk ρ i with|some (.lst a)=>some a|_=>none
noncomputable abbrev Ev:=List Sl->Res R
noncomputable def isVar:P->Option Nat|.var i=>some i|_=>none
noncomputable def bK(i:Option Nat)(e:Ev)(ρ:List Sl):Res D:=match i with|some i=>lift (pk ρ i) ρ|none=>(e ρ).bind λr ρ=>.ok r.d ρ
noncomputable def jc(i:Option Nat)(e:Ev)(j:Option Nat)(f:Ev)(ρ:List Sl):Res (D×D):=match i with|some i=>(lift (pk ρ i) ρ).bind λ_ ρ=>(bK j f ρ).bind λy ρ=>(lift (pk ρ i) ρ).bind λx ρ=>.ok (x,y) ρ|none=>(bK none e ρ).bind λx ρ=>(bK j f ρ).bind λy ρ=>.ok (x,y) ρ
noncomputable def iR(e:Ev)(ρ:List Sl):Res Bool:=(e ρ).bind λr ρ=>lift (RQ r.d) ρ
inductive Arg where|dat(d:D)|tmp(ds:List D)|dI(i:Nat)
noncomputable def uV:R->Arg|.val d=>.dat d|.own a=>.tmp a
noncomputable def bA(ρ:List Sl):List Arg->List Nat->Option (List Sl)|[],_=>some []|.dat d::r,a=>(bA ρ r a).map λs=>.val false d::s|.tmp b::r,a=>(bA ρ r a).map λs=>.own false b::s|.dI i::r,a=>match ρ[i]?with|some (.val _ d)=>(bA ρ r a).map λs=>.val false d::s|some (.own _ b)=>if a.contains i then none else(bA ρ r (i::a)).map λs=>.own true b::s|some (.lent b)=>if a.contains i then none else(bA ρ r (i::a)).map λs=>.lent b::s|_=>none
noncomputable def aN(i:Nat):List Arg->List Sl->Option Sl|.dI k::as,s::ss=>if k=i then some s else aN i as ss|.dat _::as,_::ss=>aN i as ss|.tmp _::as,_::ss=>aN i as ss|_,_=>none
noncomputable def dq:Sl->Option Sl->Sl|.own b _,some (.own _ a)=>.own b a|.own b _,some (.val _ d)=>.val b d|s,_=>s
noncomputable def cB(as:List Arg)(ss:List Sl):Nat->List Sl->List Sl|_,[]=>[]|i,s::ρ=>dq s (aN i as ss)::cB as ss (i+1) ρ
noncomputable abbrev Call:=Nat->List Sl->Res R
noncomputable def m7(c:Call)(f:Nat)(as:List Arg)(ρ:List Sl):Res R:=match bA ρ as []with|none=>.stuck|some args=>match c f args with|.ok r a=>.ok r (cB as a 0 ρ)|.exc _ _=>.stuck|.stuck=>.stuck
noncomputable def put(ρ:List Sl)(i:Nat)(s:Sl):Option (List Sl):=match ρ[i]?with|some .aP=>some (ρ.set i s)|some (.val false _)=>some (ρ.set i s)|some (.own false _)=>some (ρ.set i s)|_=>none
noncomputable def putAll(ρ:List Sl):List Nat->List D->Option (List Sl)|[],[]=>some ρ|i::is,d::a=>(put ρ i (.val false d)).bind λρ=>putAll ρ is a|_,_=>none
noncomputable def bV(ρ:List Sl)(is:List Nat)(one:Bool)(d:D):Option (List Sl):=match one,is,d with|true,[i],d=>put ρ i (.val false d)|false,is,.tup a=>putAll ρ is a|_,_,_=>none
noncomputable def srcOf(i:Option Nat)(e:Ev)(ρ:List Sl):Res (List D):=match i with
 |some i=>match ρ[i]?with|some (.val _ d)=>lift (items d) ρ|some (.own _ a)=>.ok a (ρ.set i (.lent a))|some (.lent a)=>.ok a ρ|_=>.stuck
 |none=>(e ρ).bind λr ρ=>lift (items r.d) ρ
noncomputable def aX(a:List Sl)(i:Option Nat)(ρ:List Sl):List Sl:=match i with
 |some i=>match a[i]?with|some (.own b c)=>ρ.set i (.own b c)|_=>ρ
 |none=>ρ
noncomputable def srcY(i:Nat)(f:Ev)(ρ:List Sl):Res (List D×List Sl):=(f ρ).bind λr a=>(lift (items r.d) a).bind λes a=>match a[i]?with|some (.val _ d)=>(lift (items d) a).bind λb a=>.ok ((es.zip b).map λp=>D.tup [p.1,p.2],a) a|some (.own _ b)=>.ok ((es.zip b).map λp=>D.tup [p.1,p.2],a) (a.set i (.lent b))|some (.lent b)=>.ok ((es.zip b).map λp=>D.tup [p.1,p.2],a) a|_=>.stuck
noncomputable def turns(is:List Nat)(one:Bool)(a:List Sl->Res Bool)(e:Ev):List D->List D->List Sl->Res (List D)|[],c,ρ=>.ok c ρ|d::r,c,ρ=>match bV ρ is one d with|none=>.stuck|some ρ=>(a ρ).bind λb ρ=>if b then(e ρ).bind λx ρ=>turns is one a e r (c++[x.d]) ρ else turns is one a e r c ρ
mutual
noncomputable def ev(c:Call):P->List Sl->Res R
 |.var i,ρ=>match ρ[i]?with|some (.val _ d)=>.ok (.val d) ρ|some (.own b g)=>.ok (.val (.lst g)) (ρ.set i (.val b (.lst g)))|some (.fC (.k kvs))=>.ok (.val (.cH (.k kvs))) (ρ.set i (.val false (.cH (.k kvs))))|some (.cA kvs)=>.ok (.val (.dv (kvs.map (·.1)) (kvs.map (·.2)))) (ρ.set i (.val false (.dv (kvs.map (·.1)) (kvs.map (·.2)))))|_=>.stuck
 |.con d,ρ=>.ok (.val d) ρ|.bin o a b,ρ=>(jc (isVar a) (ev c a) (isVar b) (ev c b) ρ).bind λq ρ=>lift (pD o q.1 q.2) ρ|.neg a,ρ=>(bK (isVar a) (ev c a) ρ).bind λx ρ=>lift (Ei x) ρ|.not a,ρ=>(iR (ev c a) ρ).bind λb ρ=>.ok (.val (.bl (!b))) ρ|.and a b,ρ=>(iR (ev c a) ρ).bind λx ρ=>if x then(iR (ev c b) ρ).bind λy ρ=>.ok (.val (.bl y)) ρ else .ok (.val (.bl false)) ρ|.or a b,ρ=>(iR (ev c a) ρ).bind λx ρ=>if x then .ok (.val (.bl true)) ρ else(iR (ev c b) ρ).bind λy ρ=>.ok (.val (.bl y)) ρ|.cmp o a b,ρ=>(jc (isVar a) (ev c a) (isVar b) (ev c b) ρ).bind λq ρ=>lift (uE o q.1 q.2) ρ|.JB t a b,ρ=>(iR (ev c t) ρ).bind λk ρ=>if k then(ev c a ρ).bind λr ρ=>.ok (.val r.d) ρ else(ev c b ρ).bind λr ρ=>.ok (.val r.d) ρ|.tup as,ρ=>(evs c as ρ).bind λg ρ=>.ok (.val (.tup g)) ρ|.lst as,ρ=>(evs c as ρ).bind λg ρ=>.ok (.own g) ρ|.idx a i,ρ=>(jc (isVar a) (ev c a) (isVar i) (ev c i) ρ).bind λq ρ=>lift (HX q.1 q.2) ρ|.slice a l h,ρ=>match isVar a with|some i=>(lift (pk ρ i) ρ).bind λ_ ρ=>(bK (isVar l) (ev c l) ρ).bind λy ρ=>(bK (isVar h) (ev c h) ρ).bind λz ρ=>(lift (pk ρ i) ρ).bind λx ρ=>lift (JQ x (part l y) (part h z)) ρ|none=>(bK none (ev c a) ρ).bind λx ρ=>(bK (isVar l) (ev c l) ρ).bind λy ρ=>(bK (isVar h) (ev c h) ρ).bind λz ρ=>lift (JQ x (part l y) (part h z)) ρ
 |.call f as,ρ=>(vB c as ρ).bind λxs ρ=>m7 c f xs ρ|.blt b [a],ρ=>(bK (isVar a) (ev c a) ρ).bind λx ρ=>lift (blt b [x]) ρ|.blt b as,ρ=>(evs c as ρ).bind λg ρ=>lift (blt b g) ρ|.inst C a,ρ=>(bK (isVar a) (ev c a) ρ).bind λx ρ=>.ok (.val (.bl (C.any λt=>bR t x))) ρ|.comp src n is one w B,ρ=>(srcOf (isVar src) (ev c src) ρ).bind λg s=>if g.length<=lim then(turns is one (m8 c w) (ev c B) g [] (s++replicate n .aP)).bind λxs u=>.ok (.own xs) (aX ρ (isVar src) (u.take s.length))else .stuck|.qG a b,ρ=>(jc (isVar a) (ev c a) (isVar b) (ev c b) ρ).bind λq ρ=>lift ((dW q.1).bind λi=>(dW q.2).bind λj=>if-1000000<=i/\i<=1000000000/\j<=1000000000/\-1000000000<=j then some (.val (.lst ((List.range (j-i).toNat).map λ(k:Nat)=>D.int (i+(k:Int)))))else none) ρ|.zip a b,ρ=>(ev c a ρ).bind λx ρ=>(ev c b ρ).bind λy ρ=>lift ((items x.d).bind λg=>(items y.d).map λes=>.val (.lst ((g.zip es).map λp=>D.tup [p.1,p.2]))) ρ|.Sd x k d,ρ=>match ρ[x]?with
   |some (.fC _)=>(bK (isVar k) (ev c k) ρ).bind λA ρ=>(bK (isVar d) (ev c d) ρ).bind λE ρ=>match ρ[x]?with|some (.fC m)=>lift ((m.get A).bind λo=>(dW E).map λv=>.val (.int (o.getD v))) ρ|_=>.stuck
   |_=>.stuck
 |.vw x,ρ=>match ρ[x]?with|some (.fC m)=>.ok (.val (.cH m)) (ρ.set x (.val false (.cH m)))|some (.cA kvs)=>.ok (.val (.dv (kvs.map (·.1)) (kvs.map (·.2)))) (ρ.set x (.val false (.dv (kvs.map (·.1)) (kvs.map (·.2)))))|some (.own b g)=>.ok (.val (.lst g)) (ρ.set x (.val b (.lst g)))|some (.val _ d)=>.ok (.val d) ρ|_=>.stuck
 |.KQ x k,ρ=>match ρ[x]?with
   |some (.cA _)=>(bK (isVar k) (ev c k) ρ).bind λA ρ=>match ρ[x]?with|some (.cA kvs)=>lift ((dW A).bind λk=>(jr kvs k).map .val) ρ|_=>.stuck
   |_=>.stuck
 |.KY x k neg,ρ=>(bK (isVar k) (ev c k) ρ).bind λA ρ=>match ρ[x]?with|some (.cA kvs)=>lift ((dW A).map λk=>.val (.bl (if neg then !(kvs.map (·.1)).contains k else(kvs.map (·.1)).contains k))) ρ|_=>.stuck
 |.xj k e,ρ=>.ok (.val (.dv [k] [.int e])) ρ|.Sg x e,ρ=>(lift (pk ρ x) ρ).bind λ_ ρ=>(bK (isVar e) (ev c e) ρ).bind λk ρ=>(lift (pk ρ x) ρ).bind λd ρ=>lift (Js d k) ρ
noncomputable def evs(c:Call):List P->List Sl->Res (List D)|[],ρ=>.ok [] ρ|a::r,ρ=>(ev c a ρ).bind λx ρ=>(evs c r ρ).bind λxs ρ=>.ok (x.d::xs) ρ
noncomputable def vB(c:Call):List P->List Sl->Res (List Arg)|[],ρ=>.ok [] ρ|a::r,ρ=>match isVar a with|some i=>(lift (pk ρ i) ρ).bind λ_ ρ=>(vB c r ρ).bind λxs ρ=>.ok (.dI i::xs) ρ|none=>(ev c a ρ).bind λx ρ=>(vB c r ρ).bind λxs ρ=>.ok (uV x::xs) ρ
noncomputable def m8(c:Call):Option P->List Sl->Res Bool|none,ρ=>.ok true ρ|some t,ρ=>iR (ev c t) ρ
end
theorem E1{c i ρ}:ev c (.var i) ρ=match ρ[i]?with|some (.val _ d)=>.ok (.val d) ρ|some (.own b a)=>.ok (.val (.lst a)) (ρ.set i (.val b (.lst a)))|some (.fC (.k kvs))=>.ok (.val (.cH (.k kvs))) (ρ.set i (.val false (.cH (.k kvs))))|some (.cA kvs)=>.ok (.val (.dv (kvs.map (·.1)) (kvs.map (·.2)))) (ρ.set i (.val false (.dv (kvs.map (·.1)) (kvs.map (·.2)))))|_=>.stuck:=(rfl)
theorem E2{c d ρ}:ev c (.con d) ρ=.ok (.val d) ρ:=(rfl)
theorem E3{c o a b ρ}:ev c (.bin o a b) ρ=(jc (isVar a) (ev c a) (isVar b) (ev c b) ρ).bind λe ρ=>lift (pD o e.1 e.2) ρ:=(rfl)
theorem E4{c a ρ}:ev c (.neg a) ρ=(bK (isVar a) (ev c a) ρ).bind λx ρ=>lift (Ei x) ρ:=(rfl)
theorem E5{c a ρ}:ev c (.not a) ρ=(iR (ev c a) ρ).bind λb ρ=>.ok (.val (.bl (!b))) ρ:=(rfl)
theorem E6{c a b ρ}:ev c (.and a b) ρ=(iR (ev c a) ρ).bind λx ρ=>if x then(iR (ev c b) ρ).bind λy ρ=>.ok (.val (.bl y)) ρ else .ok (.val (.bl false)) ρ:=(rfl)
theorem E7{c a b ρ}:ev c (.or a b) ρ=(iR (ev c a) ρ).bind λx ρ=>if x then .ok (.val (.bl true)) ρ else(iR (ev c b) ρ).bind λy ρ=>.ok (.val (.bl y)) ρ:=(rfl)
theorem E8{c o a b ρ}:ev c (.cmp o a b) ρ=(jc (isVar a) (ev c a) (isVar b) (ev c b) ρ).bind λe ρ=>lift (uE o e.1 e.2) ρ:=(rfl)
theorem E9{c t a b ρ}:ev c (.JB t a b) ρ=(iR (ev c t) ρ).bind λk ρ=>if k then(ev c a ρ).bind λr ρ=>.ok (.val r.d) ρ else(ev c b ρ).bind λr ρ=>.ok (.val r.d) ρ:=(rfl)
theorem E10{c as ρ}:ev c (.tup as) ρ=(evs c as ρ).bind λa ρ=>.ok (.val (.tup a)) ρ:=(rfl)
theorem E11{c as ρ}:ev c (.lst as) ρ=(evs c as ρ).bind λa ρ=>.ok (.own a) ρ:=(rfl)
theorem E12{c a i ρ}:ev c (.idx a i) ρ=(jc (isVar a) (ev c a) (isVar i) (ev c i) ρ).bind λb ρ=>lift (HX b.1 b.2) ρ:=(rfl)
theorem E13{c a l h ρ}:ev c (.slice a l h) ρ=match isVar a with|some i=>(lift (pk ρ i) ρ).bind λ_ ρ=>(bK (isVar l) (ev c l) ρ).bind λy ρ=>(bK (isVar h) (ev c h) ρ).bind λz ρ=>(lift (pk ρ i) ρ).bind λx ρ=>lift (JQ x (part l y) (part h z)) ρ|none=>(bK none (ev c a) ρ).bind λx ρ=>(bK (isVar l) (ev c l) ρ).bind λy ρ=>(bK (isVar h) (ev c h) ρ).bind λz ρ=>lift (JQ x (part l y) (part h z)) ρ:=(rfl)
theorem E14{c f as ρ}:ev c (.call f as) ρ=(vB c as ρ).bind λxs ρ=>m7 c f xs ρ:=(rfl)
theorem E15{c b a ρ}:ev c (.blt b [a]) ρ=(bK (isVar a) (ev c a) ρ).bind λx ρ=>lift (blt b [x]) ρ:=(rfl)
theorem E16{c b x y r ρ}:ev c (.blt b (x::y::r)) ρ=(evs c (x::y::r) ρ).bind λa ρ=>lift (blt b a) ρ:=(rfl)
theorem Vr{c b ρ}:ev c (.blt b []) ρ=(evs c [] ρ).bind λa ρ=>lift (blt b a) ρ:=(rfl)
theorem E17{c ts a ρ}:ev c (.inst ts a) ρ=(bK (isVar a) (ev c a) ρ).bind λx ρ=>.ok (.val (.bl (ts.any λt=>bR t x))) ρ:=(rfl)
theorem E18{c src n is one test elt ρ}:ev c (.comp src n is one test elt) ρ=(srcOf (isVar src) (ev c src) ρ).bind λe a=>if e.length<=lim then(turns is one (m8 c test) (ev c elt) e [] (a++replicate n .aP)).bind λxs b=>.ok (.own xs) (aX ρ (isVar src) (b.take a.length))else .stuck:=(rfl)
theorem E19{c a b ρ}:ev c (.qG a b) ρ=(jc (isVar a) (ev c a) (isVar b) (ev c b) ρ).bind λe ρ=>lift ((dW e.1).bind λi=>(dW e.2).bind λj=>if-1000000<=i/\i<=1000000000/\j<=1000000000/\-1000000000<=j then some (.val (.lst ((List.range (j-i).toNat).map λ(k:Nat)=>D.int (i+(k:Int)))))else none) ρ:=(rfl)
theorem E20{c a b ρ}:ev c (.zip a b) ρ=(ev c a ρ).bind λx ρ=>(ev c b ρ).bind λy ρ=>lift ((items x.d).bind λe=>(items y.d).map λes=>.val (.lst ((e.zip es).map λp=>D.tup [p.1,p.2]))) ρ:=(rfl)
theorem E21{c x k d ρ}:ev c (.Sd x k d) ρ=match ρ[x]?with
 |some (.fC _)=>(bK (isVar k) (ev c k) ρ).bind λa ρ=>(bK (isVar d) (ev c d) ρ).bind λb ρ=>match ρ[x]?with|some (.fC m)=>lift ((m.get a).bind λo=>(dW b).map λv=>.val (.int (o.getD v))) ρ|_=>.stuck
 |_=>.stuck:=(rfl)
theorem E22{c x ρ}:ev c (.vw x) ρ=match ρ[x]?with|some (.fC m)=>.ok (.val (.cH m)) (ρ.set x (.val false (.cH m)))|some (.cA kvs)=>.ok (.val (.dv (kvs.map (·.1)) (kvs.map (·.2)))) (ρ.set x (.val false (.dv (kvs.map (·.1)) (kvs.map (·.2)))))|some (.own b a)=>.ok (.val (.lst a)) (ρ.set x (.val b (.lst a)))|some (.val _ d)=>.ok (.val d) ρ|_=>.stuck:=(rfl)
theorem E23{c x k ρ}:ev c (.KQ x k) ρ=match ρ[x]?with
 |some (.cA _)=>(bK (isVar k) (ev c k) ρ).bind λa ρ=>match ρ[x]?with|some (.cA kvs)=>lift ((dW a).bind λk=>(jr kvs k).map .val) ρ|_=>.stuck
 |_=>.stuck:=(rfl)
theorem E24{c x k neg ρ}:ev c (.KY x k neg) ρ=(bK (isVar k) (ev c k) ρ).bind λa ρ=>match ρ[x]?with|some (.cA kvs)=>lift ((dW a).map λk=>.val (.bl (if neg then !(kvs.map (·.1)).contains k else(kvs.map (·.1)).contains k))) ρ|_=>.stuck:=(rfl)
theorem E25{c k e ρ}:ev c (.xj k e) ρ=.ok (.val (.dv [k] [.int e])) ρ:=(rfl)
theorem E26{c x e ρ}:ev c (.Sg x e) ρ=(lift (pk ρ x) ρ).bind λ_ ρ=>(bK (isVar e) (ev c e) ρ).bind λk ρ=>(lift (pk ρ x) ρ).bind λd ρ=>lift (Js d k) ρ:=(rfl)
inductive S where|pass|brk|cont|bad|expr(e:P)|asg(i:Nat)(e:P)|par(i j:Nat)(a b:P)|Ba(x:Nat)(i e:P)|app(x:Nat)(e:P)|ret(e:P)|VR|ifs(c:P)(a b:List S)|gJ(src:P)(i:List Nat)(one:Bool)(body:List S)|whl(c:P)(body:List S)|Gf(x:Nat)(i:P)(sub:Bool)(e:P)|Gg(x:Nat)(e:P)|Gh(x:Nat)(t:Bool)|dput(x:Nat)(k e:P)|Gi(x:Nat)(src:P)(k:Nat)(is:List Nat)(one:Bool)(elt:P)|Gj(x:Nat)(i e:P)|Bb(src:P)(is:List Nat)(one:Bool)(body:List S)|cG(x:Nat)|Bc(x:Nat)|fj(x:Nat)(k e:P)deriving Inhabited
inductive Fl where|next|brk|cont|ret(r:R)deriving Inhabited
noncomputable def wR:R->Sl|.val d=>.val false d|.own a=>.own false a
noncomputable def fU(is:List Nat)(one:Bool)(body:List Sl->Res Fl):List D->List Sl->Res Fl|[],ρ=>.ok .next ρ|d::r,ρ=>match bV ρ is one d with|none=>.stuck|some ρ=>(body ρ).bind λfl ρ=>match fl with|.next=>fU is one body r ρ|.cont=>fU is one body r ρ|.brk=>.ok .next ρ|.ret r=>.ok (.ret r) ρ
noncomputable def pF(a:List Sl->Res Bool)(body:List Sl->Res Fl):Nat->List Sl->Res Fl|0,_=>.stuck|n+1,ρ=>(a ρ).bind λb ρ=>if b then(body ρ).bind λfl ρ=>match fl with|.next=>pF a body n ρ|.cont=>pF a body n ρ|.brk=>.ok .next ρ|.ret r=>.ok (.ret r) ρ else .ok .next ρ
noncomputable def dM(is:List Nat)(one:Bool)(b:Ev):List D->List (List D)->List Sl->Res (List (List D))|[],a,ρ=>.ok a ρ|d::r,a,ρ=>match bV ρ is one d with|none=>.stuck|some ρ=>(b ρ).bind λx ρ=>match x with|.own c=>dM is one b r (a++[c]) ρ|.val _=>.stuck
noncomputable def rowAt(a:List (List D))(k:Int):Option (List D):=(gQ a.length k).bind λr=>a[r]?
noncomputable def iG(a:List (List D))(k:Int)(f:List D->Option (List D)):Option (List (List D)):=(gQ a.length k).bind λr=>(a[r]?).bind λrow=>(f row).map λb=>a.set r b
noncomputable def setAt(l:Int)(d:D)(row:List D):Option (List D):=(gQ row.length l).map λm=>row.set m d
noncomputable def gM(ρ:List Sl)(x:Nat):Option (List (List D)):=match ρ[x]?with|some (.hold a)=>some a|_=>none
noncomputable def sy(ρ:List Sl)(x:Nat)(k:D):Option (List D):=(gM ρ x).bind λa=>(dW k).bind λk=>rowAt a k
noncomputable def Ae(ρ:List Sl)(x:Nat)(o:Option (List (List D))):Res Fl:=match o with|some a=>.ok .next (ρ.set x (.hold a))|none=>.stuck
noncomputable def rowOne(x r:Nat)(b c e:List Sl->Res D)(ρ:List Sl):Res Fl:=(c ρ).bind λk ρ=>(lift ((gM ρ x).bind λa=>(a[r]?).bind λrow=>(dW k).bind λk=>(at' row k).bind dW) ρ).bind λu ρ=>(e ρ).bind λl ρ=>(lift ((gM ρ x).bind λa=>(a[r]?).bind λrow=>(dW l).bind λl=>(at' row l).bind dW) ρ).bind λv ρ=>(b ρ).bind λj ρ=>Ae ρ x ((gM ρ x).bind λa=>(a[r]?).bind λrow=>(dW j).bind λj=>(setAt j (.int (u+v)) row).map λf=>a.set r f)
noncomputable def Ow(x y:Nat)(a b c:List Sl->Res D):Nat->Nat->List Sl->Res Fl|0,_,ρ=>.ok .next ρ|m+1,r,ρ=>(lift (put ρ y .aP) ρ).bind λρ _=>(rowOne x r a b c ρ).bind λ_ ρ=>Ow x y a b c m (r+1) ρ
noncomputable def Lx(is:List Nat)(one:Bool)(body:List Sl->Res Fl)(b:List Sl->Option (Nat×List Sl)):List D->List Sl->Option (Nat×List Sl)|[],_=>none|d::r,ρ=>match bV ρ is one d with|none=>none|some ρ=>match b ρ with|some x=>some x|none=>match body ρ with|.ok .next a=>Lx is one body b r a|.ok .cont a=>Lx is one body b r a|_=>none
noncomputable def Qc:P->P|.idx a _=>a|e=>e
noncomputable def Kz(c:Call)(e:P)(ρ:List Sl):Option (Nat×List Sl):=match Qc e with
 |.call f as=>match vB c as ρ with
   |.ok xs b=>match bA b xs []with
     |some args=>match c f args with|.exc k a=>some (k,cB xs a 0 b)|_=>none
     |none=>none
   |_=>none
 |_=>none
mutual
noncomputable def ex(c:Call)(n:Nat):S->List Sl->Res Fl
 |.pass,ρ=>.ok .next ρ|.brk,ρ=>.ok .brk ρ|.cont,ρ=>.ok .cont ρ|.bad,_=>.stuck|.expr e,ρ=>(ev c e ρ).bind λ_ ρ=>.ok .next ρ|.asg i e,ρ=>(ev c e ρ).bind λr ρ=>(lift (put ρ i (wR r)) ρ).bind λp _=>.ok .next p|.par i j a b,ρ=>(ev c a ρ).bind λx ρ=>(ev c b ρ).bind λy ρ=>(lift ((put ρ i (.val false x.d)).bind λρ=>put ρ j (.val false y.d)) ρ).bind λp _=>.ok .next p|.Ba x i e,ρ=>(ev c e ρ).bind λr ρ=>(lift (pk ρ x) ρ).bind λ_ ρ=>(bK (isVar i) (ev c i) ρ).bind λk ρ=>match ρ[x]?,k with
   |some (.own b g),.int k=>match gQ g.length k with|some j=>.ok .next (ρ.set x (.own b (g.set j r.d)))|none=>.stuck
   |_,_=>.stuck
 |.app x e,ρ=>(lift (wC ρ x) ρ).bind λ_ ρ=>(ev c e ρ).bind λr ρ=>match ρ[x]?with|some (.own b g)=>if g.length<lim then .ok .next (ρ.set x (.own b (g++[r.d])))else .stuck|_=>.stuck
 |.ret e,ρ=>match isVar e with
   |some i=>match ρ[i]?with|some (.own false g)=>.ok (.ret (.own g)) (ρ.set i .aP)|_=>(ev c e ρ).bind λr ρ=>.ok (.ret r) ρ
   |none=>(ev c e ρ).bind λr ρ=>.ok (.ret r) ρ
 |.VR,ρ=>.ok (.ret (.val .non)) ρ|.ifs t a b,ρ=>(iR (ev c t) ρ).bind λk ρ=>if k then fX c n a ρ else fX c n b ρ|.gJ src is one body,ρ=>(srcOf (isVar src) (ev c src) ρ).bind λg f=>(fU is one (fX c n body) g f).bind λfl o=>.ok fl (aX ρ (isVar src) o)|.whl t body,ρ=>pF (iR (ev c t)) (fX c n body) n ρ|.Gf x i sub e,ρ=>(lift (wC ρ x) ρ).bind λ_ ρ=>(bK (isVar i) (ev c i) ρ).bind λk ρ=>(lift (wC ρ x) ρ).bind λl ρ=>(lift ((dW k).bind λi=>at' l i) ρ).bind λa ρ=>(bK (isVar e) (ev c e) ρ).bind λb ρ=>match a,b,ρ[x]?,k with
   |.int u,.int v,some (.own w g),.int k=>match gQ g.length k with|some j=>.ok .next (ρ.set x (.own w (g.set j (.int (if sub then u-v else u+v)))))|none=>.stuck
   |_,_,_,_=>.stuck
 |.Gg x e,ρ=>(lift (wC ρ x) ρ).bind λ_ ρ=>(ev c e ρ).bind λr ρ=>match ρ[x]?,r with|some (.own b g),.own es=>if g.length+es.length<=lim then .ok .next (ρ.set x (.own b (g++es)))else .stuck|_,_=>.stuck
 |.Gh x t,ρ=>match ρ[x]?with|some .aP=>.ok .next (ρ.set x (.fC (if t then .t []else .k [])))|_=>.stuck
 |.dput x k e,ρ=>(ev c e ρ).bind λr ρ=>match ρ[x]?with
   |some (.fC _)=>(bK (isVar k) (ev c k) ρ).bind λq ρ=>match ρ[x]?,r with
     |some (.fC m),.val (.int v)=>match m.put q v with|some z=>.ok .next (ρ.set x (.fC z))|none=>.stuck
     |_,_=>.stuck
   |_=>.stuck
 |.Gi x src k is one s,ρ=>(srcOf (isVar src) (ev c src) ρ).bind λg f=>if g.length<=lim then(dM is one (ev c s) g [] (f++replicate k .aP)).bind λh o=>(lift (put (aX ρ (isVar src) (o.take f.length)) x (.hold h)) ρ).bind λp _=>.ok .next p else .stuck|.Gj x i e,ρ=>(bK (isVar i) (ev c i) ρ).bind λk ρ=>(lift (sy ρ x k) ρ).bind λ_ ρ=>(ev c e ρ).bind λr ρ=>Ae ρ x ((gM ρ x).bind λh=>(dW k).bind λk=>iG h k λrow=>if row.length<lim then some (row++[r.d])else none)|.Bb src is one body,ρ=>(ev c src ρ).bind λr f=>(lift (items r.d) f).bind λg f=>fU is one (fX c n body) g f|.cG x,ρ=>match ρ[x]?with|some (.hold h)=>.ok .next (ρ.set x (.val false (.lst (h.map D.lst))))|_=>.stuck
 |.Bc x,ρ=>match ρ[x]?with|some .aP=>.ok .next (ρ.set x (.cA []))|some (.cA _)=>.ok .next (ρ.set x (.cA []))|some (.val false _)=>.ok .next (ρ.set x (.cA []))|_=>.stuck
 |.fj x k e,ρ=>(ev c e ρ).bind λr ρ=>match ρ[x]?with
   |some (.cA _)=>(bK (isVar k) (ev c k) ρ).bind λq ρ=>match ρ[x]?,q with|some (.cA kvs),.int k=>if kvs.length<lim then .ok .next (ρ.set x (.cA (fj kvs k r.d)))else .stuck|_,_=>.stuck
   |_=>.stuck
noncomputable def fX(c:Call)(n:Nat):List S->List Sl->Res Fl|[],ρ=>.ok .next ρ|s::r,ρ=>(ex c n s ρ).bind λfl ρ=>match fl with|.next=>fX c n r ρ|fl=>.ok fl ρ
noncomputable def exX(c:Call)(n:Nat):S->List Sl->Option (Nat×List Sl)
 |.ifs t a b,ρ=>match iR (ev c t) ρ with|.ok x f=>if x then Fj c n a f else Fj c n b f|_=>none
 |.gJ src is one body,ρ=>match srcOf (isVar src) (ev c src) ρ with|.ok g f=>(Lx is one (fX c n body) (Fj c n body) g f).map λx=>(x.1,aX ρ (isVar src) x.2)|_=>none
 |.asg _ e,ρ=>Kz c e ρ|.expr e,ρ=>Kz c e ρ|_,_=>none
noncomputable def Fj(c:Call)(n:Nat):List S->List Sl->Option (Nat×List Sl)|[],_=>none|s::r,ρ=>match exX c n s ρ with|some x=>some x|none=>match ex c n s ρ with|.ok .next a=>Fj c n r a|_=>none
end
theorem X1{c n ρ}:ex c n (.pass) ρ=.ok .next ρ:=(rfl)
theorem X2{c n ρ}:ex c n (.brk) ρ=.ok .brk ρ:=(rfl)
theorem X3{c n ρ}:ex c n (.cont) ρ=.ok .cont ρ:=(rfl)
theorem X4{c n ρ}:ex c n (.bad) ρ=.stuck:=(rfl)
theorem X5{c n e ρ}:ex c n (.expr e) ρ=(ev c e ρ).bind λ_ ρ=>.ok .next ρ:=(rfl)
theorem X6{c n i e ρ}:ex c n (.asg i e) ρ=(ev c e ρ).bind λr ρ=>(lift (put ρ i (wR r)) ρ).bind λa _=>.ok .next a:=(rfl)
theorem X7{c n i j a b ρ}:ex c n (.par i j a b) ρ=(ev c a ρ).bind λx ρ=>(ev c b ρ).bind λy ρ=>(lift ((put ρ i (.val false x.d)).bind λρ=>put ρ j (.val false y.d)) ρ).bind λe _=>.ok .next e:=(rfl)
theorem X8{c n x i e ρ}:ex c n (.Ba x i e) ρ=(ev c e ρ).bind λr ρ=>(lift (pk ρ x) ρ).bind λ_ ρ=>(bK (isVar i) (ev c i) ρ).bind λk ρ=>match ρ[x]?,k with
 |some (.own b a),.int k=>match gQ a.length k with|some j=>.ok .next (ρ.set x (.own b (a.set j r.d)))|none=>.stuck
 |_,_=>.stuck:=(rfl)
theorem X9{c n x e ρ}:ex c n (.app x e) ρ=(lift (wC ρ x) ρ).bind λ_ ρ=>(ev c e ρ).bind λr ρ=>match ρ[x]?with|some (.own b a)=>if a.length<lim then .ok .next (ρ.set x (.own b (a++[r.d])))else .stuck|_=>.stuck:=(rfl)
theorem Yk{c n e ρ}:ex c n (.ret e) ρ=match isVar e with
 |some i=>match ρ[i]?with|some (.own false a)=>.ok (.ret (.own a)) (ρ.set i .aP)|_=>(ev c e ρ).bind λr ρ=>.ok (.ret r) ρ
 |none=>(ev c e ρ).bind λr ρ=>.ok (.ret r) ρ:=(rfl)
theorem X11{c n ρ}:ex c n (.VR) ρ=.ok (.ret (.val .non)) ρ:=(rfl)
theorem Xk{c n t a b ρ}:ex c n (.ifs t a b) ρ=(iR (ev c t) ρ).bind λk ρ=>if k then fX c n a ρ else fX c n b ρ:=(rfl)
theorem X13{c n src is one body ρ}:ex c n (.gJ src is one body) ρ=(srcOf (isVar src) (ev c src) ρ).bind λe a=>(fU is one (fX c n body) e a).bind λfl b=>.ok fl (aX ρ (isVar src) b):=(rfl)
theorem X14{c n t body ρ}:ex c n (.whl t body) ρ=pF (iR (ev c t)) (fX c n body) n ρ:=(rfl)
theorem Zh{c n x i sub e ρ}:ex c n (.Gf x i sub e) ρ=(lift (wC ρ x) ρ).bind λ_ ρ=>(bK (isVar i) (ev c i) ρ).bind λk ρ=>(lift (wC ρ x) ρ).bind λl ρ=>(lift ((dW k).bind λi=>at' l i) ρ).bind λa ρ=>(bK (isVar e) (ev c e) ρ).bind λb ρ=>match a,b,ρ[x]?,k with
 |.int u,.int v,some (.own g f),.int k=>match gQ f.length k with|some j=>.ok .next (ρ.set x (.own g (f.set j (.int (if sub then u-v else u+v)))))|none=>.stuck
 |_,_,_,_=>.stuck:=(rfl)
theorem X16{c n x e ρ}:ex c n (.Gg x e) ρ=(lift (wC ρ x) ρ).bind λ_ ρ=>(ev c e ρ).bind λr ρ=>match ρ[x]?,r with|some (.own b a),.own es=>if a.length+es.length<=lim then .ok .next (ρ.set x (.own b (a++es)))else .stuck|_,_=>.stuck:=(rfl)
theorem X17{c n x t ρ}:ex c n (.Gh x t) ρ=match ρ[x]?with|some .aP=>.ok .next (ρ.set x (.fC (if t then .t []else .k [])))|_=>.stuck:=(rfl)
theorem X18{c n x k e ρ}:ex c n (.dput x k e) ρ=(ev c e ρ).bind λr ρ=>match ρ[x]?with
 |some (.fC _)=>(bK (isVar k) (ev c k) ρ).bind λa ρ=>match ρ[x]?,r with
   |some (.fC m),.val (.int v)=>match m.put a v with|some b=>.ok .next (ρ.set x (.fC b))|none=>.stuck
   |_,_=>.stuck
 |_=>.stuck:=(rfl)
theorem X19{c n x src k is one elt ρ}:ex c n (.Gi x src k is one elt) ρ=(srcOf (isVar src) (ev c src) ρ).bind λg a=>if g.length<=lim then(dM is one (ev c elt) g [] (a++replicate k .aP)).bind λe b=>(lift (put (aX ρ (isVar src) (b.take a.length)) x (.hold e)) ρ).bind λf _=>.ok .next f else .stuck:=(rfl)
theorem X20{c n x i e ρ}:ex c n (.Gj x i e) ρ=(bK (isVar i) (ev c i) ρ).bind λk ρ=>(lift (sy ρ x k) ρ).bind λ_ ρ=>(ev c e ρ).bind λr ρ=>Ae ρ x ((gM ρ x).bind λa=>(dW k).bind λk=>iG a k λrow=>if row.length<lim then some (row++[r.d])else none):=(rfl)
theorem X21{c n src is one body ρ}:ex c n (.Bb src is one body) ρ=(ev c src ρ).bind λr a=>(lift (items r.d) a).bind λb a=>fU is one (fX c n body) b a:=(rfl)
theorem X22{c n x ρ}:ex c n (.cG x) ρ=match ρ[x]?with|some (.hold a)=>.ok .next (ρ.set x (.val false (.lst (a.map D.lst))))|_=>.stuck:=(rfl)
theorem X23{c n x ρ}:ex c n (.Bc x) ρ=match ρ[x]?with|some .aP=>.ok .next (ρ.set x (.cA []))|some (.cA _)=>.ok .next (ρ.set x (.cA []))|some (.val false _)=>.ok .next (ρ.set x (.cA []))|_=>.stuck:=(rfl)
theorem X24{c n x k e ρ}:ex c n (.fj x k e) ρ=(ev c e ρ).bind λr ρ=>match ρ[x]?with
 |some (.cA _)=>(bK (isVar k) (ev c k) ρ).bind λa ρ=>match ρ[x]?,a with|some (.cA kvs),.int k=>if kvs.length<lim then .ok .next (ρ.set x (.cA (fj kvs k r.d)))else .stuck|_,_=>.stuck
 |_=>.stuck:=(rfl)
structure Fd where
 np:Nat
 nn:Nat
 body:List S deriving Inhabited
noncomputable abbrev Tab:=Nat->Option Fd
noncomputable def enter(c:Call)(n:Nat)(d:Fd)(args:List Sl):Res R:=if args.length=d.np/\d.np<=d.nn then match fX c n d.body (args++replicate (d.nn-d.np) .aP)with|.ok .next ρ=>.ok (.val .non) (ρ.take d.np)|.ok (.ret r) ρ=>.ok r (ρ.take d.np)|_=>match Fj c n d.body (args++replicate (d.nn-d.np) .aP)with|some (k,ρ)=>.exc k (ρ.take d.np)|none=>.stuck else .stuck
noncomputable def run(Γ:Tab)(w:Nat):Nat->Call|0,_,_=>.stuck|n+1,f,args=>match Γ f with|some d=>enter (run Γ w n) w d args|none=>.stuck
end HH
end
section
namespace HH
open PySem L2
variable{ρ:List Sl}{σ:St}{v:V}
noncomputable def Dc.ho:Dc->HO|.k kvs=>.dK (kvs.map λp=>(Sum.inl p.1,V.int p.2))|.t kvs=>.dT (kvs.map λp=>(p.1.map Sum.inl,V.int p.2))
noncomputable def yS(ks:List Int)(vs:List V):HO:=.dK ((ks.zip vs).map λp=>(Sum.inl p.1,p.2))
section
variable(K:PySem.W.Frag)
mutual
def Rep(F:Hp):V->D->Prop|v,.non=>v=.non|v,.bl b=>v=.bl b|v,.int i=>v=.int i|v,.str x=>v=.str x|v,.tup c=>∃a xs,v=.ref a/\jg K F a xs/\aB F xs c|v,.lst c=>∃a xs,v=.ref a/\dJ K F a xs/\aB F xs c|v,.cH m=>∃a o,v=.ref a/\F a=some (.cG o m.ho)|v,.dv ks c=>∃a o vs,v=.ref a/\F a=some (.cG o (yS ks vs))/\aB F vs c/\ks.length=c.length
def aB(F:Hp):List V->List D->Prop|vs,[]=>vs=[]|vs,d::a=>∃v r,vs=v::r/\Rep F v d/\aB F r a
end
end
section
variable{K:PySem.W.Frag}{F F' H H':Hp}
theorem aF.gF{a:Addr}{xs:List V}(e:aF H H')(h:jg K H a xs):jg K H' a xs:=by
 rcases h with(h|⟨o,h⟩)|h;.exact .inl (.inl (e _ _ h))
 .exact .inl (.inr ⟨o,e _ _ h⟩)
 .exact .inr h
mutual
theorem Rep.mono(e:aF F F'):∀{d:D}{v:V},Rep K F v d->Rep K F' v d|.non,_,h=>by rw[Rep]at h ⊢;exact h|.bl _,_,h=>by rw[Rep]at h ⊢;exact h|.int _,_,h=>by rw[Rep]at h ⊢;exact h|.str _,_,h=>by rw[Rep]at h ⊢;exact h|.tup b,_,h=>by rw[Rep]at h ⊢;obtain⟨a,xs,rfl,hs,r⟩:=h;exact⟨a,xs,rfl,aF.gF e hs,aB.mono e r⟩|.lst b,_,h=>by rw[Rep]at h ⊢;obtain⟨a,xs,rfl,hs,r⟩:=h;exact⟨a,xs,rfl,e.seq hs,aB.mono e r⟩|.cH m,_,h=>by rw[Rep]at h ⊢;obtain⟨a,o,rfl,hs⟩:=h;exact⟨a,o,rfl,e _ _ hs⟩|.dv ks b,_,h=>by rw[Rep]at h ⊢;obtain⟨a,o,vs,rfl,hs,r,c⟩:=h;exact⟨a,o,vs,rfl,e _ _ hs,aB.mono e r,c⟩theorem aB.mono(e:aF F F'):∀{a:List D}{vs:List V},aB K F vs a->aB K F' vs a|[],_,h=>by rw[aB]at h ⊢;exact h|d::a,_,h=>by rw[aB]at h ⊢;obtain⟨v,r,rfl,h1,b⟩:=h;exact⟨v,r,rfl,Rep.mono e h1,aB.mono e b⟩end
theorem aB.nil:aB K F [] []:=by rw[aB]
theorem aB.cons{v:V}{d:D}{vs:List V}{a:List D}(h:Rep K F v d)(t:aB K F vs a):aB K F (v::vs) (d::a):=by rw[aB];exact⟨v,vs,rfl,h,t⟩
theorem aB.bO{vs:List V}{d:D}{a:List D}(h:aB K F vs (d::a)):∃v r,vs=v::r/\Rep K F v d/\aB K F r a:=by rw[aB]at h;exact h
theorem aB.dO{vs:List V}(h:aB K F vs []):vs=[]:=by rw[aB]at h;exact h
theorem aB.length:∀{a:List D}{vs:List V},aB K F vs a->vs.length=a.length|[],_,h=>by rw[h.dO];rfl|d::a,_,h=>by obtain⟨v,r,rfl,_,t⟩:=h.bO;simp[aB.length t]
theorem aB.get:∀{a:List D}{vs:List V}{i:Nat}{d:D},aB K F vs a->a[i]?=some d->∃v,vs[i]?=some v/\Rep K F v d|[],_,_,_,h,e=>by simp at e|d::a,_,0,_,h,e=>by obtain⟨v,r,rfl,h1,t⟩:=h.bO;simp at e;subst e;exact⟨v,rfl,h1⟩|d::a,_,i+1,_,h,e=>by obtain⟨v,r,rfl,_,t⟩:=h.bO;simp at e;obtain⟨w,b,c⟩:=t.get e;exact⟨w,by simpa using b,c⟩
theorem aB.append:∀{a es:List D}{vs b:List V},aB K F vs a->aB K F b es->aB K F (vs++b) (a++es)|[],_,_,_,h,h'=>by rw[h.dO];exact h'|d::a,_,_,_,h,h'=>by obtain⟨v,r,rfl,h1,t⟩:=h.bO;exact .cons h1 (t.append h')
theorem aB.set{v:V}{d:D}(hr:Rep K F v d):∀{a:List D}{vs:List V}(i:Nat),aB K F vs a->aB K F (vs.set i v) (a.set i d)|[],_,_,h=>by rw[h.dO];exact .nil|_::_,_,0,h=>by obtain⟨w,r,rfl,h1,t⟩:=h.bO;exact .cons hr t|_::_,_,i+1,h=>by obtain⟨w,r,rfl,h1,t⟩:=h.bO;exact .cons h1 (aB.set hr i t)
theorem aB.take:∀{a:List D}{vs:List V}(n:Nat),aB K F vs a->aB K F (vs.take n) (a.take n)|[],_,n,h=>by rw[h.dO];simpa using aB.nil|_::_,_,0,h=>.nil|_::_,_,n+1,h=>by obtain⟨w,r,rfl,h1,t⟩:=h.bO;exact .cons h1 (t.take n)
theorem aB.drop:∀{a:List D}{vs:List V}(n:Nat),aB K F vs a->aB K F (vs.drop n) (a.drop n)|[],_,n,h=>by rw[h.dO];simpa using aB.nil|_::_,_,0,h=>h|_::_,_,n+1,h=>by obtain⟨w,r,rfl,h1,t⟩:=h.bO;exact t.drop n
theorem aB.rep{a:List D}{vs:List V}(h:aB K F vs a):∀n,aB K F (replicate n vs).flatten (replicate n a).flatten|0=>by simpa using aB.nil|n+1=>by simpa[replicate_succ]using h.append (aB.rep h n)
inductive Oc where|l(ds:List D)|d(m:Dc)|v(kvs:List (Int×D))
noncomputable def lst?:Sl->Option Oc|.own _ a=>some (.l a)|.lent a=>some (.l a)|.fC m=>some (.d m)|.cA kvs=>some (.v kvs)|_=>none
def jl(K:PySem.W.Frag)(F:Hp)(o:HO):Oc->Prop|.l a=>∃xs,o=.lst xs/\aB K F xs a|.d m=>o=m.ho|.v kvs=>∃vs,o=yS (kvs.map (·.1)) vs/\aB K F vs (kvs.map (·.2))
theorem jl.mono{o:HO}{x:Oc}(e:aF F F')(h:jl K F o x):jl K F' o x:=by cases x with|l b=>obtain⟨xs,a,h⟩:=h;exact⟨xs,a,h.mono e⟩|d m=>exact h|v kvs=>obtain⟨xs,a,h⟩:=h;exact⟨xs,a,h.mono e⟩
def aM(ρ:List Sl)(σ:St)(i:Nat)(a:Addr):Prop:=(∃s b,ρ[i]?=some s/\lst? s=some b)/\σ[i]?=some (some (V.ref a))
def Own(ρ:List Sl)(σ:St)(a:Addr):Prop:=∃i,aM ρ σ i a
structure GS(K:PySem.W.Frag)(F:Hp)(ρ:List Sl)(σ:St)(H:Hp):Prop where
 sub:aF F H
 len:ρ.length=σ.length
 val:∀(i:Nat)(b:Bool)(d:D),ρ[i]?=some (Sl.val b d)->∃v:V,σ[i]?=some (some v)/\Rep K F v d
 own:∀(i:Nat)(s:Sl)(ds:Oc),ρ[i]?=some s->lst? s=some ds->∃(a:Addr)(xs:HO),σ[i]?=some (some (V.ref a))/\H a=some xs/\F a=none/\jl K F xs ds
 dis:∀(i j:Nat)(a:Addr),aM ρ σ i a->aM ρ σ j a->i=j
theorem GS.oA(g:GS K F ρ σ H)(i:Nat)(s:Sl)(b:List D)(e:ρ[i]?=some s)(c:lst? s=some (.l b)):∃(a:Addr)(xs:List V),σ[i]?=some (some (V.ref a))/\H a=some (.lst xs)/\F a=none/\aB K F xs b:=by obtain⟨a,o,h1,f,h,xs,rfl,j⟩:=g.own i s (.l b) e c;exact⟨a,xs,h1,f,h,j⟩
noncomputable def qW:Sl->Bool|.val b _=>b|.own b _=>b|.lent _=>true|.aP=>false|.fC _=>false|.cA _=>false|.hold _=>true
def jH:Sl->Sl->Prop|.val true d,s=>s=.val true d|.own true _,s=>(∃a,s=.own true a)\/∃d,s=.val true d|.lent a,s=>s=.lent a|.hold a,s=>s=.hold a|_,_=>True
theorem jH.refl(s:Sl):jH s s:=by unfold jH;split<;>first|rfl|exact .inl ⟨_,rfl⟩|trivial
theorem jH.qW{s a:Sl}(h:jH s a)(l:qW s=true):HH.qW a=true:=by cases s with
 |aP=>cases l|fC _=>cases l|cA _=>cases l|val b d=>cases b with|true=>cases h;rfl|false=>cases l
 |own b d=>cases b with|true=>rcases h with⟨_,rfl⟩|⟨_,rfl⟩<;>rfl|false=>cases l
 |lent d=>cases h;rfl|hold d=>cases h;rfl
theorem jH.trans{s c a:Sl}(l:HH.qW s=true)(h:jH s c)(h':jH c a):jH s a:=by cases s with
 |aP=>cases l|fC _=>cases l|cA _=>cases l|val b d=>cases b with|true=>cases h;exact h'|false=>cases l
 |own b d=>cases b with
   | true => rcases h with⟨_,rfl⟩|⟨d,rfl⟩;.exact h'
             .exact .inr ⟨d,h'⟩|false=>cases l
 |lent d=>cases h;exact h'|hold d=>cases h;exact h'
noncomputable def nt:Option HO->Option HO|some (.tup _)=>none|o=>o
theorem iQ{o:Option HO}(h:o=none):nt o=none:=by rw[h];rfl
theorem DR{H:Hp}{b:Addr}{xs:List V}(h:H b=some (.lst xs))(z:nt (H b)=none):False:=by rw[h]at z;cases z
theorem Fx{o:HO}{x:Oc}(h:jl K F o x)(z:nt (some o)=none):False:=by cases x with|l a=>obtain⟨xs,rfl,_⟩:=h;cases z|d m=>cases m<;>(cases(show o=_ from h);cases z)|v kvs=>obtain⟨xs,rfl,_⟩:=h;cases z
structure aq(K:PySem.W.Frag)(F:Hp)(ρ:List Sl)(σ:St)(H:Hp)(F':Hp)(ρ':List Sl)(σ':St)(H':Hp):Prop where
 gs:GS K F' ρ' σ' H'
 cz:aF F F'
 vp:∀b,F b=none->F' b≠none->Own ρ σ b\/nt (H b)=none
 keep:∀b o,H b=some o->¬ Own ρ σ b->H' b=some o
 tE:∀b,Own ρ' σ' b->Own ρ σ b\/H b=none
 len:ρ'.length=ρ.length
 lk:∀(i:Nat)(s:Sl),ρ[i]?=some s->qW s=true->σ'[i]?=σ[i]?/\∃s',ρ'[i]?=some s'/\jH s s'
theorem aq.refl{ρ:List Sl}{σ:St}(g:GS K F ρ σ H):aq K F ρ σ H F ρ σ H:=⟨g,aF.refl _,λb h h'=>absurd h h',λ_ _ h _=>h,λ_ h=>.inl h,rfl,λi s h _=>⟨rfl,s,h,.refl s⟩⟩
theorem aq.trans{F1 p m r:Hp}{ρ f j:List Sl}{σ g k:St}(a:aq K F ρ σ H F1 f g m)(b:aq K F1 f g m p j k r):aq K F ρ σ H p j k r:=by
 have back:∀c,Own f g c\/m c=none->Own ρ σ c\/H c=none:=λc h=>by
  rcases h with h|h;.exact a.tE c h
  . by_cases ho:Own ρ σ c;.exact .inl ho
    .right;cases e:H c with|none=>rfl|some o=>rw[a.keep c o e ho]at h;cases h
 refine⟨b.gs,a.cz.trans b.cz,λc h h'=>?_,λc o h n=>?_,λc h=>back c (b.tE c h),b.len.trans a.len,λi s h l=>?_⟩
 . by_cases e:F1 c=none
   . by_cases ho:Own ρ σ c;.exact .inl ho
     . rcases b.vp c e h' with z|z;.exact(back c (.inl z)).imp id iQ
       .right;cases q:H c with|none=>rfl|some o=>rw[a.keep c o q ho]at z;exact z
   .exact a.vp c h e
 . refine b.keep c o (a.keep c o h n) λh'=>?_;rcases a.tE c h' with h'|h';.exact n h'
   .rw[h]at h';cases h'
 .obtain⟨u,s1,h1,t⟩:=a.lk i s h l;obtain⟨w,s2,x,y⟩:=b.lk i s1 h1 (t.qW l);exact⟨w.trans u,s2,x,.trans l t y⟩
def cg(K:PySem.W.Frag)(F H:Hp)(v:V)(d:D):Prop:=Rep K F v d\/∃a xs b,v=.ref a/\H a=some (.lst xs)/\aB K F xs b/\d=.lst b
def bT(K:PySem.W.Frag)(F':Hp)(b:List Sl)(c:St)(H':Hp)(ρ:List Sl)(σ:St)(H:Hp)(v:V):R->Prop|.val d=>Rep K F' v d|.own e=>∃a xs,v=.ref a/\H' a=some (.lst xs)/\F' a=none/\aB K F' xs e/\¬ Own b c a/\(Own ρ σ a\/H a=none)
theorem aF.bL{F:Hp}{a:Addr}{o:HO}(h:F a=none):aF F (upd F a o):=λb u e=>by
 have:b≠a:=by rintro rfl;rw[h]at e;cases e
 rw[ao this];exact e
theorem aq.cG{c:List Sl}{f:St}{r:R}(s:aq K F ρ σ H F' c f H')(h:bT K F' c f H' ρ σ H v r):∃g,aq K F ρ σ H g c f H'/\aF F' g/\Rep K g v r.d:=by cases r with|val d=>exact⟨F',s,.refl _,h⟩|own t=>
   obtain⟨a,xs,rfl,h1,u,w,x,y⟩:=h;have sm:aF F' (upd F' a (.lst xs)):=aF.bL u;refine⟨upd F' a (.lst xs),⟨⟨λb o e=>?_,s.gs.len,λi b d e=>?_,λi sl k e p=>?_,s.gs.dis⟩,s.cz.trans sm,λb n q=>?_,s.keep,s.tE,s.len,s.lk⟩,sm,?_⟩
   . by_cases j:b=a;.subst j;rw[aH]at e;cases e;exact h1
     .rw[ao j]at e;exact s.gs.sub b o e
   .obtain⟨v,l,m⟩:=s.gs.val i b d e;exact⟨v,l,m.mono sm⟩
   . obtain⟨b,ys,l,m,z,A⟩:=s.gs.own i sl k e p;have j:b≠a:=by rintro rfl;exact x ⟨i,⟨sl,k,e,p⟩,l⟩
     exact⟨b,ys,l,m,by rw[ao j];exact z,A.mono sm⟩
   . by_cases j:b=a;.subst j;exact y.imp id iQ
     .rw[ao j]at q;exact s.vp b n q
   .show Rep K _ _ (.lst t);rw[Rep];exact⟨a,xs,rfl,dJ.of aH,w.mono sm⟩
theorem GS.pk{ρ:List Sl}{σ:St}{i:Nat}{d:D}(g:GS K F ρ σ H)(e:HH.pk ρ i=some d):∃v:V,σ[i]?=some (some v)/\cg K F H v d:=by
 unfold HH.pk at e;split at e;.rename_i b d' h;cases e;obtain⟨v,h1,c⟩:=g.val i b d h;exact⟨v,h1,.inl c⟩
 .rename_i b f h;cases e;obtain⟨a,xs,h1,c,k,j⟩:=g.oA i _ f h rfl;exact⟨.ref a,h1,.inr ⟨a,xs,f,rfl,c,j,rfl⟩⟩
 .rename_i f h;cases e;obtain⟨a,xs,h1,c,k,j⟩:=g.oA i _ f h rfl;exact⟨.ref a,h1,.inr ⟨a,xs,f,rfl,c,j,rfl⟩⟩
 .cases e
structure Ext(F H F' H':Hp):Prop where
 hs:aF H H'
 fs:aF F F'
 sub:aF F' H'
 gr:∀b,F b=none->F' b≠none->nt (H b)=none
theorem Ext.refl(h:aF F H):Ext F H F H:=⟨.refl _,.refl _,h,λ_ a b=>absurd a b⟩
theorem Ext.stp(g:GS K F ρ σ H)(e:Ext F H F' H'):aq K F ρ σ H F' ρ σ H':=by
 refine⟨⟨e.sub,g.len,λi b d h=>?_,λi s j h h'=>?_,g.dis⟩,e.fs,λb n k=>.inr (e.gr b n k),λb o h _=>e.hs b o h,λ_ h=>.inl h,rfl,λi s h _=>⟨rfl,s,h,.refl s⟩⟩;.obtain⟨v,h1,c⟩:=g.val i b d h;exact⟨v,h1,c.mono e.fs⟩
 .obtain⟨a,xs,h1,c,l,f⟩:=g.own i s j h h';refine⟨a,xs,h1,e.hs _ _ c,?_,f.mono e.fs⟩;cases q:F' a with|none=>rfl|some o=>have:=e.gr a l (by rw[q];simp);rw[c]at this;exact(Fx f this).elim
def bG(K:PySem.W.Frag)(F' H' H:Hp)(v:V):R->Prop|.val d=>Rep K F' v d|.own b=>∃a xs,v=.ref a/\H' a=some (.lst xs)/\F' a=none/\aB K F' xs b/\H a=none
theorem bG.lZ{r:R}(g:GS K F ρ σ H)(h:bG K F' H' H v r):bT K F' ρ σ H' ρ σ H v r:=by cases r with|val d=>exact h|own p=>obtain⟨a,xs,rfl,h1,l,m,f⟩:=h;refine⟨a,xs,rfl,h1,l,m,?_,.inr f⟩;rintro⟨i,⟨s,c,e,n⟩,o⟩;obtain⟨b,ys,j,k,_⟩:=g.own i s c e n;rw[o]at j;cases j;rw[f]at k;cases k
theorem bT.later{F1 j k l:Hp}{c f:List Sl}{g i:St}{r:R}(a:aq K F ρ σ H F1 c g j)(h:bT K k f i l c g j v r):bT K k f i l ρ σ H v r:=by cases r with|val d=>exact h|own q=>
   obtain⟨b,xs,rfl,h1,m,n,p,h5⟩:=h;refine⟨b,xs,rfl,h1,m,n,p,?_⟩;rcases h5 with h5|h5;.exact a.tE b h5
   . by_cases ho:Own ρ σ b;.exact .inl ho
     .right;cases e:H b with|none=>rfl|some o=>rw[a.keep b o e ho]at h5;cases h5
end
end HH
end
section
namespace HH
open PySem L2 PySem.Spec PyProof.Rows
variable{ρ' ρ ρ₀:List Sl}{es:List Expr}{K:PySem.W.Frag}{F H H₀:Hp}{σ:L2.St}{i n:Nat}{ds:List D}{x:Str}{v:V}{vs:List V}{p':Pos}{as:List Arg}
theorem aa{c e:Type}{x:Res c}{f:c->List Sl->Res e}{b:e}(h:x.bind f=.ok b ρ'):∃a ρ,x=.ok a ρ/\f a ρ=.ok b ρ':=by cases x with|ok a ρ=>exact⟨a,ρ,rfl,h⟩|exc _ _=>cases h|stuck=>cases h
theorem aA{c:Type}{o:Option c}{a:c}(h:lift o ρ=.ok a ρ'):o=some a/\ρ=ρ':=by cases o with|none=>cases h|some b=>cases h;exact⟨rfl,rfl⟩
theorem map_some{c e:Type}{o:Option c}{f:c->e}{b:e}(h:o.map f=some b):∃a,o=some a/\f a=b:=by cases o with|none=>cases h|some a=>cases h;exact⟨a,rfl,rfl⟩
theorem bB{c e:Type}{o:Option c}{f:c->Option e}{b:e}(h:o.bind f=some b):∃a,o=some a/\f a=some b:=by cases o with|none=>cases h|some a=>exact⟨a,rfl,h⟩
theorem aO{e:Type}{c:Prop}[Decidable c]{a b:e}(h:(if c then some a else none)=some b):c/\a=b:=by
 split at h;.rename_i hc;cases h;exact⟨hc,rfl⟩
 .cases h
section
variable{X:Cx}{c:Call}{e a b:Expr}{p pa pb:P}{pos:Pos}
theorem cR{t t':TE}(h:PE X e t)(i:∀σ H Q,t' σ H Q->t σ H Q):PE X e t':=λf s σ H Q I q=>h f s σ H Q I (i σ H Q q)
theorem uJ{t t':TT}(h:PT X e t)(i:∀σ H Q,t' σ H Q->t σ H Q):PT X e t':=λf s σ H Q I q=>h f s σ H Q I (i σ H Q q)
theorem Uu{t t':TT}(h:PW X e t)(i:∀σ H Q,t' σ H Q->t σ H Q):PW X e t':=λwh f s σ H Q I q=>h wh f s σ H Q I (i σ H Q q)
theorem tQ{t t':TA}(h:PA X es t)(i:∀σ H Q,t' σ H Q->t σ H Q):PA X es t':=λpos f s σ H Q I q=>h pos f s σ H Q I (i σ H Q q)
inductive uM(K:PySem.W.Frag)(f:Ev)(σ:L2.St)(H:Hp)(Q:VK):Prop where|mk(F:Hp)(ρ:List Sl)(r:R)(ρ':List Sl)(g:GS K F ρ σ H)(e:f ρ=.ok r ρ')(k:∀v F' H',aq K F ρ σ H F' ρ' σ H'->bT K F' ρ' σ H' ρ σ H v r->Q v H')
inductive Dg(K:PySem.W.Frag)(f:List Sl->Res Bool)(σ:L2.St)(H:Hp)(Q:Bool->Hp->Prop):Prop where|mk(F:Hp)(ρ:List Sl)(b:Bool)(ρ':List Sl)(g:GS K F ρ σ H)(e:f ρ=.ok b ρ')(k:∀F' H',aq K F ρ σ H F' ρ' σ H'->Q b H')
inductive Y7(K:PySem.W.Frag)(f:List Sl->Res (List D))(σ:L2.St)(H:Hp)(Q:List V->Hp->Prop):Prop where|mk(F:Hp)(ρ:List Sl)(ds:List D)(ρ':List Sl)(g:GS K F ρ σ H)(e:f ρ=.ok ds ρ')(k:∀vs F' H',aq K F ρ σ H F' ρ' σ H'->aB K F' vs ds->Q vs H')
structure SX(X:Cx)(c:Call)(e:Expr)(p:P):Prop where ev:PE X e (uM X.K (HH.ev c p))var:∀i,isVar p=some i->PE X e (Pk i)
def SA(X:Cx)(c:Call)(es:List Expr)(ps:List P):Prop:=PA X es (Y7 X.K (evs c ps))/\ps.length=es.length
theorem SX.bK(h:SX X c e p):∃t,PE X e t/\∀{σ:L2.St}{H F:Hp}{ρ ρ':List Sl}{d:D}{Q:VK},GS X.K F ρ σ H->bK (isVar p) (HH.ev c p) ρ=.ok d ρ'->(∀v j f,aq X.K F ρ σ H j ρ' σ f->cg X.K j f v d->Q v f)->t σ H Q:=by cases hv:isVar p with|none=>refine⟨_,h.ev,λ{σ H F ρ ρ' d Q}g e k=>?_⟩;obtain⟨r,q,l,m⟩:=aa e;cases m;refine⟨F,ρ,r,_,g,l,λv j f s u=>?_⟩;obtain⟨o,w,_,y⟩:=s.cG u;exact k v o f w (.inl y)|some i=>refine⟨_,h.var i hv,λ{σ H F ρ ρ' d Q}g e k=>?_⟩;obtain⟨l,m⟩:=aA e;subst m;obtain⟨v,h1,z⟩:=g.pk l;exact⟨v,h1,k v F H (.refl g) z⟩
theorem SX.jc(J:SX X c a pa)(N:SX X c b pb):∃L h,PE X a L/\PE X b h/\∀{σ:L2.St}{H F:Hp}{ρ ρ':List Sl}{j:D×D}{R:V->V->Hp->Prop},GS X.K F ρ σ H->jc (isVar pa) (HH.ev c pa) (isVar pb) (HH.ev c pb) ρ=.ok j ρ'->(∀v u w l,aq X.K F ρ σ H w ρ' σ l->cg X.K w l v j.1->cg X.K w l u j.2->R v u l)->L σ H λx z=>h σ z λy A=>R x y A:=by obtain⟨h,m,o⟩:=N.bK;cases hv:isVar pa with|none=>refine⟨_,h,J.ev,m,λ{σ H F ρ ρ' j R}g e k=>?_⟩;obtain⟨x,B,q,e⟩:=aa e;obtain⟨y,C,f,e⟩:=aa e;cases e;obtain⟨r,M,q,E⟩:=aa q;cases E;refine⟨F,ρ,r,_,g,q,λv w l s O=>?_⟩;obtain⟨F1,s1,_,Q⟩:=s.cG O;refine o s1.gs f λu U A s2 G=>?_;exact k v u U A (s1.trans s2) (.inl (Q.mono s2.cz)) G|some i=>refine⟨_,h,J.var i hv,m,λ{σ H F ρ ρ' j R}g e k=>?_⟩;obtain⟨x0,W,E,e⟩:=aa e;obtain⟨I,Y⟩:=aA E;subst Y;obtain⟨y,B,q,e⟩:=aa e;obtain⟨x,C,f,e⟩:=aa e;cases e;have Z:=aA f;clear f;obtain⟨f,e3⟩:=Z;subst e3;obtain⟨v,h1,_⟩:=g.pk I;refine⟨v,h1,o g q λu F1 z s1 G=>?_⟩;obtain⟨v',t,pv⟩:=s1.gs.pk f;rw[h1]at t;cases t;exact k v u F1 z s1 pv G
inductive rD(K:PySem.W.Frag)(f:D->D->Option R)(x y:V)(H:Hp)(Q:VK):Prop where|mk(F:Hp)(d e:D)(r:R)(sm:aF F H)(px:cg K F H x d)(py:cg K F H y e)(he:f d e=some r)(k:∀v F' H',Ext F H F' H'->bG K F' H' H v r->Q v H')
inductive rD1(K:PySem.W.Frag)(f:D->Option R)(x:V)(H:Hp)(Q:VK):Prop where|mk(F:Hp)(d:D)(r:R)(sm:aF F H)(px:cg K F H x d)(he:f d=some r)(k:∀v F' H',Ext F H F' H'->bG K F' H' H v r->Q v H')
theorem vM{E:Expr}{f:D->D->Option R}{q:P}(t:∀{m o},PE X a m->PE X b o->PE X E (RG (rD X.K f) m o))(y:SX X c a pa)(z:SX X c b pb)(A:∀ρ,HH.ev c q ρ=(HH.jc (isVar pa) (HH.ev c pa) (isVar pb) (HH.ev c pb) ρ).bind λj ρ=>lift (f j.1 j.2) ρ)(B:isVar q=none):SX X c E q:=by obtain⟨m,o,h1,C,G⟩:=y.jc z;refine⟨cR (t h1 C) ?_,λi h=>by rw[B]at h;cases h⟩;rintro σ H Q⟨F,ρ,r,ρ',g,e,k⟩;rw[A]at e;obtain⟨j,I,J,l⟩:=aa e;have L:=aA l;clear l;obtain⟨l,M⟩:=L;subst M;refine G g J λv u N H' s O U=>⟨N,j.1,j.2,r,s.gs.sub,O,U,l,λw W Y x Z=>?_⟩;exact k w W Y (s.trans (x.stp s.gs)) (.later s (Z.lZ s.gs))
theorem Mf{E:Expr}{f:D->Option R}{q:P}(m:∀{l},PE X a l->PE X E (tUn (rD1 X.K f) l))(o:SX X c a pa)(t:∀ρ,HH.ev c q ρ=(HH.bK (isVar pa) (HH.ev c pa) ρ).bind λx ρ=>lift (f x) ρ)(u:isVar q=none):SX X c E q:=by obtain⟨l,h1,y⟩:=o.bK;refine⟨cR (m h1) ?_,λi h=>by rw[u]at h;cases h⟩;rintro σ H Q⟨F,ρ,r,ρ',g,e,k⟩;rw[t]at e;obtain⟨x,z,A,j⟩:=aa e;have B:=aA j;clear j;obtain⟨j,C⟩:=B;subst C;refine y g A λv G N s I=>⟨G,x,r,s.gs.sub,I,j,λw J L x M=>?_⟩;exact k w J L (s.trans (x.stp s.gs)) (.later s (M.lZ s.gs))
theorem GS.freeze{b:Bool}(g:GS K F ρ σ H)(e:ρ[i]?=some (.own b ds)):∃v z,σ[i]?=some (some v)/\aq K F ρ σ H z (ρ.set i (.val b (.lst ds))) σ H/\Rep K z v (.lst ds):=by
 obtain⟨a,xs,h1,C,E,G⟩:=g.oA i _ ds e rfl;have hi:i<ρ.length:=(dw e).1;have sm:aF F (upd F a (.lst xs)):=aF.bL E;have A:Rep K (upd F a (.lst xs)) (.ref a) (.lst ds):=by rw[Rep];exact⟨a,xs,rfl,dJ.of aH,G.mono sm⟩
 have I:Own ρ σ a:=⟨i,⟨_,_,e,rfl⟩,h1⟩;have r:∀j x,aM (ρ.set i (.val b (.lst ds))) σ j x->aM ρ σ j x/\j≠i:=λj x⟨⟨s,h,m,u⟩,y⟩=>by
  by_cases f:j=i;.subst f;rw[getElem?_set_self hi]at m;cases m;cases u
  .rw[dz f]at m;exact⟨⟨⟨s,h,m,u⟩,y⟩,f⟩
 refine⟨.ref a,upd F a (.lst xs),h1,⟨⟨λx o q=>?_,by simpa using g.len,λj J d q=>?_,λj s h q w=>?_,λj k x q w=>g.dis j k x (r j x q).1 (r k x w).1⟩,sm,λx n B=>?_,λ_ _ q _=>q,λx⟨j,q⟩=>.inl ⟨j,(r j x q).1⟩,by simp,λj s q l=>⟨rfl,?_⟩⟩,A⟩
 . by_cases t:x=a;.subst t;rw[aH]at q;cases q;exact C
   .rw[ao t]at q;exact g.sub x o q
 . by_cases f:j=i;.subst f;rw[getElem?_set_self hi]at q;cases q;exact⟨_,h1,A⟩
   .rw[dz f]at q;obtain⟨v,m,u⟩:=g.val j J d q;exact⟨v,m,u.mono sm⟩
 . by_cases f:j=i;.subst f;rw[getElem?_set_self hi]at q;cases q;cases w
   . rw[dz f]at q;obtain⟨x,ys,m,u,y,L⟩:=g.own j s h q w;have t:x≠a:=by rintro rfl;exact f (g.dis j i x ⟨⟨s,h,q,w⟩,m⟩ ⟨⟨_,_,e,rfl⟩,h1⟩)
     exact⟨x,ys,m,u,by rw[ao t];exact y,L.mono sm⟩
 . by_cases t:x=a;.subst t;exact .inl I
   .rw[ao t]at B;exact absurd n B
 . by_cases f:j=i;.subst f;rw[e]at q;cases q;refine⟨_,getElem?_set_self hi,?_⟩;cases b with|true=>exact .inr ⟨_,rfl⟩|false=>cases l
   .exact⟨s,by rw[dz f];exact q,.refl s⟩
theorem GS.yM{m:Dc}(g:GS K F ρ σ H)(e:ρ[i]?=some (.fC m)):∃a,σ[i]?=some (some (.ref a))/\H a=some m.ho/\∀u,aq K F ρ σ H (upd F a (.cG u m.ho)) (ρ.set i (.val false (.cH m))) σ (upd H a (.cG u m.ho))/\Rep K (upd F a (.cG u m.ho)) (.ref a) (.cH m):=by
 obtain⟨a,G,h1,I,J,L⟩:=g.own i _ _ e rfl;cases(show G=m.ho from L);have hi:i<ρ.length:=(dw e).1;refine⟨a,h1,I,λu=>?_⟩;have sm:aF F (upd F a (.cG u m.ho)):=aF.bL J;have B:Rep K (upd F a (.cG u m.ho)) (.ref a) (.cH m):=by rw[Rep];exact⟨a,u,rfl,aH⟩
 have C:Own ρ σ a:=⟨i,⟨_,_,e,rfl⟩,h1⟩;have w:∀j x,aM (ρ.set i (.val false (.cH m))) σ j x->aM ρ σ j x/\j≠i:=λj x⟨⟨s,r,t,y⟩,A⟩=>by
  by_cases f:j=i;.subst f;rw[getElem?_set_self hi]at t;cases t;cases y
  .rw[dz f]at t;exact⟨⟨⟨s,r,t,y⟩,A⟩,f⟩
 refine⟨⟨⟨λx o q=>?_,by simpa using g.len,λj M d q=>?_,λj s r q z=>?_,λj k x q z=>g.dis j k x (w j x q).1 (w k x z).1⟩,sm,λx n E=>?_,λx o q n=>?_,λx⟨j,q⟩=>.inl ⟨j,(w j x q).1⟩,by simp,λj s q l=>⟨rfl,?_⟩⟩,B⟩
 . by_cases h:x=a;.subst h;rw[aH]at q ⊢;exact q
   .rw[ao h]at q ⊢;exact g.sub x o q
 . by_cases f:j=i;.subst f;rw[getElem?_set_self hi]at q;cases q;exact⟨_,h1,B⟩
   .rw[dz f]at q;obtain⟨v,t,y⟩:=g.val j M d q;exact⟨v,t,y.mono sm⟩
 . by_cases f:j=i;.subst f;rw[getElem?_set_self hi]at q;cases q;cases z
   . rw[dz f]at q;obtain⟨x,ys,t,y,A,N⟩:=g.own j s r q z;have h:x≠a:=by rintro rfl;exact f (g.dis j i x ⟨⟨s,r,q,z⟩,t⟩ ⟨⟨_,_,e,rfl⟩,h1⟩)
     exact⟨x,ys,t,by rw[ao h];exact y,by rw[ao h];exact A,N.mono sm⟩
 . by_cases h:x=a;.subst h;exact .inl C
   .rw[ao h]at E;exact absurd n E
 . have h:x≠a:=by rintro rfl;exact n C
   rw[ao h];exact q
 . by_cases f:j=i;.subst f;rw[e]at q;cases q;cases l
   .exact⟨s,by rw[dz f];exact q,.refl s⟩
theorem GS.yz{kvs:List (Int×D)}(g:GS K F ρ σ H)(e:ρ[i]?=some (.cA kvs)):∃a vs,σ[i]?=some (some (.ref a))/\H a=some (yS (kvs.map (·.1)) vs)/\∀t,aq K F ρ σ H (upd F a (.cG t (yS (kvs.map (·.1)) vs))) (ρ.set i (.val false (.dv (kvs.map (·.1)) (kvs.map (·.2))))) σ (upd H a (.cG t (yS (kvs.map (·.1)) vs)))/\Rep K (upd F a (.cG t (yS (kvs.map (·.1)) vs))) (.ref a) (.dv (kvs.map (·.1)) (kvs.map (·.2))):=by
 obtain⟨a,N,h1,E,G,I⟩:=g.own i _ _ e rfl;obtain⟨vs,rfl,J⟩:=I;have hi:i<ρ.length:=(dw e).1;refine⟨a,vs,h1,E,λt=>?_⟩;have sm:aF F (upd F a (.cG t (yS (kvs.map (·.1)) vs))):=aF.bL G;have A:Rep K (upd F a (.cG t (yS (kvs.map (·.1)) vs))) (.ref a) (.dv (kvs.map (·.1)) (kvs.map (·.2))):=by rw[Rep];exact⟨a,t,vs,rfl,aH,J.mono sm,by simp⟩
 have B:Own ρ σ a:=⟨i,⟨_,_,e,rfl⟩,h1⟩;have u:∀j x,aM (ρ.set i (.val false (.dv (kvs.map (·.1)) (kvs.map (·.2))))) σ j x->aM ρ σ j x/\j≠i:=λj x⟨⟨s,m,r,w⟩,z⟩=>by
  by_cases f:j=i;.subst f;rw[getElem?_set_self hi]at r;cases r;cases w
  .rw[dz f]at r;exact⟨⟨⟨s,m,r,w⟩,z⟩,f⟩
 refine⟨⟨⟨λx o q=>?_,by simpa using g.len,λj L d q=>?_,λj s m q y=>?_,λj k x q y=>g.dis j k x (u j x q).1 (u k x y).1⟩,sm,λx n C=>?_,λx o q n=>?_,λx⟨j,q⟩=>.inl ⟨j,(u j x q).1⟩,by simp,λj s q l=>⟨rfl,?_⟩⟩,A⟩
 . by_cases h:x=a;.subst h;rw[aH]at q ⊢;exact q
   .rw[ao h]at q ⊢;exact g.sub x o q
 . by_cases f:j=i;.subst f;rw[getElem?_set_self hi]at q;cases q;exact⟨_,h1,A⟩
   .rw[dz f]at q;obtain⟨v,r,w⟩:=g.val j L d q;exact⟨v,r,w.mono sm⟩
 . by_cases f:j=i;.subst f;rw[getElem?_set_self hi]at q;cases q;cases y
   . rw[dz f]at q;obtain⟨x,ys,r,w,z,M⟩:=g.own j s m q y;have h:x≠a:=by rintro rfl;exact f (g.dis j i x ⟨⟨s,m,q,y⟩,r⟩ ⟨⟨_,_,e,rfl⟩,h1⟩)
     exact⟨x,ys,r,by rw[ao h];exact w,by rw[ao h];exact z,M.mono sm⟩
 . by_cases h:x=a;.subst h;exact .inl B
   .rw[ao h]at C;exact absurd n C
 . have h:x≠a:=by rintro rfl;exact n B
   rw[ao h];exact q
 . by_cases f:j=i;.subst f;rw[e]at q;cases q;cases l
   .exact⟨s,by rw[dz f];exact q,.refl s⟩
theorem Inv.Dj{X:Cx}{f:List (Addr×Obj)}{s:Shared}{a:Addr}{kvs:List (Key×V)}(I:L2.Inv X f σ H s)(h:H a=some (.dK kvs)):∃o,L2.Inv X f σ (upd H a (.cG o (.dK kvs))) s:=by obtain⟨hz,j,vs,r,g⟩:=(show bj X.prog X.w H s.heap a (.dK kvs)from I.hok a _ h);obtain⟨o,ho,_⟩:=g.typeIs;exact⟨o,I.write (h':=s.heap) (t':=s.toks) (by rw[h];exact trivial) (.inl rfl) (λb u _ e=>e) ⟨o,ho⟩ ⟨ho,hz,j,vs,r,g⟩⟩
theorem Qh(z:X.N[i]?=some x)(A:tD X.env.scope x)(hd:(x==("__debug__":Str))=false:=by decide)(t:(x==("__classdict__":Str))=false:=by decide):SX X c (.Name x pos) (.var i):=by
 have h:=cT (X:=X) (pos:=pos) z A hd t;refine⟨?_,λj B=>by cases B;exact h⟩;rintro f s σ H Q I⟨F,ρ,r,ρ',g,e,k⟩;rw[HH.E1]at e;split at e;.rename_i b d q;cases e;obtain⟨v,h1,l⟩:=g.val i b d q;exact h f s σ H Q I ⟨v,h1,k v F H (.refl g) l⟩
 .rename_i b ds q;cases e;obtain⟨v,C,h1,l,m⟩:=g.freeze q;exact h f s σ H Q I ⟨v,h1,k v C H l m⟩
 .rename_i kvs q;cases e;obtain⟨a,h1,l,m⟩:=g.yM q;refine bH (h f s σ H (λv w=>v=.ref a/\w=H) I ⟨.ref a,h1,rfl,rfl⟩) λu s1⟨v,H1,I1,r1,e1,e2⟩=>?_;subst e1 e2;obtain⟨o,y⟩:=Inv.Dj I1 l;exact⟨.ref a,_,y,r1,k _ _ _ (m o).1 (m o).2⟩
 .rename_i kvs q;cases e;obtain⟨a,vs,h1,l,m⟩:=g.yz q;refine bH (h f s σ H (λv w=>v=.ref a/\w=H) I ⟨.ref a,h1,rfl,rfl⟩) λu s1⟨v,H1,I1,r1,e1,e2⟩=>?_;subst e1 e2;obtain⟨o,y⟩:=Inv.Dj I1 l;exact⟨.ref a,_,y,r1,k _ _ _ (m o).1 (m o).2⟩
 .cases e
theorem wW{d:D}(h:PE X e (tC v))(hr:∀F,Rep X.K F v d):SX X c e (.con d):=⟨cR h λσ H Q⟨F,ρ,r,ρ',g,e,k⟩=>by rw[HH.E2]at e;cases e;exact k v F H (.refl g) (hr F),λi h=>by cases h⟩
theorem aj{i j}:SX X c (.Constant (.int i) j pos) (.con (.int i)):=wW wX λF=>by rw[Rep]
theorem pL{i j}:SX X c (.Constant (.bool i) j pos) (.con (.bl i)):=wW Tv λF=>by rw[Rep]
theorem CW{j}:SX X c (.Constant .none j pos) (.con .non):=wW Mw λF=>by rw[Rep]
theorem cg.int{K:PySem.W.Frag}{F H:Hp}{v:V}{i:Int}(h:cg K F H v (.int i)):v=.int i:=by
 rcases h with h|⟨_,_,_,_,_,_,h⟩;.rw[Rep]at h;exact h
 .cases h
theorem cg.bl{K:PySem.W.Frag}{F H:Hp}{v:V}{i:Bool}(h:cg K F H v (.bl i)):v=.bl i:=by
 rcases h with h|⟨_,_,_,_,_,_,h⟩;.rw[Rep]at h;exact h
 .cases h
theorem cg.str{K:PySem.W.Frag}{F H:Hp}{v:V}{i:Str}(h:cg K F H v (.str i)):v=.str i:=by
 rcases h with h|⟨_,_,_,_,_,_,h⟩;.rw[Rep]at h;exact h
 .cases h
theorem cg.non{K:PySem.W.Frag}{F H:Hp}{v:V}(h:cg K F H v .non):v=.non:=by
 rcases h with h|⟨_,_,_,_,_,_,h⟩;.rw[Rep]at h;exact h
 .cases h
theorem cg.tup{K:PySem.W.Frag}{F H:Hp}{v:V}{ds:List D}(s:aF F H)(h:cg K F H v (.tup ds)):∃a xs,v=.ref a/\jg K H a xs/\aB K F xs ds/\Rep K F v (.tup ds):=by
 rcases h with h|⟨_,_,_,_,_,_,h⟩;.have h':=h;rw[Rep]at h;obtain⟨a,xs,rfl,h1,f⟩:=h;exact⟨a,xs,rfl,aF.gF s h1,f,h'⟩
 .cases h
theorem cg.lst{K:PySem.W.Frag}{F H:Hp}{v:V}{ds:List D}(s:aF F H)(h:cg K F H v (.lst ds)):∃a xs,v=.ref a/\dJ K H a xs/\aB K F xs ds:=by
 rcases h with h|⟨a,xs,es,h1,f,g,h⟩;.rw[Rep]at h;obtain⟨a,xs,rfl,h1,f⟩:=h;exact⟨a,xs,rfl,s.seq h1,f⟩
 .cases h;exact⟨a,xs,h1,dJ.of f,g⟩
theorem cg.cH{m:Dc}(s:aF F H)(h:cg K F H v (.cH m)):∃a o,v=.ref a/\H a=some (.cG o m.ho):=by
 rcases h with h|⟨_,_,_,_,_,_,h⟩;.rw[Rep]at h;obtain⟨a,o,rfl,h⟩:=h;exact⟨a,o,rfl,s _ _ h⟩
 .cases h
theorem CV{X:Cx}{f:List (Addr×Obj)}{s:Shared}{a:Addr}{g:Obj}{m:Dc}(I:L2.Inv X f σ H s)(h:H a=some (.cG g m.ho)):∃o,s.heap.get? a=some o/\o.cls=.type "dict":=by have z:=(show bj X.prog X.w H s.heap a (.cG g m.ho)from I.hok a _ h).2;cases m with|k kvs=>obtain⟨_,_,vs,_,d2⟩:=(show bj X.prog X.w H s.heap a (.dK _)from z);exact d2.typeIs|t kvs=>obtain⟨_,_,xs,_,o,es,ep,h1,j,_⟩:=(show bj X.prog X.w H s.heap a (.dT _)from z);exact⟨o,h1,j.1⟩
theorem cg.dv{ks:List Int}(s:aF F H)(h:cg K F H v (.dv ks ds)):∃a o vs,v=.ref a/\H a=some (.cG o (yS ks vs))/\aB K F vs ds/\ks.length=ds.length:=by
 rcases h with h|⟨_,_,_,_,_,_,h⟩;.rw[Rep]at h;obtain⟨a,o,vs,rfl,h,h1,f⟩:=h;exact⟨a,o,vs,rfl,s _ _ h,h1,f⟩
 .cases h
theorem Fg{X:Cx}{f:List (Addr×Obj)}{s:Shared}{a:Addr}{g:Obj}{ks:List Int}(I:L2.Inv X f σ H s)(h:H a=some (.cG g (yS ks vs))):∃o,s.heap.get? a=some o/\o.cls=.type "dict":=by have z:=(show bj X.prog X.w H s.heap a (.cG g (yS ks vs))from I.hok a _ h).2;obtain⟨_,_,vs,_,d2⟩:=(show bj X.prog X.w H s.heap a (.dK _)from z);exact d2.typeIs
theorem cg.items{d:D}(s:aF F H)(h:cg K F H v d)(e:items d=some ds):∃a xs,v=.ref a/\(dJ K H a xs\/jg K H a xs)/\aB K F xs ds:=by cases d with|tup es=>cases e;obtain⟨a,xs,h1,f,g,_⟩:=h.tup s;exact⟨a,xs,h1,.inr f,g⟩|lst es=>cases e;obtain⟨a,xs,h1,f,g⟩:=h.lst s;exact⟨a,xs,h1,.inl f,g⟩|_=>cases e
theorem bG.cj{Q:VK}{d:D}(s:aF F H)(r:Rep K F v d)(k:∀v g f,Ext F H g f->bG K g f H v (.val d)->Q v f):Q v H:=k v F H (.refl s) r
theorem bC(i:Int):Rep K F (.int i) (.int i):=by rw[Rep]
theorem fO(i:Bool):Rep K F (.bl i) (.bl i):=by rw[Rep]
theorem PX(i:Str):Rep K F (.str i) (.str i):=by rw[Rep]
theorem OD:Rep K F .non .non:=by rw[Rep]
theorem um{Q:VK}{xs:List V}{p:Addr}(s:aF F H)(r:aB K F xs ds)(f:H p=none)(k:∀v h g,Ext F H h g->bG K h g H v (.own ds)->Q v g):Q (.ref p) (upd H p (.lst xs)):=by
 have j:F p=none:=by cases q:F p with|none=>rfl|some o=>rw[s p o q]at f;cases f
 exact k _ F _ ⟨aF.bL f,.refl _,s.trans (aF.bL f),λ_ a b=>absurd a b⟩ ⟨p,xs,rfl,aH,j,r,f⟩
theorem zR{Q:VK}{xs:List V}{p:Addr}(s:aF F H)(r:aB K F xs ds)(g:H p=none)(k:∀v j h,Ext F H j h->bG K j h H v (.val (.tup ds))->Q v h):Q (.ref p) (upd H p (.tup xs)):=by
 have m:F p=none:=by cases q:F p with|none=>rfl|some o=>rw[s p o q]at g;cases g
 have sm:aF F (upd F p (.tup xs)):=aF.bL m;refine k _ (upd F p (.tup xs)) _ ⟨aF.bL g,sm,λb o e=>?_,λb n l=>?_⟩ ?_
 . by_cases f:b=p;.subst f;rw[aH]at e ⊢;exact e
   .rw[ao f]at e ⊢;exact s b o e
 . by_cases f:b=p;.subst f;exact iQ g
   .rw[ao f]at l;exact absurd n l
 .show Rep K _ _ (.tup ds);rw[Rep];exact⟨p,xs,rfl,jg.of aH,r.mono sm⟩
end
theorem pG(k:Int)(t:Tok)(l:Addr)(a:Array Value)(n:Nat)(b:Option Addr)(sl:Array (Option Value)):Meets (Builtin.«int.__rmul__» ⟨[.int k t,.ref l],[]⟩) (λ_ R s=>s.heap.get? l=some ⟨.type "list",b,.seq a n,sl⟩/\R (.ok (.ret Value.notImplemented)) s):=.of_wp λprog w A R s h=>by obtain⟨c,g,d,e,os⟩:=s;obtain⟨f,h⟩:=h;wp_walk;exact⟨_,rfl,h⟩
theorem zU(l:Addr)(a:Array Value)(n:Nat)(b:Option Addr)(sl:Array (Option Value))(k:Int)(t:Tok)(h0:¬(!Builtin.List.listFitsIndex k)=true)(h1:¬a.size*k.toNat>(2^63-1)/8)(c:¬listTooLong (a.size*k.toNat)=true):Meets (Builtin.«list.__mul__» ⟨[.ref l,.int k t],[]⟩) (λ_ R s=>s.heap.get? l=some ⟨.type "list",b,.seq a n,sl⟩/\R (.ok (.ret (Value.ref s.heap.objs.size))) {s with heap:=s.heap.push {cls:=.type "list",data:=.seq (foldl (·++·) #[] (replicate (if a.isEmpty=true then 0 else k.toNat) a))}}):=.of_wp λprog w A R s h=>by obtain⟨f,g,d,j,os⟩:=s;obtain⟨e,h⟩:=h;have hz:=AutoListH.joined_fits c;wp_walk using wpAny_loadPart' e;refine wpAny_ite_false (decide_eq_false (Nat.not_lt.mpr hz)) ?_;wp_walk;exact⟨_,rfl,h⟩
section
variable{X:Cx}{c:Call}{e a b d:Expr}{p pa pb pd:P}{pos:Pos}
theorem G4:fH X (binaryOp .Add) (λx y H Q=>∃l b xs o,x=.ref l/\y=.ref b/\dJ X.K H l xs/\dJ X.K H b o/\xs.length+o.length<=sizeLine/\∀p,H p=none->Q (.ref p) (upd H p (.lst (xs++o)))):=by
 intro A s σ H x y v u Q I E G h;obtain⟨l,b,xs,o,rfl,rfl,J,L,hz,q⟩:=h;cases E;cases G;obtain⟨g,r,M,_⟩:=I.list J;obtain⟨f,B,t,_⟩:=I.list L;obtain⟨⟨cls,N,data,sl⟩,ho,hc,n,hd⟩:=id M.isList;obtain⟨⟨C,w,data2,z⟩,j,k,O,m⟩:=id t.isList;simp only at hc hd k m;subst hc hd k m;have e:g.toArray++f.toArray=(g++f).toArray:=by simp
 refine concat_meets ⟨_,ho,rfl⟩ ⟨_,j,rfl⟩ noFill_list_add seq_list_add PySem.F.slot_list_add PySem.F.entry_list_add (PySem.F.args_list_add_2 _ _) (list_addW l b g.toArray f.toArray n O N w sl z (by simp only[size_toArray];rw[<-r.length,<-B.length];exact hz)) ⟨ho,j,?_⟩;rw[e];exact⟨.ref _,_,I.Pu (t':=s.toks) (r.append B) (by rw[length_append];exact hz),rfl,q _ I.fresh⟩
theorem CZ:fH X (binaryOp .Add) (λx y H Q=>∃a b ys,x=.ref a/\y=.ref b/\jg X.K H a []/\jg X.K H b ys/\Q (.ref b) H):=by intro r s σ H x y v u Q I w z h;obtain⟨a,b,ys,rfl,rfl,A,B,q⟩:=h;cases w;cases z;obtain⟨l,r1,C,_⟩:=I.tuple A;obtain⟨f,M,E,_⟩:=I.tuple B;obtain⟨⟨cls,G,data,sl⟩,ho,hc,n,hd⟩:=id C;obtain⟨⟨t,m,data2,o⟩,g,j,J,k⟩:=id E;simp only at hc hd j k;subst hc hd j k;have L:l=[]:=r1.mG.mpr rfl;subst L;exact concat_meets ⟨_,ho,rfl⟩ ⟨_,g,rfl⟩ noFill_tuple_add seq_tuple_add slot_tuple_add entry_tuple_add (args_tuple_add_2 _ _) (tuple_addW0 a b _ f.toArray n J G m sl o (by simp)) ⟨ho,g,⟨.ref b,H,I,rfl,q⟩⟩
theorem aW:fH X (binaryOp .Add) (rD X.K (pD .add)):=by
 rintro f s σ H x y v u Q I g h⟨F,d,e,r,sm,o,q,he,k⟩;replace he:o4 d e=some r:=he;unfold o4 at he;split at he;.cases he;rw[o.int]at g;rw[q.int]at h;exact Pb f s σ H _ _ v u Q I g h ⟨_,_,rfl,rfl,bG.cj sm (bC _) k⟩
 .rename_i xs ys;obtain⟨m,he⟩:=aO he;subst he;obtain⟨a,vs,rfl,t,j⟩:=o.lst sm;obtain⟨b,w,rfl,z,l⟩:=q.lst sm;exact G4 f s σ H _ _ v u Q I g h ⟨a,b,vs,w,rfl,rfl,t,z,by rw[j.length,l.length];exact m,λp A=>um sm (j.append l) A k⟩
 . rename_i xs ys;obtain⟨m,he⟩:=aO he;subst he;obtain⟨a,vs,rfl,t,j,C⟩:=o.tup sm;obtain⟨b,w,rfl,z,l,E⟩:=q.tup sm;by_cases h0:vs=[]
   . subst h0;have B:xs=[]:=by have:=j.length;exact List.eq_nil_of_length_eq_zero this.symm
     subst B;exact CZ f s σ H _ _ v u Q I g h ⟨a,b,w,rfl,rfl,t,z,bG.cj sm E k⟩
   . refine Im f s σ H _ _ v u Q I g h ⟨a,b,vs,w,rfl,rfl,t,z,h0,by rw[j.length,l.length];exact m,λe=>?_,λ_ p A=>zR sm (j.append l) A k⟩;subst e;have B:ys=[]:=by have:=l.length;exact List.eq_nil_of_length_eq_zero this.symm
     subst B;rw[append_nil]at k;exact bG.cj sm C k
 .rename_i G J;obtain⟨m,he⟩:=aO he;subst he;rw[o.str]at g;rw[q.str]at h;exact vI f s σ H _ _ v u Q I g h ⟨_,_,rfl,rfl,m,bG.cj sm (PX _) k⟩
 .cases he
theorem cW:fH X (binaryOp .Sub) (rD X.K (pD .sub)):=by
 rintro f s σ H x y v u Q I g h⟨F,d,e,r,sm,j,l,he,k⟩;replace he:uw d e=some r:=he;unfold uw at he;split at he;.cases he;rw[j.int]at g;rw[l.int]at h;exact Ls f s σ H _ _ v u Q I g h ⟨_,_,rfl,rfl,bG.cj sm (bC _) k⟩
 .cases he
theorem HS:fH X (binaryOp .Mult) (λx y H Q=>∃l k xs,x=.ref l/\y=.int k/\dJ X.K H l xs/\-(2^63)<=k/\k<2^63/\xs.length*k.toNat<=sizeLine/\∀p,H p=none->Q (.ref p) (upd H p (.lst (replicate k.toNat xs).flatten))):=by
 intro w s σ H x y v u Q I A B h;obtain⟨l,k,xs,rfl,rfl,C,h1,E,hz,q⟩:=h;cases A;obtain⟨t,rfl⟩:=B;obtain⟨f,r,G,_⟩:=I.list C;obtain⟨⟨cls,z,data,sl⟩,ho,hc,n,hd⟩:=id G.isList;simp only at hc hd;subst hc hd;have g:f.toArray.size*k.toNat<=sizeLine:=by rw[size_toArray,<-r.length];exact hz
 have o:¬ f.toArray.size*k.toNat>(2^63-1)/8:=by
  have:(sizeLine:Nat)<=(2^63-1)/8:=by decide
  omega
 have j:foldl (·++·) #[] (replicate (if f.toArray.isEmpty=true then 0 else k.toNat) f.toArray)=(replicate k.toNat f).flatten.toArray:=by
  have f0:∀m:Nat,foldl (·++·) #[] (replicate m f.toArray)=(replicate m f).flatten.toArray:=λm=>by have:=foldl_rep f m [];rw[nil_append]at this;exact this
  rw[f0];cases f with|nil=>simp|cons a L=>rw[if_neg (by simp)]
 refine wpAny_binaryOp_repeat_ref (T:="list") (U:="int") (by decide) ⟨_,ho,rfl⟩ (λJ=>typeIs_int J k t) noFill_list_mul F.fills_int_mul F.slot_int_rmul repeat_list F.slot_int_index.lookup ?_;refine call_meets F.slot_int_rmul (typeIs_int s k t) F.entry_int_rmul (F.args_int_rmul_2 _ _) (pG k t l f.toArray n z sl) ⟨ho,rfl,⟨_,ho,rfl⟩,?_⟩;refine call_meets F.slot_list_mul ⟨_,ho,rfl⟩ F.entry_list_mul (F.args_list_mul_2 _ _) (zU l f.toArray n z sl k t (by rw[fitsIndex_both h1 E];exact Bool.false_ne_true) o (by rw[ue g];exact Bool.false_ne_true)) ⟨ho,?_⟩;rw[j];exact⟨.ref _,_,I.Pu (t':=s.toks) (r.rep k.toNat) (by rw[len_rep,Nat.mul_comm];exact hz),rfl,q _ I.fresh⟩
theorem kj:fillsNumberSlot (.type "tuple") "mul"=pure false:=PySem.fillsNumberSlot_seq (id:="tuple.__mul__") (r:=some (.builtin "tuple.__rmul__")) slot_tuple_mul.lookup (by decide+kernel) PySem.F.slot_tuple_rmul.lookup (by decide+kernel)
theorem qZ:seqRepeat? (.type "tuple")=pure (some (.builtin "tuple.__mul__")):=by unfold seqRepeat?;rw[PySem.seqSlot_of (T:="tuple") (name:="__mul__") (id:="tuple.__mul__") slot_tuple_mul.lookup (by decide+kernel),PySem.seqSlot_of (T:="tuple") (name:="__rmul__") (id:="tuple.__rmul__") PySem.F.slot_tuple_rmul.lookup (by decide+kernel)];rfl
theorem nT(k:Int)(t:Tok)(l:Addr)(f:Array Value)(n:Nat)(j:Option Addr)(sl:Array (Option Value)):Meets (Builtin.«int.__rmul__» ⟨[.int k t,.ref l],[]⟩) (λ_ R s=>s.heap.get? l=some ⟨.type "tuple",j,.seq f n,sl⟩/\R (.ok (.ret Value.notImplemented)) s):=.of_wp λprog w A R s h=>by obtain⟨m,g,d,o,os⟩:=s;obtain⟨q,h⟩:=h;wp_walk;exact⟨_,rfl,h⟩
theorem xf(l:Addr)(f:Array Value)(n:Nat)(r:Option Addr)(sl:Array (Option Value))(k:Int)(t:Tok)(h0:0<=k)(h1:k<2^63)(hz:f.size*k.toNat<=sizeLine)(u:0<f.size):Meets (Builtin.«tuple.__mul__» ⟨[.ref l,.int k t],[]⟩) (λ_ R s=>s.heap.get? l=some ⟨.type "tuple",r,.seq f n,sl⟩/\(k=1->R (.ok (.ret (Value.ref l))) s)/\(k≠1->R (.ok (.ret (Value.ref s.heap.objs.size))) {s with heap:=s.heap.push {cls:=.type "tuple",data:=.seq (foldl (·++·) #[] (replicate k.toNat f))}})):=.of_wp λprog w A R s h=>by
  obtain⟨y,g,d,I,os⟩:=s;obtain⟨o,z,B⟩:=h;have j:f.isEmpty=false:=by cases e:f.isEmpty with|false=>rfl|true=>rw[Array.isEmpty_iff_size_eq_zero]at e;omega
  show wpAny _ _ (asIndex (.int k t)>>=_) _ _ _;wp_walk using wpAny_loadPart' o;have C:IsTup y l f:=⟨_,o,rfl,n,rfl⟩;rw[if_neg (by simp;omega)];refine wpAny_bind (PyProof.Rows.tupleItemsOf_ C ?_);try dsimp only
  by_cases m:k=1;.rw[if_pos (by simp[m])];wp_walk using wpAny_loadPart' o;exact⟨_,rfl,z m⟩
  . have q:=B m;rw[if_neg (by simp[j,m])];by_cases E:k=0;.subst E;rw[if_pos (by simp)];unfold tupleExact;refine wpAny_bind (wpAny_newObj_type ?_);exact wpAny_pure ⟨_,rfl,q⟩
    . have J:(f.size:Int)*k<=sizeLine:=by
       have:((f.size*k.toNat:Nat):Int)<=(sizeLine:Nat):=by exact_mod_cast hz
       rw[Int.natCast_mul,show((k.toNat:Nat):Int)=k by omega]at this;exact this
      have G:(sizeLine:Int)<=(2^63-1)/8:=by decide
      rw[if_neg (by simp[j];omega),if_neg (by omega),if_neg (by simp[Builtin.Tuple.tupleTooMany];omega)];unfold tupleExact;refine wpAny_bind (wpAny_newObj_type ?_ ?_);.exact wpAny_pure ⟨_,rfl,q⟩
      .have:=foldl_rep f.toList k.toNat [];rw[nil_append,show f.toList.toArray=f by simp]at this;show(foldl (·++·) #[] (replicate k.toNat f)).size<=sizeLine;rw[show(#[]:Array Value)=([]:List Value).toArray from rfl,this,size_toArray,len_rep,length_toList,Nat.mul_comm];exact hz
theorem Ha:fH X (binaryOp .Mult) (λx y H Q=>∃l k xs,x=.ref l/\y=.int k/\jg X.K H l xs/\0<xs.length/\0<=k/\k<2^63/\xs.length*k.toNat<=sizeLine/\(k=1->Q (.ref l) H)/\(k≠1->∀p,H p=none->Q (.ref p) (upd H p (.tup (replicate k.toNat xs).flatten)))):=by
 intro w s σ H x y v u Q I A B h;obtain⟨l,k,xs,rfl,rfl,C,m,h1,E,hz,G,J⟩:=h;cases A;obtain⟨t,rfl⟩:=B;obtain⟨f,r,L,_⟩:=I.tuple C;obtain⟨⟨cls,z,data,sl⟩,ho,hc,n,hd⟩:=id L;simp only at hc hd;subst hc hd;have g:f.toArray.size*k.toNat<=sizeLine:=by rw[size_toArray,<-r.length];exact hz
 have j:foldl (·++·) #[] (replicate k.toNat f.toArray)=(replicate k.toNat f).flatten.toArray:=by have:=foldl_rep f k.toNat [];rw[nil_append]at this;exact this
 refine wpAny_binaryOp_repeat_ref (T:="tuple") (U:="int") (by decide) ⟨_,ho,rfl⟩ (λM=>typeIs_int M k t) kj F.fills_int_mul F.slot_int_rmul qZ F.slot_int_index.lookup ?_;refine call_meets F.slot_int_rmul (typeIs_int s k t) F.entry_int_rmul (F.args_int_rmul_2 _ _) (nT k t l f.toArray n z sl) ⟨ho,rfl,⟨_,ho,rfl⟩,?_⟩;refine call_meets slot_tuple_mul ⟨_,ho,rfl⟩ PySem.F.entry_tuple_mul (PySem.F.args_tuple_mul_2 _ _) (xf l f.toArray n z sl k t h1 E g (by rw[size_toArray,<-r.length];exact m)) ⟨ho,λe=>⟨.ref l,H,I,rfl,G e⟩,λe=>?_⟩;rw[j];refine⟨.ref s.heap.objs.size,_,I.laid (t':=s.toks) (o:=.tup (replicate k.toNat xs).flatten) (λb N q=>gb q) (cL) ?_,rfl,J e _ (I.hok.fresh (cL))⟩;exact⟨by rw[len_rep,Nat.mul_comm];exact hz,_,r.rep k.toNat,IsTup.new _ _⟩
theorem dR:fH X (binaryOp .Mult) (rD X.K (pD .mul)):=by
 rintro f s σ H x y v u Q I l g⟨F,d,e,r,sm,o,q,he,k⟩;replace he:jU d e=some r:=he;unfold jU at he;split at he;.obtain⟨hc,he⟩:=aO he;subst he;rw[o.int]at l;rw[q.int]at g;exact Ld f s σ H _ _ v u Q I l g ⟨_,_,rfl,rfl,hc,bG.cj sm (bC _) k⟩
 . rename_i xs i;obtain⟨⟨h1,m,j⟩,he⟩:=aO he;subst he;obtain⟨a,vs,rfl,t,h⟩:=o.lst sm;rw[q.int]at g;have w:i<2^63:=by have z:=Nat.le_mul_of_pos_left i.toNat m;have B:i.toNat<=16777216:=le_trans z j;omega
   exact HS f s σ H _ _ v u Q I l g ⟨a,i,vs,rfl,rfl,t,by omega,w,by rw[h.length];exact j,λp A=>um sm (h.rep i.toNat) A k⟩
 . rename_i xs i;obtain⟨⟨h1,m,j⟩,he⟩:=aO he;subst he;obtain⟨a,vs,rfl,t,h,C⟩:=o.tup sm;rw[q.int]at g;have w:i<2^63:=by have z:=Nat.le_mul_of_pos_left i.toNat m;have B:i.toNat<=16777216:=le_trans z j;omega
   refine Ha f s σ H _ _ v u Q I l g ⟨a,i,vs,rfl,rfl,t,by rw[h.length];exact m,h1,w,by rw[h.length];exact j,λe=>?_,λe p A=>zR sm (h.rep i.toNat) A k⟩;subst e;refine bG.cj sm ?_ k;have E:(replicate (1:Int).toNat xs).flatten=xs:=by simp
   rw[E];exact C
 .cases he
theorem vd:fH X (binaryOp .FloorDiv) (rD X.K (pD .fdiv)):=by
 rintro f s σ H x y v u Q I g h⟨F,d,e,r,sm,l,m,he,k⟩;replace he:oO d e=some r:=he;unfold oO at he;split at he
 . rename_i i j;obtain⟨⟨h1,q⟩,he⟩:=aO he;subst he;rw[l.int]at g;rw[m.int]at h;obtain⟨t,rfl⟩:=g;obtain⟨t',rfl⟩:=h;have o:j.natAbs.log2<9000:=by
    have:j.natAbs<2^200:=by
     have:(2:Nat)^200=1606938044258990275541962092341162602522202993782792835301376:=by decide
     omega
    have w:=(Nat.log2_lt (by omega)).mpr this;omega
   exact floordiv_int (by omega) (by rw[Int.fdiv_eq_ediv_of_nonneg i (by omega)];exact⟨.int _,H,I.tok _,⟨_,rfl⟩,bG.cj sm (bC _) k⟩) (.inl (PyProof.noPylong_of_log2 o))
 .cases he
theorem dB:fH X (binaryOp .Mod) (rD X.K (pD .mod)):=by
 rintro f s σ H x y v u Q I g h⟨F,d,e,r,sm,j,l,he,k⟩;replace he:vg d e=some r:=he;unfold vg at he;split at he;.obtain⟨h1,he⟩:=aO he;subst he;rw[j.int]at g;rw[l.int]at h;exact Qj f s σ H _ _ v u Q I g h ⟨_,_,rfl,rfl,h1,bG.cj sm (bC _) k⟩
 .cases he
theorem rZ:fH X (binaryOp .Pow) (rD X.K (pD .pow)):=by
 rintro f s σ H x y v u Q I g h⟨F,d,e,r,sm,j,l,he,k⟩;replace he:uR d e=some r:=he;unfold uR at he;split at he;.obtain⟨⟨h1,o,m⟩,he⟩:=aO he;subst he;rw[j.int]at g;rw[l.int]at h;exact O8 f s σ H _ _ v u Q I g h ⟨_,_,rfl,rfl,⟨h1,by omega,m⟩,bG.cj sm (bC _) k⟩
 .cases he
theorem az{o:Op}{op:Operator}(ho:fH X (binaryOp op) (rD X.K (pD o)))(f:SX X c a pa)(g:SX X c b pb):SX X c (.BinOp a op b pos) (.bin o pa pb):=vM (λh1 h=>Vx ho h1 h) f g (λρ=>rfl) rfl
theorem De(j:SX X c a pa):SX X c (.UnaryOp .USub a pos) (.neg pa):=by refine Mf (f:=Ei) (λh1=>Uq ?_ h1) j (λρ=>rfl) rfl;rintro g s σ H x v Q I h⟨F,d,r,sm,l,he,k⟩;unfold Ei at he;obtain⟨i,m,o⟩:=map_some he;subst o;cases d<;>cases m;rw[l.int]at h;exact Nb g s σ H _ v Q I h ⟨_,rfl,bG.cj sm (bC _) k⟩
theorem xM{op:CmpOp}{f:Int->Int->Bool}(ho:fH X (compareOp op) (Jp λi j=>.bl (f i j))):fH X (compareOp op) (rD X.K λx y=>(Gx f x y).map λk=>.val (.bl k)):=by
 rintro g s σ H x y v u Q I l m⟨F,d,e,r,sm,o,q,he,k⟩;obtain⟨t,h,w⟩:=map_some (show(Gx f d e).map _=some r from he);subst w;unfold Gx at h;split at h;.cases h;rw[o.int]at l;rw[q.int]at m;exact ho g s σ H _ _ v u Q I l m ⟨_,_,rfl,rfl,bG.cj sm (fO _) k⟩
 .cases h
theorem Bv{op:CmpOp}{f:Int->Int->Bool}(ho:fH X (compareOp op) (Jp λi j=>.bl (f i j))){o:Cm}(hc:cm o=Gx f):fH X (compareOp op) (rD X.K (uE o)):=by
 have e:uE o=λx y=>(Gx f x y).map λk=>.val (.bl k):=by funext x y;unfold uE;rw[hc]
 rw[e];exact xM ho
theorem Li:fH X (compareOp .Lt) (rD X.K λx y=>(Gx (λi j=>decide (i<j)) x y).map λk=>.val (.bl k)):=xM Vm
theorem M3:fH X (compareOp .LtE) (rD X.K (uE .le)):=Bv U9 rfl
theorem ni:fH X (compareOp .Gt) (rD X.K (uE .gt)):=Bv Tr rfl
theorem zE{d:D}(h:cg K F H v d):decide (v=.non)=ie d:=by cases d with
 |non=>rw[h.non];rfl|bl _=>rw[h.bl];rfl|int _=>rw[h.int];rfl|str _=>rw[h.str];rfl|tup _=>
   rcases h with h|⟨a,_,_,rfl,_⟩;.rw[Rep]at h;obtain⟨a,_,rfl,_⟩:=h;rfl
   .rfl|lst _=>
   rcases h with h|⟨a,_,_,rfl,_⟩;.rw[Rep]at h;obtain⟨a,_,rfl,_⟩:=h;rfl
   .rfl|cH _=>
   rcases h with h|⟨a,_,_,rfl,_⟩;.rw[Rep]at h;obtain⟨a,_,rfl,_⟩:=h;rfl
   .rfl|dv _ _=>
   rcases h with h|⟨a,_,_,rfl,_⟩;.rw[Rep]at h;obtain⟨a,_,_,rfl,_⟩:=h;rfl
   .rfl
theorem Ir:fH X (compareOp .IsNot) (rD X.K (uE .Jz)):=by
 rintro f s σ H x y v u Q I h j⟨F,d,e,r,sm,l,m,he,k⟩;obtain⟨t,g,o⟩:=map_some (show(Yb true d e).map _=some r from he);subst o;unfold Yb at g;split at g;.cases g;exact Hs f s σ H x y v u Q I h j ⟨m.non,by rw[zE l];exact bG.cj sm (fO _) k⟩
 .cases g
end
section
variable{X:Cx}{c:Call}{e a b d:Expr}{p pa pb pd:P}{pos:Pos}{rest:List Expr}
theorem tL{x:D}{k:Bool}(h:RQ x=some k):x=.bl k:=by cases x<;>cases h;rfl
theorem cF{x:D}{k:Int}(h:dW x=some k):x=.int k:=by cases x<;>cases h;rfl
theorem bT.bool{g j:Hp}{f:L2.St}{r:R}{k:Bool}(h:bT K g ρ' f j ρ σ H v r)(e:r.d=.bl k):v=.bl k:=by cases r with|val d=>cases(show d=.bl k from e);have h:Rep K g v (.bl k):=h;rw[Rep]at h;exact h|own ds=>cases e
def ST(X:Cx)(c:Call)(e:Expr)(p:P):Prop:=PT X e (Dg X.K (iR (HH.ev c p)))
def SW(X:Cx)(c:Call)(e:Expr)(p:P):Prop:=PW X e (Dg X.K (iR (HH.ev c p)))
theorem SW.st(h:SW X c e p):ST X c e p:=PW.pt h
theorem kI{t:TE}{Q:Bool->Hp->Prop}(hi:∀Q,uM X.K (HH.ev c p) σ H Q->t σ H Q)(h:Dg X.K (iR (HH.ev c p)) σ H Q):t σ H λx l=>∃k,x=.bl k/\Q k l:=by obtain⟨F,ρ,k,ρ',g,e,q⟩:=h;obtain⟨r,j,m,f⟩:=aa e;have o:=aA f;clear f;obtain⟨f,u⟩:=o;subst u;exact hi _ ⟨F,ρ,r,j,g,m,λv w y s z=>⟨k,z.bool (tL f),q w y s⟩⟩
theorem nu(h:SX X c e p)(he:∀f,isTrue e X.env f=(do let v<-f;standAt e.pos;holding [v] (truthy v)):=by intro _;rfl):ST X c e p:=uJ (Mm h.ev he) λσ H Q q=>kI (λ_ z=>z) q
theorem cC{o:Cm}{op:CmpOp}(ho:fH X (compareOp op) (rD X.K (uE o)))(j:SX X c a pa)(l:SX X c b pb)(m:behindInMarks op b=false):ST X c (.Compare a [op] [b] pos) (.cmp o pa pb):=by obtain⟨y,A,h1,B,C⟩:=j.jc l;refine uJ (yL ho h1 B m) λσ H Q q=>kI (t:=RG (rD X.K (uE o)) y A) (λQ z=>?_) q;obtain⟨F,ρ,r,ρ',g,e,k⟩:=z;rw[HH.E8]at e;obtain⟨h,E,G,f⟩:=aa e;have I:=aA f;clear f;obtain⟨f,J⟩:=I;subst J;refine C g G λv u L Y s M N=>⟨L,h.1,h.2,r,s.gs.sub,M,N,f,λw O U x W=>?_⟩;exact k w O U (s.trans (x.stp s.gs)) (.later s (W.lZ s.gs))
theorem Qn(l:ST X c a pa):ST X c (.UnaryOp .Not a pos) (.not pa):=by
 refine uJ (Qf l) ?_;rintro σ H Q⟨F,ρ,k,ρ',g,e,q⟩;unfold iR at e;rw[HH.E5]at e;obtain⟨r,m,o,f⟩:=aa e;obtain⟨h,t,u,w⟩:=aa o;cases w;have y:=aA f;clear f;obtain⟨f,z⟩:=y;subst z;have f:(!h)=k:=by cases f;rfl
 exact⟨F,ρ,h,_,g,u,λA j s=>by show Q (!h) j;rw[f];exact q A j s⟩
theorem PQ(ρ:List Sl):iR (HH.ev c (.or pa pb)) ρ=(iR (HH.ev c pa) ρ).bind λx ρ=>if x then .ok true ρ else iR (HH.ev c pb) ρ:=by unfold iR;rw[HH.E7];unfold iR;cases HH.ev c pa ρ with|exc _ _=>rfl|stuck=>rfl|ok r f=>simp only[Res.bind];cases h:RQ r.d with|none=>rfl|some k=>cases k with|true=>rfl|false=>simp only[lift,false_eq_true,if_false];cases HH.ev c pb f with|exc _ _=>rfl|stuck=>rfl|ok g j=>simp only[Res.bind];cases h2:RQ g.d with|none=>rfl|some l=>rfl
theorem wJ(f:ST X c a pa):SW X c (.BoolOp .Or [a] pos) pa:=Ov f
theorem zf(h:ST X c a pa)(j:SW X c (.BoolOp .Or (b::rest) pos) pb):SW X c (.BoolOp .Or (a::b::rest) pos) (.or pa pb):=by refine Uu (Sw h j) ?_;rintro σ H Q⟨F,ρ,k,ρ',g,e,q⟩;rw[PQ]at e;obtain⟨x,f,l,e⟩:=aa e;refine⟨F,ρ,x,f,g,l,λF1 m s1=>?_⟩;cases x with|true=>rw[if_pos rfl]at e ⊢;cases e;exact q F1 m s1|false=>rw[if_neg Bool.false_ne_true]at e ⊢;exact⟨F1,f,k,ρ',s1.gs,e,λo r s2=>q o r (s1.trans s2)⟩
theorem My(j:SX X c a pa):SX X c (.UnaryOp .Not a pos) (.not pa):=by refine⟨cR (Py j.ev) ?_,λi h=>by cases h⟩;rintro σ H Q⟨F,ρ,r,ρ',g,e,k⟩;rw[HH.E5]at e;obtain⟨x,l,m,o⟩:=aa e;cases o;exact kI (c:=c) (λ_ z=>z) ⟨F,ρ,x,_,g,m,λf q s=>k _ f q s (show Rep X.K f _ _ from fO _)⟩
theorem Hw{op}(f:SX X c a pa):PE X (.BoolOp op [a] pos) (uM X.K (HH.ev c pa)):=La f.ev
theorem Ph(o:SX X c a pa)(q:PE X (.BoolOp .And (b::rest) pos) (uM X.K (HH.ev c pb))):SX X c (.BoolOp .And (a::b::rest) pos) (.and pa pb):=by refine⟨cR (Nh o.ev q) ?_,λi h=>by cases h⟩;rintro σ H Q⟨F,ρ,r,ρ',g,e,k⟩;rw[HH.E6]at e;obtain⟨x,f,s,e⟩:=aa e;refine kI (c:=c) (λ_ z=>z) (Q:=λx j=>if x=true then uM X.K (HH.ev c pb) σ j Q else Q (.bl false) j) ⟨F,ρ,x,f,g,s,λF1 j s1=>?_⟩;cases x with|true=>rw[if_pos rfl]at e ⊢;obtain⟨y,t,u,w⟩:=aa e;cases w;obtain⟨A,B,C,l⟩:=aa u;have E:=aA l;clear l;obtain⟨l,G⟩:=E;subst G;refine⟨F1,f,A,_,s1.gs,C,λv m I s2 J=>?_⟩;rw[J.bool (tL l)];exact k _ m I (s1.trans s2) (show Rep X.K m _ _ from fO _)|false=>rw[if_neg Bool.false_ne_true]at e ⊢;cases e;exact k _ F1 j s1 (show Rep X.K F1 _ _ from fO _)
theorem nM(hc:ST X c e p)(w:SX X c a pa)(y:SX X c b pb):SX X c (.IfExp e a b pos) (.JB p pa pb):=by refine⟨cR (FW hc w.ev y.ev) ?_,λi h=>by cases h⟩;rintro σ H Q⟨F,ρ,r,ρ',g,e,k⟩;rw[HH.E9]at e;obtain⟨x,f,z,e⟩:=aa e;refine⟨F,ρ,x,f,g,z,λF1 B s1=>?_⟩;cases x with|true=>rw[if_pos rfl]at e ⊢;obtain⟨j,l,m,o⟩:=aa e;cases o;refine⟨F1,f,j,_,s1.gs,m,λv A q s2 s=>?_⟩;obtain⟨t,s3,_,u⟩:=s2.cG s;exact k v t q (s1.trans s3) u|false=>rw[if_neg Bool.false_ne_true]at e ⊢;obtain⟨j,l,m,o⟩:=aa e;cases o;refine⟨F1,f,j,_,s1.gs,m,λv A q s2 s=>?_⟩;obtain⟨t,s3,_,u⟩:=s2.cG s;exact k v t q (s1.trans s3) u
theorem sr:∀{ps:List P}{ρ ρ':List Sl}{ds:List D},evs c ps ρ=.ok ds ρ'->ds.length=ps.length|[],_,_,_,h=>by rw[evs]at h;cases h;rfl|p::ps,_,_,_,h=>by rw[evs]at h;obtain⟨r,f,_,h⟩:=aa h;obtain⟨xs,g,j,h⟩:=aa h;cases h;simp[sr j]
theorem aJ:SA X c [] []:=⟨tQ cY λσ H Q⟨F,ρ,ds,ρ',g,e,k⟩=>by rw[evs]at e;cases e;exact k [] F H (.refl g) .nil,rfl⟩
theorem za{ps:List P}(h:SX X c a pa)(hr:SA X c es ps)(hs:starEach (a::es) X.env=(false,eval a X.env)::starEach es X.env:=by rfl):SA X c (a::es) (pa::ps):=by refine⟨tQ (bF h.ev hr.1 hs) ?_,by simp[hr.2]⟩;rintro σ H Q⟨F,ρ,ds,ρ',g,e,k⟩;rw[evs]at e;obtain⟨r,f,j,e⟩:=aa e;obtain⟨xs,l,m,e⟩:=aa e;cases e;refine⟨F,ρ,r,f,g,j,λv y z s o=>?_⟩;obtain⟨F1,s1,_,q⟩:=s.cG o;refine⟨F1,f,xs,_,s1.gs,m,λvs t u s2 w=>?_⟩;exact k _ t u (s1.trans s2) (.cons (q.mono s2.cz) w)
theorem Ext.Ij{h j:Hp}{Q:VK}{xs:List V}(s:aq K j ρ σ h F ρ' σ H)(r:aB K F xs ds)(k:∀v g f,aq K j ρ σ h g ρ' σ f->bT K g ρ' σ f ρ σ h v (.val (.tup ds))->Q v f)(p:Addr)(l:H p=none):Q (.ref p) (upd H p (.tup xs)):=zR s.gs.sub r l λv g f x m=>k v g f (s.trans (x.stp s.gs)) m
theorem cQ{ps:List P}{x1}(h:SA X c es ps)(hz:ps.length<=sizeLine:=by decide):SX X c (.Tuple es x1 pos) (.tup ps):=by refine⟨cR (Oi h.1) ?_,λi h=>by cases h⟩;rintro σ H Q⟨F,ρ,r,ρ',g,e,k⟩;rw[HH.E10]at e;obtain⟨ds,l,f,e⟩:=aa e;cases e;exact⟨F,ρ,ds,_,g,f,λvs o q s j=>⟨by rw[j.length,sr f];exact hz,λp m=>Ext.Ij s j k p m⟩⟩
theorem bU{ps:List P}(h:SA X c es ps)(hz:ps.length<=sizeLine:=by decide):SX X c (.List es pos) (.lst ps):=by refine⟨cR (LQ h.1) ?_,λi h=>by cases h⟩;rintro σ H Q⟨F,ρ,r,ρ',g,e,k⟩;rw[HH.E11]at e;obtain⟨ds,l,f,e⟩:=aa e;cases e;exact⟨F,ρ,ds,_,g,f,λvs u w s j=>⟨by rw[j.length,sr f];exact hz,λp m=>um s.gs.sub j m λv o q x t=>k v o q (s.trans (x.stp s.gs)) (.later s (t.lZ s.gs))⟩⟩
theorem Ej{i:Int}{d:D}(h:at' ds i=some d):∃j,L2.gQ ds.length i=some j/\ds[j]?=some d:=bB h
theorem aaN:Wi X (rD X.K HX):=by
 rintro f slice g s σ H x y v u Q I m l⟨F,d,e,r,sm,t,A,he,k⟩hs;unfold HX at he;obtain⟨ds,B,he⟩:=bB he;obtain⟨i,C,he⟩:=bB he;obtain⟨z,E,he⟩:=map_some he;subst he;cases cF C;rw[A.int]at l;obtain⟨p,xs,rfl,hq,o⟩:=t.items sm B;obtain⟨j,h1,G⟩:=Ej E;obtain⟨w,J,q⟩:=o.get G;have h:Ce xs i=some w:=by unfold Ce;rw[o.length,h1];exact J
 rcases hq with hq|hq;.exact yq f slice g s σ H _ _ v u Q I m l ⟨p,xs,i,w,rfl,rfl,hq,h,bG.cj sm q k⟩ hs
 .exact K8 f slice g s σ H _ _ v u Q I m l ⟨p,xs,i,w,rfl,rfl,hq,h,bG.cj sm q k⟩ hs
theorem au(g:SX X c a pa)(h:SX X c b pb)(hs:rO b:=by intro _ _;rfl):SX X c (.Subscript a b pos) (.idx pa pb):=vM (f:=HX) (λh1 j=>J5 aaN h1 j hs) g h (λρ=>rfl) rfl
def J6(K:PySem.W.Frag)(f:D->Option R):List V->Hp->VK->Prop:=λxs H Q=>∃x,xs=[x]/\rD1 K f x H Q
theorem oZ{E:Expr}{f:D->Option R}{q:P}(l:∀{t},PA X [a] t->PE X E (XX (J6 X.K f) t))(m:SX X c a pa)(o:∀ρ,HH.ev c q ρ=(HH.bK (isVar pa) (HH.ev c pa) ρ).bind λx ρ=>lift (f x) ρ)(u:isVar q=none)(hs:starEach [a] X.env=(false,eval a X.env)::starEach [] X.env:=by rfl):SX X c E q:=by obtain⟨N,h1,y⟩:=m.bK;refine⟨cR (l (bF h1 cY hs)) ?_,λi h=>by rw[u]at h;cases h⟩;rintro σ H Q⟨F,ρ,r,ρ',g,e,k⟩;rw[o]at e;obtain⟨x,z,A,j⟩:=aa e;have B:=aA j;clear j;obtain⟨j,C⟩:=B;subst C;refine y g A λv G O s I=>⟨v,rfl,G,x,r,s.gs.sub,I,j,λw J L x M=>?_⟩;exact k w J L (s.trans (x.stp s.gs)) (.later s (M.lZ s.gs))
theorem UT:dj X (.builtin "len") (J6 X.K λx=>blt .len [x]):=by rintro f s σ H xs g Q I r⟨x,h,F,d,j,sm,l,he,k⟩;obtain⟨ds,m,he⟩:=map_some (show(items d).map _=some j from he);subst he;obtain⟨p,ys,rfl,o,q⟩:=l.items sm m;exact sG f s σ H xs g Q I r ⟨p,ys,h,o,by rw[q.length];exact bG.cj sm (bC _) k⟩
theorem NK:dj X (.type "list") (J6 X.K λx=>blt .list [x]):=by rintro f s σ H xs g Q I r⟨x,h,F,d,j,sm,m,he,k⟩;obtain⟨ds,o,he⟩:=map_some (show(items d).map _=some j from he);subst he;obtain⟨p,ys,rfl,q,t⟩:=m.items sm o;exact rN f s σ H xs g Q I r ⟨p,ys,h,q,λl u=>um sm t u k⟩
theorem IK:dj X (.type "tuple") (J6 X.K λx=>blt .tuple [x]):=by rintro f s σ H xs j Q I r⟨x,m,F,d,t,sm,o,he,k⟩;obtain⟨ds,g,he⟩:=map_some (show(items d).map _=some t from he);subst he;cases d with|tup es=>cases g;obtain⟨a,ys,rfl,h,q,rt⟩:=o.tup sm;exact jj f s σ H xs j Q I r ⟨a,ys,m,.inr ⟨h,bG.cj sm rt k⟩⟩|lst es=>cases g;obtain⟨a,ys,rfl,h,q⟩:=o.lst sm;exact jj f s σ H xs j Q I r ⟨a,ys,m,.inl ⟨h,λl u=>zR sm q u k⟩⟩|_=>cases g
theorem kh(f:x="len")(g:Gl X x)(j:X.mg x=none)(k:SX X c a pa)(hs:starEach [a] X.env=(false,eval a X.env)::starEach [] X.env:=by rfl):SX X c (.Call (.Name x p') [a] [] pos) (.blt .len [pa]):=by subst f;exact oZ (λh=>dC UT g j PySem.boot_len h (he:=hs)) k (λρ=>rfl) rfl hs
theorem Hh(f:x="list")(g:Gl X x)(j:X.mg x=none)(k:SX X c a pa)(hs:starEach [a] X.env=(false,eval a X.env)::starEach [] X.env:=by rfl):SX X c (.Call (.Name x p') [a] [] pos) (.blt .list [pa]):=by subst f;exact oZ (λh=>kJ NK g j (by decide+kernel) h (he:=hs)) k (λρ=>rfl) rfl hs
theorem nW(f:x="tuple")(g:Gl X x)(j:X.mg x=none)(k:SX X c a pa)(hs:starEach [a] X.env=(false,eval a X.env)::starEach [] X.env:=by rfl):SX X c (.Call (.Name x p') [a] [] pos) (.blt .tuple [pa]):=by subst f;exact oZ (λh=>kJ IK g j (by decide+kernel) h (he:=hs)) k (λρ=>rfl) rfl hs
end
def Hu(K:PySem.W.Frag)(np:Nat)(f:List Sl->Res R):Sp:=λvs H Q _=>vs.length=np/\∃F args r a,GS K F args (vs.map some) H/\f args=.ok r a/\∀v e b c,aq K F args (vs.map some) H e a b c->bT K e a b c args (vs.map some) H v r->Q v c
section
variable{K:PySem.W.Frag}
def wK(K:PySem.W.Frag)(F:Hp)(ρ:List Sl)(σ:L2.St)(H:Hp)(ρ₀:List Sl)(H₀:Hp)(v:V):Arg->Prop|.dat d=>Rep K F v d|.tmp ds=>∃x xs,v=.ref x/\H x=some (.lst xs)/\F x=none/\aB K F xs ds/\¬ Own ρ σ x/\(Own ρ₀ σ x\/H₀ x=none)|.dI i=>σ[i]?=some (some v)
structure uy(K:PySem.W.Frag)(F:Hp)(ρ:List Sl)(σ:L2.St)(H:Hp)(ρ₀:List Sl)(H₀:Hp)(as:List Arg)(vs:List V):Prop where
 len:as.length=vs.length
 one:∀(j:Nat)(a:Arg)(v:V),as[j]?=some a->vs[j]?=some v->wK K F ρ σ H ρ₀ H₀ v a
 dis:∀(j k:Nat)(ds es:List D)(x:Addr),as[j]?=some (.tmp ds)->as[k]?=some (.tmp es)->vs[j]?=some (.ref x)->vs[k]?=some (.ref x)->j=k
theorem wK.later{b f:Hp}{a:Arg}(s:aq K F ρ σ H b ρ' σ f)(h:wK K F ρ σ H ρ₀ H₀ v a):wK K b ρ' σ f ρ₀ H₀ v a:=by cases a with|dat d=>exact Rep.mono s.cz h|dI i=>exact h|tmp ds=>
   obtain⟨x,xs,h1,c,g,j,e,k⟩:=h;refine⟨x,xs,h1,s.keep x _ c e,?_,j.mono s.cz,λo=>?_,k⟩;.cases q:b x with|none=>rfl|some o=>
       rcases s.vp x g (by rw[q];simp)with z|z;.exact absurd z e
       .exact(DR c z).elim
   . rcases s.tE x o with z|z;.exact e z
     .rw[c]at z;cases z
theorem uy.nil:uy K F ρ σ H ρ₀ H₀ [] []:=⟨rfl,λj a v h=>by simp at h,λj k ds es x h=>by simp at h⟩
theorem uy.cons{F H H₀:Hp}{ρ ρ₀:List Sl}{σ:L2.St}{a:Arg}{v:V}{as:List Arg}{vs:List V}(h:wK K F ρ σ H ρ₀ H₀ v a)(t:uy K F ρ σ H ρ₀ H₀ as vs)(hd:∀ds x,a=.tmp ds->v=.ref x->∀(k:Nat)es,as[k]?=some (.tmp es)->vs[k]?≠some (.ref x)):uy K F ρ σ H ρ₀ H₀ (a::as) (v::vs):=by
 refine⟨by simp[t.len],λj b u h1 c=>?_,λj k ds es x h1 c e f=>?_⟩;.cases j with|zero=>simp at h1 c;subst h1;subst c;exact h|succ j=>exact t.one j b u (by simpa using h1) (by simpa using c)
 .cases j with
   |zero=>cases k with|zero=>rfl|succ k=>simp at h1 e;exact absurd (by simpa using f) (hd ds x h1 e k es (by simpa using c))
   |succ j=>cases k with|zero=>simp at c f;exact absurd (by simpa using e) (hd es x c f j ds (by simpa using h1))|succ k=>rw[t.dis j k ds es x (by simpa using h1) (by simpa using c) (by simpa using e) (by simpa using f)]
def Dd(ρ:List Sl):Arg->Sl->Prop|.dat d,s=>s=.val false d|.tmp ds,s=>s=.own false ds|.dI i,s=>(∃b d,ρ[i]?=some (.val b d)/\s=.val false d)\/(∃b ds,ρ[i]?=some (.own b ds)/\s=.own true ds)\/∃ds,ρ[i]?=some (.lent ds)/\s=.lent ds
theorem m9{ρ:List Sl}:∀{as:List Arg}{c:List Nat}{args:List Sl},bA ρ as c=some args->args.length=as.length/\(∀(j:Nat)(a:Arg)(s:Sl),as[j]?=some a->args[j]?=some s->Dd ρ a s)/\(∀(j:Nat)(i:Nat)(s:Sl)ds,as[j]?=some (.dI i)->args[j]?=some s->lst? s=some ds->i∉c)/\(∀(j k:Nat)(i:Nat)(s t:Sl)ds es,as[j]?=some (.dI i)->as[k]?=some (.dI i)->args[j]?=some s->args[k]?=some t->lst? s=some ds->lst? t=some es->j=k)
 |[],c,args,h=>by rw[bA]at h;cases h;exact⟨rfl,λj a s h=>by simp at h,λj i s ds h=>by simp at h,λj k i s t ds es h=>by simp at h⟩|a::as,c,args,h=>by--the abh slot,the abi
   have key:∃s0 r u,args=s0::r/\bA ρ as u=some r/\Dd ρ a s0/\((∃i ds,a=.dI i/\lst? s0=some ds/\u=i::c/\i∉c)\/((∀i ds,a=.dI i->lst? s0≠some ds)/\u=c)):=by cases a with|dat d=>rw[bA]at h;obtain⟨r,g,l⟩:=map_some h;exact⟨_,r,c,l.symm,g,rfl,.inr ⟨λi ds z=>(by cases z),rfl⟩⟩|tmp d=>rw[bA]at h;obtain⟨r,g,l⟩:=map_some h;exact⟨_,r,c,l.symm,g,rfl,.inr ⟨λi ds z=>(by cases z),rfl⟩⟩|dI i=>
      rw[bA]at h;split at h;.rename_i b d q;obtain⟨r,g,l⟩:=map_some h;exact⟨_,r,c,l.symm,g,.inl ⟨b,d,q,rfl⟩,.inr ⟨λ_ _ _ z=>(by cases z),rfl⟩⟩
      . rename_i b ds q;split at h;.cases h
        .rename_i o;obtain⟨r,g,l⟩:=map_some h;exact⟨_,r,_,l.symm,g,.inr (.inl ⟨b,ds,q,rfl⟩),.inl ⟨i,_,rfl,rfl,rfl,by simpa using o⟩⟩
      . rename_i ds q;split at h;.cases h
        .rename_i o;obtain⟨r,g,l⟩:=map_some h;exact⟨_,r,_,l.symm,g,.inr (.inr ⟨ds,q,rfl⟩),.inl ⟨i,_,rfl,rfl,rfl,by simpa using o⟩⟩
      .cases h
   obtain⟨s0,r,u,rfl,hr,A,o⟩:=key;obtain⟨M,l2,B,N⟩:=m9 hr;have sub:∀i,i∉u->i∉c:=λi hi J=>by
    rcases o with⟨_,_,_,_,rfl,_⟩|⟨_,rfl⟩;.exact hi (mem_cons_of_mem _ J)
    .exact hi J
   refine⟨by simp[M],λj b s h1 f=>?_,λj i s ds h1 f p=>?_,λj k i s t ds es h1 f p y C E=>?_⟩;.cases j with|zero=>simp at h1 f;subst h1;subst f;exact A|succ j=>exact l2 j b s (by simpa using h1) (by simpa using f)
   .cases j with|zero=>
       simp at h1 f;subst h1;subst f;rcases o with⟨L,_,e,_,_,m⟩|⟨m,_⟩;.cases e;exact m
       .exact absurd p (m i ds rfl)|succ j=>exact sub i (B j i s ds (by simpa using h1) (by simpa using f) p)
   . have O:∀(k:Nat)(t:Sl)es,a=.dI i->lst? s0=some ds->(as[k]?=some (.dI i))->r[k]?=some t->lst? t=some es->False:=λk t es w G I ht he=>by
      rcases o with⟨L,_,e,_,rfl,m⟩|⟨m,_⟩;.rw[w]at e;cases e;exact B k i t es I ht he mem_cons_self
      .exact m i ds w G
     have Q:∀(k:Nat)(t:Sl)es,a=.dI i->lst? s0=some es->(as[k]?=some (.dI i))->r[k]?=some t->lst? t=some ds->False:=λk t es w G I ht he=>by
      rcases o with⟨L,_,e,_,rfl,m⟩|⟨m,_⟩;.rw[w]at e;cases e;exact B k i t ds I ht he mem_cons_self
      .exact m i es w G
     cases j with
     |zero=>cases k with|zero=>rfl|succ k=>simp at h1 p;subst p;exact(O k t es h1 C (by simpa using f) (by simpa using y) E).elim
     |succ j=>cases k with|zero=>simp at f y;subst y;exact(Q j s es f E (by simpa using h1) (by simpa using p) C).elim|succ k=>rw[N j k i s t ds es (by simpa using h1) (by simpa using f) (by simpa using p) (by simpa using y) C E]
theorem uy.get(A:uy K F ρ σ H ρ₀ H₀ as vs){args:List Sl}{j:Nat}{s:Sl}(c:args.length=as.length)(h:args[j]?=some s):∃a v,as[j]?=some a/\vs[j]?=some v/\wK K F ρ σ H ρ₀ H₀ v a:=by
 have e:j<args.length:=(dw h).1;have h1:j<as.length:=by omega
 have b:j<vs.length:=by rw[<-A.len];exact h1
 exact⟨as[j],vs[j],by simp[h1],by simp[b],A.one j _ _ (by simp[h1]) (by simp[b])⟩
theorem args_gs{args:List Sl}(g:GS K F ρ σ H)(A:uy K F ρ σ H ρ₀ H₀ as vs)(h:bA ρ as []=some args):GS K F args (vs.map some) H:=by
 obtain⟨I,l2,l3,Z⟩:=m9 h;have M:∀{j:Nat}{v:V},vs[j]?=some v->(vs.map some)[j]?=some (some v):=λe=>by rw[getElem?_map,e];rfl
 have dn:∀{j:Nat}{v:V},(vs.map some)[j]?=some (some v)->vs[j]?=some v:=λ{j v}e=>by rw[getElem?_map]at e;cases q:vs[j]?with|none=>rw[q]at e;cases e|some w=>rw[q]at e;cases e;rfl
 refine⟨g.sub,by rw[I,A.len,length_map],λj b d e=>?_,λj s ds e J=>?_,λj k x⟨⟨s,ds,e1,e2⟩,N⟩⟨⟨t,es,f1,f2⟩,f3⟩=>?_⟩;.obtain⟨a,v,h1,u,m⟩:=A.get I e;have B:=l2 j a _ h1 e;refine⟨v,M u,?_⟩;cases a with|dat d'=>cases B;exact m|tmp ds=>cases B|dI i=>
     rcases B with⟨O,d',r,c⟩|⟨_,_,_,c⟩|⟨_,_,c⟩;.cases c;obtain⟨w,f,p⟩:=g.val i O d r;have m:σ[i]?=some (some v):=m;rw[m]at f;cases f;exact p
     .cases c
     .cases c
 .obtain⟨a,v,h1,u,m⟩:=A.get I e;have B:=l2 j a _ h1 e;cases a with|dat d'=>cases B;cases J|tmp es=>cases B;cases J;obtain⟨x,xs,rfl,c,f,p,_⟩:=m;exact⟨x,_,M u,c,f,xs,rfl,p⟩|dI i=>
     have m:σ[i]?=some (some v):=m;rcases B with⟨O,d',r,c⟩|⟨O,es,r,c⟩|⟨es,r,c⟩;.cases c;cases J
     .cases c;cases J;obtain⟨x,xs,f,p⟩:=g.own i _ _ r rfl;rw[m]at f;cases f;exact⟨x,xs,M u,p⟩
     .cases c;cases J;obtain⟨x,xs,f,p⟩:=g.own i _ _ r rfl;rw[m]at f;cases f;exact⟨x,xs,M u,p⟩
 . obtain⟨a,v,h1,u,m⟩:=A.get I e1;obtain⟨Q,v',C,L,E⟩:=A.get I f1;have N:=dn N;have f3:=dn f3;rw[u]at N;cases N;rw[L]at f3;cases f3;have s1:=l2 j a _ h1 e1;have s2:=l2 k Q _ C f1;have U:∀{i:Nat}{s:Sl}{ds:Oc},lst? s=some ds->Dd ρ (.dI i) s->∃G o,ρ[i]?=some G/\lst? G=some o:=λ{i s ds}l z=>by
    rcases z with⟨_,_,_,z⟩|⟨b,es,q,_⟩|⟨es,q,_⟩;.subst z;cases l
    .exact⟨_,_,q,rfl⟩
    .exact⟨_,_,q,rfl⟩
   cases a with
   |dat d=>cases s1;cases e2|tmp Qy=>cases Q with|dat d=>cases s2;cases f2|tmp Y=>exact A.dis j k Qy Y x h1 C u L|dI i=>obtain⟨y,_,r,_,_,_,c,_⟩:=m;cases r;obtain⟨G,o,f,p⟩:=U f2 s2;exact absurd ⟨i,⟨G,o,f,p⟩,E⟩ c
   |dI i=>obtain⟨G,o,f,p⟩:=U e2 s1;cases Q with|dat d=>cases s2;cases f2|tmp Y=>obtain⟨y,_,r,_,_,_,c,_⟩:=E;cases r;exact absurd ⟨i,⟨G,o,f,p⟩,m⟩ c|dI i'=>obtain⟨W,X,q5,q6⟩:=U f2 s2;have:=g.dis i i' x ⟨⟨G,o,f,p⟩,m⟩ ⟨⟨W,X,q5,q6⟩,E⟩;subst this;exact Z j k i s t ds es h1 C e1 f1 e2 f2
theorem j7{as:List Arg}{ss:List Sl}:∀(ρ:List Sl)(n i:Nat),(cB as ss n ρ)[i]?=(ρ[i]?).map λs=>dq s (aN (n+i) as ss)
 |[],n,i=>by simp[cB]|s::ρ,n,0=>by simp[cB]|s::ρ,n,i+1=>by
   rw[cB];simp only[List.getElem?_cons_succ];rw[j7 ρ (n+1) i];have:n+1+i=n+(i+1):=by omega
   rw[this]
theorem lu{as:List Arg}{ss:List Sl}:∀(ρ:List Sl)(n:Nat),(cB as ss n ρ).length=ρ.length|[],n=>rfl|s::ρ,n=>by rw[cB];simp[lu ρ]
theorem gA{i:Nat}:∀{as:List Arg}{ss:List Sl}{t:Sl},aN i as ss=some t->∃j:Nat,as[j]?=some (.dI i)/\ss[j]?=some t
 |[],_,_,h=>by simp[aN]at h|a::as,[],_,h=>by cases a<;>simp[aN]at h|a::as,s::ss,t,h=>by
   have b:aN i as ss=some t->∃j:Nat,(a::as)[j]?=some (.dI i)/\(s::ss)[j]?=some t:=λh=>by obtain⟨j,h1,c⟩:=gA h;exact⟨j+1,by simpa using h1,by simpa using c⟩
   cases a with|dat d=>exact b (by simpa[aN]using h)|tmp d=>exact b (by simpa[aN]using h)|dI k=>
     rw[aN]at h;split at h;.rename_i e;cases h;subst e;exact⟨0,rfl,rfl⟩
     .exact b h
theorem jt{i:Nat}:∀{as:List Arg}{ss:List Sl},as.length=ss.length->aN i as ss=none->∀j:Nat,as[j]?≠some (.dI i)
 |[],_,_,_=>λj h=>by simp at h|a::as,[],b,_=>by simp at b|a::as,s::ss,b,h=>λj c=>by
   have f:as.length=ss.length:=by simpa using b
   have g:aN i as ss=none/\a≠.dI i:=by cases a with|dat d=>exact⟨by simpa[aN]using h,by simp⟩|tmp d=>exact⟨by simpa[aN]using h,by simp⟩|dI k=>
      rw[aN]at h;split at h;.cases h
      .rename_i l;exact⟨h,λe=>l (by cases e;rfl)⟩
   cases j with|zero=>simp at c;exact g.2 c|succ j=>exact jt f g.1 j (by simpa using c)
theorem Ek{Q X H':Hp}{args c:List Sl}{Y:L2.St}(s0:aq K Q ρ₀ σ H₀ F ρ σ H)(A:uy K F ρ σ H ρ₀ H₀ as vs)(hb:bA ρ as []=some args)(s:aq K F args (vs.map some) H X c Y H'):aq K Q ρ₀ σ H₀ X (cB as c 0 ρ) σ H'/\∀v r,bT K X c Y H' args (vs.map some) H v r->bT K X (cB as c 0 ρ) σ H' ρ₀ σ H₀ v r:=by
 have g:=s0.gs;obtain⟨M,l2,l3,l4⟩:=m9 hb;have up:∀{j:Nat}{v:V},vs[j]?=some v->(vs.map some)[j]?=some (some v):=λe=>by rw[getElem?_map,e];rfl
 have dn:∀{j:Nat}{v:V},(vs.map some)[j]?=some (some v)->vs[j]?=some v:=λ{j v}e=>by rw[getElem?_map]at e;cases q:vs[j]?with|none=>rw[q]at e;cases e|some w=>rw[q]at e;cases e;rfl
 have la:as.length=c.length:=by rw[s.len,M]--whose are the lists that the callee holds
 have own:∀b,Own args (vs.map some) b->(∃(j:Nat)(ds:List D),as[j]?=some (Arg.tmp ds)/\vs[j]?=some (V.ref b)/\¬ Own ρ σ b/\(Own ρ₀ σ b\/H₀ b=none))\/Own ρ σ b:=λb⟨j,⟨sl,ds,E,U⟩,e3⟩=>by obtain⟨a,v,h1,C,J⟩:=A.get M E;have s1:=l2 j a _ h1 E;have e3:=dn e3;rw[C]at e3;cases e3;cases a with|dat d=>cases s1;cases U|tmp es=>obtain⟨x,_,k,_,_,_,f,N⟩:=J;cases k;exact .inl ⟨j,es,h1,C,f,N⟩|dI i=>
    right;rcases s1 with⟨_,_,_,z⟩|⟨b',es,q,_⟩|⟨es,q,_⟩;.subst z;cases U
    .exact⟨i,⟨_,_,q,rfl⟩,J⟩
    .exact⟨i,⟨_,_,q,rfl⟩,J⟩
 have back:∀b,Own ρ σ b\/H b=none->Own ρ₀ σ b\/H₀ b=none:=λb h=>by
  rcases h with h|h;.exact s0.tE b h
  . by_cases ho:Own ρ₀ σ b;.exact .inl ho
    .right;cases e:H₀ b with|none=>rfl|some o=>rw[s0.keep b o e ho]at h;cases h
 have L:∀b,Own args (vs.map some) b->Own ρ₀ σ b\/H₀ b=none:=λb h=>by
  rcases own b h with⟨_,_,_,_,_,z⟩|z;.exact z
  .exact back b (.inl z)--a name's slot behind the call
 have slot:∀{i:Nat}{t:Sl},(cB as c 0 ρ)[i]?=some t->∃s1,ρ[i]?=some s1/\t=dq s1 (aN i as c):=λ{i t}h=>by rw[j7]at h;obtain⟨s1,E,U⟩:=map_some h;exact⟨s1,E,by rw[<-U,Nat.zero_add]⟩
 have V0:∀{i:Nat}{s1:Sl},ρ[i]?=some s1->(cB as c 0 ρ)[i]?=some (dq s1 (aN i as c)):=λ{i s1}h=>by rw[j7,h,Nat.zero_add];rfl--what the callee left of a list that was lent to it
 have lent:∀{i j:Nat}{s1 t:Sl}{ds:List D},ρ[i]?=some s1->lst? s1=some (.l ds)->as[j]?=some (.dI i)->c[j]?=some t->∃v s2,σ[i]?=some (some v)/\Y[j]?=some (some v)/\args[j]?=some s2/\jH s2 t/\((∃b,s1=.own b ds/\s2=.own true ds)\/(s1=.lent ds/\s2=.lent ds)):=λ{i j s1 t ds}h1 C J h4=>by
  have Z:j<args.length:=by rw[M];exact(dw J).1
  have E:args[j]?=some args[j]:=by simp[Z]
  obtain⟨a,v,k,f,N⟩:=A.get M E;rw[J]at k;cases k;have q4:=l2 j _ _ J E;have kind:(∃b,s1=.own b ds/\args[j]=.own true ds)\/(s1=.lent ds/\args[j]=.lent ds):=by
   rcases q4 with⟨_,_,z,_⟩|⟨b,es,z,z'⟩|⟨es,z,z'⟩;.rw[h1]at z;cases z;cases C
   .rw[h1]at z;cases z;cases C;exact .inl ⟨b,rfl,z'⟩
   .rw[h1]at z;cases z;cases C;exact .inr ⟨rfl,z'⟩
  have lk:qW args[j]=true:=by rcases kind with⟨_,_,z⟩|⟨_,z⟩<;>rw[z]<;>rfl
  obtain⟨u,s',y,z3⟩:=s.lk j _ E lk;rw[h4]at y;cases y;exact⟨v,_,N,by rw[u];exact up f,E,z3,kind⟩
 have JD:∀{i:Nat}{x:Addr},aM (cB as c 0 ρ) σ i x->aM ρ σ i x:=λ{i x}⟨⟨t,ds,E,U⟩,e3⟩=>by obtain⟨s1,k,f⟩:=slot E;refine⟨?_,e3⟩;cases s1 with|aP=>subst f;cases U|val b d=>subst f;cases U|own b es=>exact⟨_,_,k,rfl⟩|lent es=>exact⟨_,_,k,rfl⟩|fC m=>exact⟨_,_,k,rfl⟩|cA m=>exact⟨_,_,k,rfl⟩|hold _=>subst f;cases U
 refine⟨?_,λv r h=>?_⟩;rotate_left;.cases r with|val d=>exact h|own ds=>
     obtain⟨x,xs,h1,C,J,h4,h5,h6⟩:=h;refine⟨x,xs,h1,C,J,h4,λ⟨i,h⟩=>?_,?_⟩
     . have hO:=JD h;obtain⟨⟨s1,Qy,k,f⟩,N⟩:=hO;obtain⟨x',ah,w1,w2,_⟩:=g.own i s1 Qy k f;rw[N]at w1;cases w1;rcases h6 with h6|h6
       . rcases own x h6 with⟨_,_,_,_,z,_⟩|_;.exact z ⟨i,⟨s1,Qy,k,f⟩,N⟩
         .--a name was lent
           obtain⟨j,⟨sl,es,w3,w4⟩,w5⟩:=h6;obtain⟨a',v',G,O,y3⟩:=A.get M w3;have sa:=l2 j a' _ G w3;have w5:=dn w5;rw[O]at w5;cases w5;cases a' with|dat d=>cases sa;cases w4|tmp ai=>obtain⟨_,_,u1,_,_,_,u2,_⟩:=y3;cases u1;exact u2 ⟨i,⟨s1,Qy,k,f⟩,N⟩|dI i'=>
             have ex:∃s' ac,ρ[i']?=some s'/\lst? s'=some ac:=by
              rcases sa with⟨_,_,_,z⟩|⟨b,es,q,_⟩|⟨es,q,_⟩;.subst z;cases w4
              .exact⟨_,_,q,rfl⟩
              .exact⟨_,_,q,rfl⟩
             have:=g.dis i i' x ⟨⟨s1,Qy,k,f⟩,N⟩ ⟨ex,y3⟩;subst this;have hk:∃JC,Qy=.l JC:=by
              rcases sa with⟨_,_,_,z⟩|⟨b,es,q,_⟩|⟨es,q,_⟩;.subst z;cases w4
              .rw[k]at q;cases q;cases f;exact⟨_,rfl⟩
              .rw[k]at q;cases q;cases f;exact⟨_,rfl⟩
             obtain⟨JC,rfl⟩:=hk;have Z:j<c.length:=by rw[<-la];exact(dw G).1
             have B:c[j]?=some c[j]:=by simp[Z]
             obtain⟨v2,s2,u1,u2,u3,u4,u5⟩:=lent k f G B;rw[N]at u1;cases u1--the slot behind the call is a list's
             obtain⟨⟨t,dt,t1,t2⟩,_⟩:=h;obtain⟨s3,t3,t4⟩:=slot t1;rw[k]at t3;cases t3;have lo:∃t5,aN i as c=some t5:=by cases I:aN i as c with|none=>exact absurd G (jt la I j)|some t5=>exact⟨t5,rfl⟩
             obtain⟨t5,I⟩:=lo;obtain⟨j2,t6,t7⟩:=gA I;have al:j2<args.length:=by rw[M];exact(dw t6).1
             obtain⟨_,s6,_,am,ae,ap,af⟩:=lent k f t6 t7;have ag:j2=j:=by
              have a1:lst? s6=some (.l JC):=by rcases af with⟨_,_,z⟩|⟨_,z⟩<;>rw[z]<;>rfl
              have a2:lst? s2=some (.l JC):=by rcases u5 with⟨_,_,z⟩|⟨_,z⟩<;>rw[z]<;>rfl
              exact l4 j2 j i s6 s2 _ _ t6 G ae u3 a1 a2
             subst ag;rw[B]at t7;cases t7;rw[I]at t4;refine h5 ⟨j2,?_,u2⟩;rcases u5 with⟨b,u,y⟩|⟨u,y⟩
             . subst u;subst y;rcases u4 with⟨d2,z⟩|⟨d2,z⟩;.exact⟨_,.l d2,B,by rw[z];rfl⟩
               .rw[z]at t4;subst t4;cases t2
             .subst u;subst y;exact⟨_,.l JC,B,by rw[show c[j2]=.lent JC from u4];rfl⟩
       .rw[w2]at h6;cases h6
     . rcases h6 with h6|h6;.exact L x h6
       .exact back x (.inr h6)
 refine⟨⟨s.gs.sub,by rw[lu];exact g.len,λi b d e=>?_,λi t ds e B=>?_,λi j x h1 C=>g.dis i j x (JD h1) (JD C)⟩,s0.cz.trans s.cz,λb n n'=>?_,λb o h n=>?_,λb⟨i,h⟩=>back b (.inl ⟨i,JD h⟩),by rw[lu];exact s0.len,λi s1 h l=>?_⟩;.--data
   obtain⟨s1,k,f⟩:=slot e;cases s1 with|aP=>cases f|lent es=>cases f|fC _=>cases f|cA _=>cases f|hold _=>cases f|val b' d'=>cases f;obtain⟨v,u,y⟩:=g.val i b d k;exact⟨v,u,y.mono s.cz⟩|own b' es=>cases I:aN i as c with|none=>rw[I]at f;cases f|some t=>rw[I]at f;obtain⟨j,u,y⟩:=gA I;obtain⟨v,s2,G,O,y3,y4,p⟩:=lent k rfl u y;cases t with|aP=>cases f|own _ _=>cases f|lent _=>cases f|fC _=>cases f|cA _=>cases f|hold _=>cases f|val b2 d2=>cases f;obtain⟨w,W,x2⟩:=s.gs.val j b2 d y;rw[O]at W;cases W;exact⟨v,G,x2⟩
 .--lists
   obtain⟨s1,k,f⟩:=slot e--a list that was not lent
   have stay:∀es,lst? s1=some es->(∀j:Nat,as[j]?≠some (.dI i))->t=s1->∃(a:Addr)(xs:HO),σ[i]?=some (some (V.ref a))/\H' a=some xs/\X a=none/\jl K X xs ds:=λes he hn ht=>by
    subst ht;rw[he]at B;cases B;obtain⟨a,xs,u,y,z3,z4⟩:=g.own i _ ds k he;have no:¬ Own args (vs.map some) a:=λh=>by obtain⟨j,⟨sl,es,w1,w2⟩,w3⟩:=h;obtain⟨a',v,h1,C,J⟩:=A.get M w1;have sa:=l2 j a' _ h1 w1;have w3:=dn w3;rw[C]at w3;cases w3;cases a' with|dat d=>cases sa;cases w2|tmp es=>obtain⟨x,_,G,_,_,_,O,_⟩:=J;cases G;exact O ⟨i,⟨_,ds,k,he⟩,u⟩|dI i'=>
       have:∃s' ac,ρ[i']?=some s'/\lst? s'=some ac:=by
        rcases sa with⟨_,_,_,z⟩|⟨b,es,q,_⟩|⟨es,q,_⟩;.subst z;cases w2
        .exact⟨_,_,q,rfl⟩
        .exact⟨_,_,q,rfl⟩
       have:=g.dis i i' a ⟨⟨_,ds,k,he⟩,u⟩ ⟨this,J⟩;subst this;exact hn j h1
    refine⟨a,xs,u,s.keep a _ y no,?_,z4.mono s.cz⟩;cases q:X a with|none=>rfl|some o=>
      rcases s.vp a z3 (by rw[q];simp)with z|z;.exact absurd z no
      .rw[y]at z;exact(Fx z4 z).elim
   cases I:aN i as c with
   |none=>have hn:=jt la I;rw[I]at f;cases s1 with|aP=>subst f;cases B|val b' d'=>subst f;cases B|own b' es=>exact stay _ rfl hn f|lent es=>exact stay _ rfl hn f|fC m=>exact stay _ rfl hn f|cA m=>exact stay _ rfl hn f|hold _=>subst f;cases B
   |some t2=>rw[I]at f;obtain⟨j,u,y⟩:=gA I;cases s1 with
     |aP=>subst f;cases B|val b' d'=>subst f;cases B|hold _=>subst f;cases B|fC m=>
       have Z:j<args.length:=by rw[M];exact(dw u).1
       rcases l2 j _ _ u (show args[j]?=some args[j]by simp[Z])with⟨_,_,z,_⟩|⟨_,_,z,_⟩|⟨_,z,_⟩<;>(rw[k]at z;cases z)|cA m=>
       have Z:j<args.length:=by rw[M];exact(dw u).1
       rcases l2 j _ _ u (show args[j]?=some args[j]by simp[Z])with⟨_,_,z,_⟩|⟨_,_,z,_⟩|⟨_,z,_⟩<;>(rw[k]at z;cases z)|own b' es=>
       obtain⟨v,s2,G,O,y3,y4,p⟩:=lent k rfl u y;have:t2≠.aP/\∀x,t2≠.lent x:=by
        rcases p with⟨_,_,p⟩|⟨p,_⟩;.subst p;rcases y4 with⟨_,rfl⟩|⟨_,rfl⟩<;>simp
        .cases p
       cases t2 with
       |aP=>exact absurd rfl this.1|hold x=>
         rcases p with⟨_,_,p⟩|⟨p,_⟩;.subst p;rcases y4 with⟨_,h⟩|⟨_,h⟩<;>cases h
         .cases p|fC x=>
         rcases p with⟨_,_,p⟩|⟨p,_⟩;.subst p;rcases y4 with⟨_,h⟩|⟨_,h⟩<;>cases h
         .cases p|cA x=>
         rcases p with⟨_,_,p⟩|⟨p,_⟩;.subst p;rcases y4 with⟨_,h⟩|⟨_,h⟩<;>cases h
         .cases p|lent x=>exact absurd rfl (this.2 x)|val b2 d2=>subst f;cases B|own b2 ar=>subst f;cases B;obtain⟨a,xs,W,x2⟩:=s.gs.own j _ _ y rfl;rw[O]at W;cases W;exact⟨a,xs,G,x2⟩
     |lent es=>
       obtain⟨v,s2,G,O,y3,y4,p⟩:=lent k rfl u y;have ht:t=.lent es:=by rw[f];cases t2<;>rfl
       subst ht;cases B;rcases p with⟨_,p,_⟩|⟨_,p⟩;.cases p
       .subst p;cases(show t2=.lent es from y4);obtain⟨a,xs,W,x2⟩:=s.gs.own j _ _ y rfl;rw[O]at W;cases W;exact⟨a,xs,G,x2⟩
 . by_cases q:F b=none
   . rcases s.vp b q n' with z|z;.exact(L b z).imp id iQ
     . by_cases ho:Own ρ₀ σ b;.exact .inl ho
       .right;cases f:H₀ b with|none=>rfl|some o=>rw[s0.keep b o f ho]at z;exact z
   .exact s0.vp b n q
 . refine s.keep b o (s0.keep b o h n) λz=>?_;rcases L b z with z|z;.exact n z
   .rw[h]at z;cases z
 .obtain⟨E,s2,C,k2⟩:=s0.lk i s1 h l;refine⟨E,_,V0 C,?_⟩;have Sh:=k2.qW l;refine jH.trans l k2 ?_;cases s2 with
   |aP=>cases Sh|fC _=>cases Sh|cA _=>cases Sh|hold _=>exact jH.refl _|val b d=>exact jH.refl _|lent es=>cases aN i as c with|none=>rfl|some t=>cases t<;>rfl
   |own b es=>cases b with|false=>cases Sh|true=>cases aN i as c with|none=>exact .inl ⟨_,rfl⟩|some t=>cases t with|aP=>exact .inl ⟨_,rfl⟩|lent _=>exact .inl ⟨_,rfl⟩|fC _=>exact .inl ⟨_,rfl⟩|cA _=>exact .inl ⟨_,rfl⟩|hold _=>exact .inl ⟨_,rfl⟩|own _ ds=>exact .inl ⟨_,rfl⟩|val _ d=>exact .inr ⟨_,rfl⟩
theorem uy.rebase{F1 g k l:Hp}{c f:List Sl}(a:aq K F ρ σ H F1 c σ g)(A:uy K k f σ l c g as vs):uy K k f σ l ρ H as vs:=by refine⟨A.len,λj b v h1 m=>?_,A.dis⟩;have h:=A.one j b v h1 m;cases b with|dat d=>exact h|dI i=>exact h|tmp ds=>
   obtain⟨x,xs,p,q,r,s,t,q6⟩:=h;refine⟨x,xs,p,q,r,s,t,?_⟩;rcases q6 with q6|q6;.exact a.tE x q6
   . by_cases ho:Own ρ σ x;.exact .inl ho
     .right;cases e:H x with|none=>rfl|some o=>rw[a.keep x o e ho]at q6;cases q6
theorem uy.TJ{F1 c e f:Hp}{a b:List Sl}{r:R}(s1:aq K F ρ σ H F1 a σ c)(g:bT K F1 a σ c ρ σ H v r)(s2:aq K F1 a σ c e b σ f)(A:uy K e b σ f a c as vs):uy K e b σ f ρ H (uV r::as) (v::vs):=by
 have h1:wK K F1 a σ c ρ H v (uV r):=by cases r with|val d=>exact g|own ds=>exact g
 refine .cons (h1.later s2) (A.rebase s1) λds x m ev k es o j=>?_;cases r with|val d=>cases m|own p=>
   obtain⟨y,xs,l,q,u,w,s,B⟩:=g;rw[ev]at l;cases l;have h:=A.one k _ _ o j;obtain⟨z,C,t,_,_,_,_,w6⟩:=h;cases t;rcases w6 with w6|w6;.exact s w6
   .rw[q]at w6;cases w6
end
section
variable{K:PySem.W.Frag}{F F1 H H1:Hp}{ρ ρ1 ρ2:List Sl}{σ σ1:L2.St}
theorem rR{s:Sl}(h:put ρ i s=some ρ1):∃s0,ρ[i]?=some s0/\qW s0=false/\ρ1=ρ.set i s:=by
 unfold put at h;split at h;.rename_i q;cases h;exact⟨_,q,rfl,rfl⟩
 .rename_i q;cases h;exact⟨_,q,rfl,rfl⟩
 .rename_i q;cases h;exact⟨_,q,rfl,rfl⟩
 .cases h
theorem aq.put{r:R}(s:aq K F ρ σ H F1 ρ1 σ1 H1)(y:bT K F1 ρ1 σ1 H1 ρ σ H v r)(h:HH.put ρ1 i (wR r)=some ρ2):aq K F ρ σ H F1 ρ2 (σ1.set i (some v)) H1:=by
 obtain⟨s0,h0,B,rfl⟩:=rR h;have hi:i<ρ1.length:=(dw h0).1;have m:i<σ1.length:=by rw[<-s.gs.len];exact hi
 have f:∀{j:Nat}{a:Addr},j≠i->aM (ρ1.set i (wR r)) (σ1.set i (some v)) j a->aM ρ1 σ1 j a:=λ{j a}c⟨⟨t,ds,o,p⟩,g⟩=>by rw[dz c]at o g;exact⟨⟨t,ds,o,p⟩,g⟩
 have q:∀{a:Addr},aM (ρ1.set i (wR r)) (σ1.set i (some v)) i a->¬ Own ρ1 σ1 a/\(Own ρ σ a\/H a=none):=λ{a}⟨⟨t,ds,o,p⟩,g⟩=>by rw[getElem?_set_self hi]at o;rw[getElem?_set_self m]at g;cases o;cases g;cases r with|val d=>cases p|own es=>obtain⟨x,xs,I,C,E,G,J,L⟩:=y;cases I;exact⟨J,L⟩
 refine⟨⟨s.gs.sub,by simp[s.gs.len],λj b d e=>?_,λj t ds e z=>?_,λj k a h1 A=>?_⟩,s.cz,s.vp,s.keep,λa⟨j,c⟩=>?_,by simp[s.len],λj t e l=>?_⟩
 . by_cases c:j=i;.subst c;rw[getElem?_set_self hi]at e;cases r with|own es=>cases e|val d'=>cases e;exact⟨v,getElem?_set_self m,y⟩
   .rw[dz c]at e ⊢;exact s.gs.val j b d e
 . by_cases c:j=i;.subst c;rw[getElem?_set_self hi]at e;cases r with|val d'=>cases e;cases z|own es=>cases e;cases z;obtain⟨x,xs,rfl,C,E,G,_⟩:=y;exact⟨x,_,getElem?_set_self m,C,E,xs,rfl,G⟩
   .rw[dz c]at e ⊢;exact s.gs.own j t ds e z
 . by_cases c:j=i
   . by_cases u:k=i;.rw[c,u]
     .subst c;exact absurd ⟨k,f u A⟩ (q h1).1
   . by_cases u:k=i;.subst u;exact absurd ⟨j,f c h1⟩ (q A).1
     .exact s.gs.dis j k a (f c h1) (f u A)
 . by_cases w:j=i;.subst w;exact(q c).2
   .exact s.tE a ⟨j,f w c⟩
 . obtain⟨o,t1,p,g⟩:=s.lk j t e l;have c:j≠i:=by rintro rfl;rw[h0]at p;cases p;rw[g.qW l]at B;cases B
   exact⟨by rw[dz c];exact o,t1,by rw[dz c];exact p,g⟩
theorem GS.mut{x:Nat}{b:Bool}{es:List D}{a:Addr}{ys:List V}(g:GS K F ρ σ H)(e:ρ[x]?=some (.own b ds))(p:σ[x]?=some (some (.ref a)))(r:aB K F ys es):aq K F ρ σ H F (ρ.set x (.own b es)) σ (upd H a (.lst ys)):=by
 have hi:x<ρ.length:=(dw e).1;have w:aM ρ σ x a:=⟨⟨_,_,e,rfl⟩,p⟩;obtain⟨J,xs,h1,L,y,M⟩:=g.oA x _ ds e rfl;rw[p]at h1;cases h1;have h:∀{j:Nat}{c:Addr},aM (ρ.set x (.own b es)) σ j c->aM ρ σ j c:=λ{j c}⟨⟨t,dt,m,s⟩,q3⟩=>by
  by_cases f:j=x;.subst f;exact⟨⟨_,_,e,rfl⟩,q3⟩
  .rw[dz f]at m;exact⟨⟨t,dt,m,s⟩,q3⟩
 refine⟨⟨λc o q=>?_,by simp[g.len],λj A d q=>?_,λj t dt q u=>?_,λj k c m s=>g.dis j k c (h m) (h s)⟩,.refl _,λc n B=>absurd n B,λc o q n=>?_,λc⟨j,q⟩=>.inl ⟨j,h q⟩,by simp,λj t q l=>⟨rfl,?_⟩⟩
 . have:c≠a:=by rintro rfl;rw[y]at q;cases q
   rw[ao this];exact g.sub c o q
 . by_cases f:j=x;.subst f;rw[getElem?_set_self hi]at q;cases q
   .rw[dz f]at q;exact g.val j A d q
 . by_cases f:j=x;.subst f;rw[getElem?_set_self hi]at q;cases q;cases u;exact⟨a,_,p,aH,y,ys,rfl,r⟩
   . rw[dz f]at q;obtain⟨c,C,z,E,G,I⟩:=g.own j t dt q u;have:c≠a:=by rintro rfl;exact f (g.dis j x c ⟨⟨t,dt,q,u⟩,z⟩ w)
     exact⟨c,C,z,by rw[ao this];exact E,G,I⟩
 . have:c≠a:=by rintro rfl;exact n ⟨x,w⟩
   rw[ao this];exact q
 . by_cases f:j=x;.subst f;rw[e]at q;cases q;refine⟨_,getElem?_set_self hi,?_⟩;cases b with|true=>exact .inl ⟨_,rfl⟩|false=>cases l
   .exact⟨t,by rw[dz f];exact q,.refl t⟩
theorem GS.lend{b:Bool}(g:GS K F ρ σ H)(e:ρ[i]?=some (.own b ds)):GS K F (ρ.set i (.lent ds)) σ H:=by
 have hi:i<ρ.length:=(dw e).1;have f:∀{j:Nat}{c:Addr},aM (ρ.set i (.lent ds)) σ j c->aM ρ σ j c:=λ{j c}⟨⟨t,dt,h,l⟩,q3⟩=>by
  by_cases a:j=i;.subst a;exact⟨⟨_,_,e,rfl⟩,q3⟩
  .rw[dz a]at h;exact⟨⟨t,dt,h,l⟩,q3⟩
 refine⟨g.sub,by simp[g.len],λj o d q=>?_,λj t dt q m=>?_,λj k c h l=>g.dis j k c (f h) (f l)⟩
 . by_cases a:j=i;.subst a;rw[getElem?_set_self hi]at q;cases q
   .rw[dz a]at q;exact g.val j o d q
 . by_cases a:j=i;.subst a;rw[getElem?_set_self hi]at q;cases q;cases m;exact g.own j _ _ e rfl
   .rw[dz a]at q;exact g.own j t dt q m
theorem aq.aX{b:Bool}(g:GS K F ρ σ H)(e:ρ[i]?=some (.own b ds))(s:aq K F (ρ.set i (.lent ds)) σ H F1 ρ1 σ1 H1):aq K F ρ σ H F1 (ρ1.set i (.own b ds)) σ1 H1/\∀v r,bT K F1 ρ1 σ1 H1 (ρ.set i (.lent ds)) σ H v r->bT K F1 (ρ1.set i (.own b ds)) σ1 H1 ρ σ H v r:=by
 have hi:i<ρ.length:=(dw e).1;have h1:(ρ.set i (.lent ds))[i]?=some (.lent ds):=getElem?_set_self hi;obtain⟨C,E,z,G⟩:=s.lk i _ h1 rfl;cases(show E=.lent ds from G);have u:i<ρ1.length:=(dw z).1;have A:∀{j:Nat}{c:Addr},aM (ρ.set i (.lent ds)) σ j c->aM ρ σ j c:=λ{j c}⟨⟨t,dt,f,p⟩,m⟩=>by
  by_cases a:j=i;.subst a;exact⟨⟨_,_,e,rfl⟩,m⟩
  .rw[dz a]at f;exact⟨⟨t,dt,f,p⟩,m⟩
 have I:∀{c:Addr},Own ρ σ c->Own (ρ.set i (.lent ds)) σ c:=λ{c}⟨j,⟨t,dt,f,p⟩,m⟩=>by
  by_cases a:j=i;.subst a;exact⟨j,⟨_,_,h1,rfl⟩,m⟩
  .exact⟨j,⟨t,dt,by rw[dz a];exact f,p⟩,m⟩
 have y:∀{j:Nat}{c:Addr},aM (ρ1.set i (.own b ds)) σ1 j c->aM ρ1 σ1 j c:=λ{j c}⟨⟨t,dt,f,p⟩,m⟩=>by
  by_cases a:j=i;.subst a;exact⟨⟨_,_,z,rfl⟩,m⟩
  .rw[dz a]at f;exact⟨⟨t,dt,f,p⟩,m⟩
 have w:∀{c:Addr}{h:Hp},Own (ρ.set i (.lent ds)) σ c\/h c=none->Own ρ σ c\/h c=none:=λ{c h}q=>q.imp (λ⟨j,q⟩=>⟨j,A q⟩) id;have J:∀{c:Addr}{h:Hp},Own (ρ.set i (.lent ds)) σ c\/nt (h c)=none->Own ρ σ c\/nt (h c)=none:=λ{c h}q=>q.imp (λ⟨j,q⟩=>⟨j,A q⟩) id;refine⟨⟨⟨s.gs.sub,by simp[s.gs.len],λj L d q=>?_,λj t dt q B=>?_,λj k c f p=>s.gs.dis j k c (y f) (y p)⟩,s.cz,λc n M=>J (s.vp c n M),λc o q n=>s.keep c o q λ⟨j,x⟩=>n ⟨j,A x⟩,λc⟨j,q⟩=>w (s.tE c ⟨j,y q⟩),by simpa using s.len,λj t q l=>?_⟩,λv r h=>?_⟩
 . by_cases a:j=i;.subst a;rw[getElem?_set_self u]at q;cases q
   .rw[dz a]at q;exact s.gs.val j L d q
 . by_cases a:j=i;.subst a;rw[getElem?_set_self u]at q;cases q;cases B;exact s.gs.own j _ _ z rfl
   .rw[dz a]at q;exact s.gs.own j t dt q B
 . by_cases a:j=i;.subst a;rw[e]at q;cases q;refine⟨C,_,getElem?_set_self u,?_⟩;cases b with|true=>exact .inl ⟨_,rfl⟩|false=>cases l
   .obtain⟨N,t',O,Q⟩:=s.lk j t (by rw[dz a];exact q) l;exact⟨N,t',by rw[dz a];exact O,Q⟩
 .cases r with|val d=>exact h|own es=>obtain⟨x,xs,f,p,m,U,W,X⟩:=h;exact⟨x,xs,f,p,m,U,λ⟨j,q⟩=>W ⟨j,y q⟩,w X⟩
theorem GS.give(g:GS K F ρ σ H)(e:ρ[i]?=some (.own false ds)):∃v,σ[i]?=some (some v)/\aq K F ρ σ H F (ρ.set i .aP) σ H/\bT K F (ρ.set i .aP) σ H ρ σ H v (.own ds):=by
 have hi:i<ρ.length:=(dw e).1;obtain⟨a,xs,h1,r,s,u⟩:=g.oA i _ ds e rfl;have f:∀{j:Nat}{c:Addr},aM (ρ.set i .aP) σ j c->aM ρ σ j c/\j≠i:=λ{j c}⟨⟨t,dt,h,m⟩,q3⟩=>by
  by_cases b:j=i;.subst b;rw[getElem?_set_self hi]at h;cases h;cases m
  .rw[dz b]at h;exact⟨⟨⟨t,dt,h,m⟩,q3⟩,b⟩
 have o:aM ρ σ i a:=⟨⟨_,_,e,rfl⟩,h1⟩;refine⟨.ref a,h1,⟨⟨g.sub,by simp[g.len],λj w d q=>?_,λj t dt q p=>?_,λj k c h m=>g.dis j k c (f h).1 (f m).1⟩,.refl _,λc n y=>absurd n y,λ_ _ q _=>q,λc⟨j,q⟩=>.inl ⟨j,(f q).1⟩,by simp,λj t q l=>⟨rfl,?_⟩⟩,a,xs,rfl,r,s,u,λ⟨j,q⟩=>?_,.inl ⟨i,o⟩⟩
 . by_cases b:j=i;.subst b;rw[getElem?_set_self hi]at q;cases q
   .rw[dz b]at q;exact g.val j w d q
 . by_cases b:j=i;.subst b;rw[getElem?_set_self hi]at q;cases q;cases p
   .rw[dz b]at q;exact g.own j t dt q p
 . by_cases b:j=i;.subst b;rw[e]at q;cases q;cases l
   .exact⟨t,by rw[dz b];exact q,.refl t⟩
 .exact(f q).2 (g.dis j i a (f q).1 o)
theorem GS.more{τ:List (Option V)}(g:GS K F ρ σ H)(u:τ.length=n):GS K F (ρ++replicate n .aP) (σ++τ) H:=by
 have get:∀{j:Nat}{t:Sl},(ρ++replicate n Sl.aP)[j]?=some t->t≠.aP->ρ[j]?=some t/\j<ρ.length:=λ{j t}q ne=>by
  by_cases h:j<ρ.length;.rw[getElem?_append_left h]at q;exact⟨q,h⟩
  . rw[getElem?_append_right (by omega),List.getElem?_replicate]at q;split at q;.cases q;exact absurd rfl ne
    .cases q
 have m:∀{j:Nat}{v:Option V},j<ρ.length->(σ[j]?=some v↔(σ++τ)[j]?=some v):=λ{j v}h=>by rw[getElem?_append_left (by rw[<-g.len];exact h)]
 have e:∀{j:Nat}{c:Addr},aM (ρ++replicate n .aP) (σ++τ) j c->aM ρ σ j c:=λ{j c}⟨⟨t,dt,o,l⟩,q3⟩=>by obtain⟨h1,f⟩:=get o (by rintro rfl;cases l);exact⟨⟨t,dt,h1,l⟩,(m f).mpr q3⟩
 refine⟨g.sub,by simp[g.len,u],λj b d q=>?_,λj t dt q s=>?_,λj k c o l=>g.dis j k c (e o) (e l)⟩;.obtain⟨h1,f⟩:=get q (by simp);obtain⟨v,p,r⟩:=g.val j b d h1;exact⟨v,(m f).mp p,r⟩
 .obtain⟨h1,f⟩:=get q (by rintro rfl;cases s);obtain⟨a,xs,p,r⟩:=g.own j t dt h1 s;exact⟨a,xs,(m f).mp p,r⟩
theorem aq.less{τ:List (Option V)}{m:Nat}(L:m=ρ.length)(g:GS K F ρ σ H)(hn:τ.length=n)(s:aq K F (ρ++replicate n .aP) (σ++τ) H F1 ρ1 σ1 H1):aq K F ρ σ H F1 (ρ1.take m) (σ1.take m) H1/\∀v r,bT K F1 ρ1 σ1 H1 (ρ++replicate n .aP) (σ++τ) H v r->bT K F1 (ρ1.take m) (σ1.take m) H1 ρ σ H v r:=by
 subst L;have M:ρ.length<=ρ1.length:=by rw[s.len];simp
 have l2:ρ.length<=σ1.length:=by rw[<-s.gs.len];exact M
 have z:∀{y:Type}{l:List y}{j:Nat}{x:y},(l.take ρ.length)[j]?=some x->l[j]?=some x/\j<ρ.length:=λ{y l j x}q=>by
  rw[List.getElem?_take]at q;split at q;.exact⟨q,by assumption⟩
  .cases q
 have B:∀{y:Type}{l:List y}{j:Nat}{x:y},j<ρ.length->l[j]?=some x->(l.take ρ.length)[j]?=some x:=λ{y l j x}f q=>by rw[List.getElem?_take,if_pos f];exact q
 have C:∀{c:Addr},Own (ρ++replicate n .aP) (σ++τ) c->Own ρ σ c:=λ{c}⟨j,⟨t,dt,e,p⟩,u⟩=>by
  by_cases f:j<ρ.length;.rw[getElem?_append_left f]at e;rw[getElem?_append_left (by rw[<-g.len];exact f)]at u;exact⟨j,⟨t,dt,e,p⟩,u⟩
  . rw[getElem?_append_right (by omega),List.getElem?_replicate]at e;split at e;.cases e;cases p
    .cases e
 have N:∀{c:Addr},Own ρ σ c->Own (ρ++replicate n .aP) (σ++τ) c:=λ{c}⟨j,⟨t,dt,e,p⟩,u⟩=>by have f:j<ρ.length:=(dw e).1;exact⟨j,⟨t,dt,by rw[getElem?_append_left f];exact e,p⟩,by rw[getElem?_append_left (by rw[<-g.len];exact f)];exact u⟩
 have A:∀{j:Nat}{c:Addr},aM (ρ1.take ρ.length) (σ1.take ρ.length) j c->aM ρ1 σ1 j c:=λ{j c}⟨⟨t,dt,e,p⟩,u⟩=>⟨⟨t,dt,(z e).1,p⟩,(z u).1⟩;have w:∀{c:Addr}{h:Hp},Own (ρ++replicate n .aP) (σ++τ) c\/h c=none->Own ρ σ c\/h c=none:=λ{c h}q=>q.imp C id;have O:∀{c:Addr}{h:Hp},Own (ρ++replicate n .aP) (σ++τ) c\/nt (h c)=none->Own ρ σ c\/nt (h c)=none:=λ{c h}q=>q.imp C id;refine⟨⟨⟨s.gs.sub,by simp only[length_take];omega,λj b d q=>?_,λj t dt q Q=>?_,λj k c e p=>s.gs.dis j k c (A e) (A p)⟩,s.cz,λc a b=>O (s.vp c a b),λc o q n=>s.keep c o q λx=>n (C x),λc⟨j,q⟩=>w (s.tE c ⟨j,A q⟩),by simp only[length_take];omega,λj t q l=>?_⟩,λv r h=>?_⟩;.obtain⟨h1,E⟩:=z q;obtain⟨v,G,I⟩:=s.gs.val j b d h1;exact⟨v,B E G,I⟩
 .obtain⟨h1,E⟩:=z q;obtain⟨a,xs,G,I⟩:=s.gs.own j t dt h1 Q;exact⟨a,xs,B E G,I⟩
 .have f:j<ρ.length:=(dw q).1;obtain⟨J,t',U,W⟩:=s.lk j t (by rw[getElem?_append_left f];exact q) l;rw[getElem?_append_left (by rw[<-g.len];exact f)]at J;refine⟨?_,t',B f U,W⟩;rw[List.getElem?_take,if_pos f];exact J
 .cases r with|val d=>exact h|own es=>obtain⟨x,xs,e,p,u,X,Y,Z⟩:=h;exact⟨x,xs,e,p,u,X,λ⟨j,q⟩=>Y ⟨j,A q⟩,w Z⟩
end
section
variable{X:Cx}{c:Call}{n:Nat}{e a b d:Expr}{p pa pb pd:P}{pos:Pos}{es:List Expr}{ps:List P}
inductive aaM(K:PySem.W.Frag)(f:List Sl->Res (List Arg))(σ:L2.St)(H:Hp)(Q:List V->Hp->Prop):Prop where|mk(F:Hp)(ρ:List Sl)(as:List Arg)(ρ':List Sl)(g:GS K F ρ σ H)(e:f ρ=.ok as ρ')(k:∀vs F' H',aq K F ρ σ H F' ρ' σ H'->uy K F' ρ' σ H' ρ H as vs->Q vs H')
def SG(X:Cx)(c:Call)(es:List Expr)(ps:List P):Prop:=PA X es (aaM X.K (vB c ps))
theorem aG:SG X c [] []:=tQ cY λσ H Q⟨F,ρ,as,ρ',g,e,k⟩=>by rw[vB]at e;cases e;exact k [] F H (.refl g) .nil
theorem Hc(q:SX X c a pa)(hr:SG X c es ps)(hs:starEach (a::es) X.env=(false,eval a X.env)::starEach es X.env:=by rfl):SG X c (a::es) (pa::ps):=by cases hv:isVar pa with|none=>refine tQ (bF q.ev hr hs) ?_;rintro σ H Q⟨F,ρ,as,ρ',g,e,k⟩;rw[vB,hv]at e;obtain⟨r,f,s,e⟩:=aa e;obtain⟨xs,h,j,e⟩:=aa e;cases e;refine⟨F,ρ,r,f,g,s,λv F1 B s1 t=>⟨F1,f,xs,_,s1.gs,j,λvs l m s2 A=>k _ l m (s1.trans s2) (uy.TJ s1 t s2 A)⟩⟩|some i=>refine tQ (bF (q.var i hv) hr hs) ?_;rintro σ H Q⟨F,ρ,as,ρ',g,e,k⟩;rw[vB,hv]at e;obtain⟨x0,u,w,e⟩:=aa e;obtain⟨o,y⟩:=aA w;subst y;obtain⟨xs,h,j,e⟩:=aa e;cases e;obtain⟨v,h1,_⟩:=g.pk o;exact⟨v,h1,F,ρ,xs,_,g,j,λvs l m s2 A=>k _ l m s2 (.cons h1 A λds x z=>by cases z)⟩
theorem Jh{k f:Nat}{t:Addr}{fd:FuncData}{j:List Str}(J:kZ X.prog X.w X.K X.mg X.base CP k t fd j (Hu X.K j.length (c f)))(hr:iy k X.A)(L:Gl X x)(M:X.mg x=some (.ref t))(N:keepIn X.K (.ref t)=true)(O:Binds X.K fd j [])(U:SG X c (e::es) ps)(W:(e::es).length=j.length)(u:(x==("__debug__":Str))=false:=by decide)(he:starEach (e::es) X.env=(false,eval e X.env)::starEach es X.env:=by rfl)(hpl:(backTo pos (starEach es X.env)).any (·.1)=false:=by rfl)(y:ps.length=(e::es).length:=by rfl):SX X c (.Call (.Name x p') (e::es) [] pos) (.call f ps):=by
 refine⟨cR (Jq (E:=E0) J hr L M N O .nil Vi U u he hpl) ?_,λi h=>by cases h⟩;rintro σ H Q⟨F,ρ,r,ρ',g,e,k⟩;rw[HH.E14]at e;obtain⟨as,z,G,e⟩:=aa e;unfold m7 at e;split at e;.cases e
 . rename_i args m;split at e
   . rename_i r' l hc;cases e;refine⟨F,ρ,as,z,g,G,λvs F1 Y s1 A=>?_⟩;have o:vs.length=j.length:=by
      have:∀{ps:List P}{ρ ρ':List Sl}{as:List Arg},vB c ps ρ=.ok as ρ'->as.length=ps.length:=by intro ps;induction ps with|nil=>intro ρ ρ' as h;rw[vB]at h;cases h;rfl|cons q j I=>
         intro ρ ρ' as h;rw[vB]at h;split at h;.obtain⟨_,_,_,h⟩:=aa h;obtain⟨xs,B,C,h⟩:=aa h;cases h;simp[I C]
         .obtain⟨_,_,_,h⟩:=aa h;obtain⟨xs,B,C,h⟩:=aa h;cases h;simp[I C]
      rw[<-A.len,this G,y,W]
     show Hu X.K j.length (c f) (vs++[]) Y Q E0;rw[append_nil];refine⟨o,F1,args,r,l,args_gs s1.gs A m,hc,λv Z ac H' s rr=>?_⟩;obtain⟨z1,z2⟩:=Ek s1 A m s;exact k v Z H' z1 (z2 v r rr)
   .cases e
   .cases e
def DG(K:PySem.W.Frag)(D:Ends)(h:Hp)(ρ':List Sl)(f:L2.St)(g:Hp)(ρ:List Sl)(σ:L2.St)(H:Hp)(fl:Fl):Prop:=match fl with|.next=>D.nx f g|.brk=>D.bk f g|.cont=>D.ct f g|.ret r=>∀v,bT K h ρ' f g ρ σ H v r->D.rt v g
inductive XM(K:PySem.W.Frag)(f:List Sl->Res Fl)(D:Ends)(σ:L2.St)(H:Hp):Prop where|mk(F:Hp)(ρ:List Sl)(fl:Fl)(ρ':List Sl)(g:GS K F ρ σ H)(e:f ρ=.ok fl ρ')(k:∀F' σ' H',aq K F ρ σ H F' ρ' σ' H'->DG K D F' ρ' σ' H' ρ σ H fl)
def SS(X:Cx)(c:Call)(n:Nat)(st:Stmt)(s:S):Prop:=PS X st (XM X.K (ex c n s))
def SB(X:Cx)(c:Call)(n:Nat)(st:List Stmt)(s:List S):Prop:=uL X st (XM X.K (fX c n s))
theorem dm{st:Stmt}{t t':TS}(h:PS X st t)(i:∀D σ H,t' D σ H->t D σ H):PS X st t':=λf s σ H D I q=>h f s σ H D I (i D σ H q)
theorem km{st:List Stmt}{t t':TS}(h:uL X st t)(i:∀D σ H,t' D σ H->t D σ H):uL X st t':=λf s σ H D I q=>h f s σ H D I (i D σ H q)
theorem xs0{c:Call}:fX c n [] ρ=.ok .next ρ:=rfl
theorem Ob{c:Call}{s:S}{r:List S}:fX c n (s::r) ρ=(ex c n s ρ).bind λfl ρ=>match fl with|.next=>fX c n r ρ|fl=>.ok fl ρ:=rfl
theorem aD:SB X c n [] []:=km zb λD σ H⟨F,ρ,fl,ρ',g,e,k⟩=>by rw[xs0]at e;cases e;exact k F σ H (.refl g)
theorem aR{st:Stmt}{s:S}{f:List Stmt}{ss:List S}(h1:SS X c n st s)(m:SB X c n f ss):SB X c n (st::f) (s::ss):=by refine km (jG h1 m) ?_;rintro D σ H⟨F,ρ,fl,ρ',g,e,k⟩;rw[Ob]at e;obtain⟨f1,h,j,e⟩:=aa e;cases f1 with
 |next=>refine⟨F,ρ,.next,h,g,j,λF1 o y s1=>⟨F1,h,fl,ρ',s1.gs,e,λt l u s2=>?_⟩⟩;have q:=k t l u (s1.trans s2);cases fl with|next=>exact q|brk=>exact q|cont=>exact q|ret r=>exact λv w=>q v (w.later s1)
 |brk=>cases e;exact⟨F,ρ,.brk,_,g,j,k⟩|cont=>cases e;exact⟨F,ρ,.cont,_,g,j,k⟩|ret r=>cases e;exact⟨F,ρ,.ret r,_,g,j,k⟩
theorem Vc{t1 g:TE}(h1:PE X e t1)(j:PE X e g):PE X e (λσ H Q=>t1 σ H Q\/g σ H Q):=λf s σ H Q I h=>h.elim (h1 f s σ H Q I) (j f s σ H Q I)
theorem Qd(he:SX X c e p):SS X c n (.Return (some e) pos) (.ret p):=by
 have plain:∀(D:Ends)(σ:L2.St)(H:Hp),(∃F ρ fl ρ',GS X.K F ρ σ H/\((HH.ev c p ρ).bind λr ρ=>.ok (Fl.ret r) ρ)=.ok fl ρ'/\∀j f h,aq X.K F ρ σ H j ρ' f h->(match fl with|.next=>D.nx f h|.brk=>D.bk f h|.cont=>D.ct f h|.ret r=>∀v,bT X.K j ρ' f h ρ σ H v r->D.rt v h))->uM X.K (HH.ev c p) σ H D.rt:=λD σ H⟨F,ρ,fl,ρ',g,e,k⟩=>by obtain⟨r,l,m,e⟩:=aa e;cases e;exact⟨F,ρ,r,_,g,m,λv F1 o s1 s=>k F1 σ o s1 v s⟩
 cases hv:isVar p with|none=>refine dm (Cg he.ev) λD σ H⟨F,ρ,fl,ρ',g,e,k⟩=>plain D σ H ⟨F,ρ,fl,ρ',g,?_,k⟩;rw[HH.Yk,hv]at e;exact e|some i=>--by the name itself:its own list is handed back,else its data
   have t:p=.var i:=by cases p<;>cases hv;rfl
   subst t;refine dm (Cg (Vc (he.var i hv) he.ev)) ?_;rintro D σ H⟨F,ρ,fl,ρ',g,e,k⟩;rw[HH.Yk,hv]at e;dsimp only at e;split at e;.rename_i ds q;cases e;obtain⟨v,h1,u,w⟩:=g.give q;exact .inl ⟨v,h1,k F σ H u v w⟩
   .exact .inr (plain D σ H ⟨F,ρ,fl,ρ',g,e,k⟩)
theorem oJ{m o:List Stmt}{s t:List S}(hc:ST X c e p)(u:SB X c n m s)(w:SB X c n o t):SS X c n (.If e m o pos) (.ifs p s t):=by refine dm (Kq hc u w) ?_;rintro D σ H⟨F,ρ,fl,ρ',g,e,k⟩;rw[HH.Xk]at e;obtain⟨x,j,y,e⟩:=aa e;refine⟨F,ρ,x,j,g,y,λF1 z s1=>?_⟩;have go:∀{f:List Sl->Res Fl},f j=.ok fl ρ'->XM X.K f D σ z:=λ{f}h=>⟨F1,j,fl,ρ',s1.gs,h,λA l B s2=>by have q:=k A l B (s1.trans s2);cases fl with|next=>exact q|brk=>exact q|cont=>exact q|ret r=>exact λv C=>q v (C.later s1)⟩;cases x with|true=>rw[if_pos rfl]at e;exact go e|false=>rw[if_neg Bool.false_ne_true]at e;exact go e
theorem nC{f:Pos}(l:X.N.Nodup)(hi:X.N[i]?=some x)(m:Loc X.env.scope x)(he:SX X c e p)(hs:swapsWith e (some (.Name x f)) pos.line X.env=pure false:=by rfl)(o:X.fn x=true\/X.env.scope.names.lookup x=some .local:=by first|exact .inl rfl|exact .inr rfl|assumption):SS X c n (.Assign [.Name x f] e pos) (.asg i p):=by refine dm (vQ l hi m he.ev hs o) ?_;rintro D σ H⟨F,ρ,fl,ρ',g,e,k⟩;rw[HH.X6]at e;obtain⟨r,j,q,e⟩:=aa e;obtain⟨s,t,h,e⟩:=aa e;cases e;have u:=aA h;clear h;obtain⟨h,z⟩:=u;exact⟨F,ρ,r,j,g,q,λv F1 w s1 y=>k F1 _ w (s1.put y h)⟩
end
end HH
end
section
namespace L2
open PySem PySem.Spec PyProof.Rows
variable{env:Env}{scope:Scope}{X:Cx}
noncomputable def qd(X:Cx)(scope:Scope)(N':List Str)(cl:List (Str×Addr))(C:Addr)(s₀:Shared)(H₀:Hp)(ex:List Addr):Cx:={X with N:=N',s₀:=s₀,H₀:=H₀,env:=compEnvC scope cl C X.env,outer:=X.stack,stack:=X.stack,ex:=ex,fn:=λx=>scope.names.lookup x==some .cell,pn:=[],xe:=λ_ _=>False}
theorem v9(l:List (Str×NameKind)):∀(cs:List (Str×Addr)),(∀n,(n,NameKind.free)∈l->∃c,env.cells.lookup n=some c)->(∀n c,cs.lookup n=some c->env.cells.lookup n=some c)->∃ cl,(forIn l cs (λ(x:Str × NameKind)(r:List (Str × Addr))=>(if(x.2==NameKind.free)=true then(do let a<-cellOf env x.1;pure (ForInStep.yield ((x.1,a)::r)))else pure (ForInStep.yield r):Sem (ForInStep (List (Str × Addr))))):Sem (List (Str × Addr)))=pure cl/\(∀n c,cl.lookup n=some c->env.cells.lookup n=some c)/\(∀n,((n,NameKind.free)∈l\/(cs.lookup n).isSome)->(cl.lookup n).isSome):=by induction l with|nil=>intro cs _ h;exact⟨cs,rfl,h,λn hn=>by rcases hn with hn|hn;cases hn;exact hn⟩|cons y l i=>
   obtain⟨n,k⟩:=y;intro cs b hc;rw[List.forIn_cons];by_cases f:k=.free
   . subst f;obtain⟨a,j⟩:=b n mem_cons_self;obtain⟨cl,e,h1,g⟩:=i ((n,a)::cs) (λm hm=>b m (mem_cons_of_mem _ hm)) λm c hm=>by
      rw[lookup_cons]at hm;split at hm;.rename_i q;have q:=eq_of_beq q;subst q;cases hm;exact j
      .exact hc m c hm
     refine⟨cl,?_,h1,λm hm=>g m ?_⟩
     . rw[<-e];have:cellOf env n=pure a:=by unfold cellOf;rw[j]
       simp only[beq_self_eq_true,if_true,this];rfl
     . rcases hm with hm|hm
       . rcases mem_cons.mp hm with hm|hm;.cases hm;right;simp[lookup_cons]
         .exact .inl hm
       . right;rw[lookup_cons];split;.rfl
         .exact hm
   . obtain⟨cl,e,h1,g⟩:=i cs (λm hm=>b m (mem_cons_of_mem _ hm)) hc;refine⟨cl,?_,h1,λm hm=>g m ?_⟩
     . rw[<-e];have:(k==NameKind.free)=false:=by simpa using f
       simp only[this,false_eq_true,if_false];rfl
     . rcases hm with hm|hm
       . rcases mem_cons.mp hm with hm|hm;.cases hm;exact absurd rfl f
         .exact .inl hm
       .exact .inr hm
theorem wO(a:∀n,(n,NameKind.free)∈scope.names->∃c,env.cells.lookup n=some c):∃cl,closureFor scope env=pure cl/\(∀n c,cl.lookup n=some c->env.cells.lookup n=some c)/\∀n,(n,NameKind.free)∈scope.names->(cl.lookup n).isSome:=by obtain⟨cl,e,h1,b⟩:=v9 (env:=env) scope.names [] a (by simp);refine⟨cl,?_,h1,λn f=>b n (.inl f)⟩;unfold closureFor;exact(congrArg (λt=>t>>=λr=>pure r) e).trans rfl
theorem cV{env:Env}:∀(names:List (Str×NameKind))(x:Str),(names.map λ(n,k)=>if(k==NameKind.free&&env.scope.kind==.function&&env.kindOf n==some .cell)then(n,NameKind.cell)else(n,k)).lookup x=(names.lookup x).map λk=>if(k==NameKind.free&&env.scope.kind==.function&&env.kindOf x==some .cell)=true then NameKind.cell else k
 |[],x=>rfl|(n,k)::r,x=>by
   have a:=cV (env:=env) r x;show List.lookup x ((if(k==NameKind.free&&env.scope.kind==.function&&env.kindOf n==some .cell)=true then(n,NameKind.cell)else(n,k))::_)=_;by_cases hc:(k==NameKind.free&&env.scope.kind==.function&&env.kindOf n==some .cell)=true;.rw[if_pos hc,lookup_cons,lookup_cons];cases hx:x==n with|true=>have:=eq_of_beq hx;subst this;show some NameKind.cell=some (if _ then _ else _);rw[if_pos hc]|false=>exact a
   .rw[if_neg hc,lookup_cons,lookup_cons];cases hx:x==n with|true=>have:=eq_of_beq hx;subst this;show some k=some (if _ then _ else _);rw[if_neg hc]|false=>exact a
noncomputable def Tc(N N':List Str)(a:Scope):Bool:=(N.zip N').all λp=>(p.1==p.2&&a.names.lookup p.2==some .free)||(a.names.lookup p.2!=some .local&&a.names.lookup p.2!=some .cell&&a.names.lookup p.2!=some .free)
structure dN(X:Cx)(scope:Scope)(N':List Str)(n:Nat):Prop where
 kind:scope.kind=.function
 cons:∀y∈scope.names,scope.names.lookup y.1=some y.2
 names:∀y∈scope.names,y.2=.local->scope.names.lookup y.1=some .local
 cap:∀y∈scope.names,y.2=.free->X.env.scope.names.lookup y.1=some .cell\/X.env.scope.names.lookup y.1=some .free
 len:N'.length=X.N.length+n
 same:Tc X.N N' scope=true
theorem dN.get{N':List Str}{n:Nat}(c:dN X scope N' n){i:Nat}{x:Str}(hi:i<X.N.length)(h:N'[i]?=some x)(a:tD (relabel scope X.env) x):X.N[i]?=some x/\scope.names.lookup x=some .free:=by
 have hz:(X.N.zip N')[i]?=some (X.N[i],x):=by rw[List.getElem?_zip_eq_some];exact⟨by simp[hi],h⟩
 have:=(all_eq_true.mp c.same) _ (mem_of_getElem? hz);simp only[or_eq_true,and_eq_true]at this;rcases this with⟨h1,b⟩|⟨⟨h1,b⟩,f⟩;.have h1:=eq_of_beq h1;have b:=eq_of_beq b;exact⟨by simp[hi,h1],b⟩
 . exfalso;have h1:scope.names.lookup x≠some .local:=by simpa using h1
   have b:scope.names.lookup x≠some .cell:=by simpa using b
   have f:scope.names.lookup x≠some .free:=by simpa using f
   have e:=cV (env:=X.env) scope.names x;have a:(relabel scope X.env).names.lookup x=some .local\/(relabel scope X.env).names.lookup x=some .cell\/(relabel scope X.env).names.lookup x=some .free:=a;rw[show(relabel scope X.env).names.lookup x=_ from e]at a;cases q:scope.names.lookup x with|none=>rw[q]at a;simp at a|some k=>
     rw[q]at a h1 b f;have g:(k==NameKind.free)=false:=by cases k<;>first|rfl|exact absurd rfl f
     simp only[Option.map_some,g,Bool.false_and,false_eq_true,if_false,Option.some.injEq]at a;rcases a with rfl|rfl|rfl;.exact h1 rfl
     .exact b rfl
     .exact f rfl
structure CI(cl:List (Str×Addr))(z:Nat)(h:Heap)(acc:List (Str×Addr)):Prop where from':∀n c,acc.lookup n=some c->cl.lookup n=some c\/(z<=c/\h.IsCell c none)inj:∀n n' c,acc.lookup n=some c->acc.lookup n'=some c->n=n'
theorem Di{cl:List (Str×Addr)}{z:Nat}(i:∀n c,cl.lookup n=some c->c<z):∀(names:List (Str×NameKind))(h:Heap)(f:List (Str×Addr)),z<=h.objs.size->CI cl z h f->CI cl z (pushCells h names) (cellsFrom h.objs.size names f)/\(∀n,(f.lookup n).isSome->((cellsFrom h.objs.size names f).lookup n).isSome)/\(∀n,((∃c,f.lookup n=some c/\z<=c)\/(n,NameKind.cell)∈names)->∃c,(cellsFrom h.objs.size names f).lookup n=some c/\z<=c)/\(∀n c,(n,NameKind.cell)∉names->(cellsFrom h.objs.size names f).lookup n=some c->f.lookup n=some c)
 |[],h,f,hz,x=>by
   refine⟨x,λ_ q=>q,λn q=>?_,λ_ _ _ q=>q⟩;rcases q with q|q;.exact q
   .cases q|(name,kind)::r,h,f,hz,x=>by
   unfold pushCells cellsFrom;by_cases l:kind=.cell
   . subst l;rw[if_pos (by rfl),if_pos (by rfl)];have p:CI cl z (h.push {cls:=.type "cell",data:=.cell none}) ((name,h.objs.size)::f):=by
      have lt:∀n c,f.lookup n=some c->c<h.objs.size:=λn c e=>by
       rcases x.from' n c e with q|q;.exact lt_of_lt_of_le (i n c q) hz
       .exact q.2.lt
      refine⟨λn c e=>?_,λn m c e j=>?_⟩
      . rw[lookup_cons]at e;split at e;.cases e;exact .inr ⟨hz,_,get?_push_size _ rfl,rfl⟩
        . rcases x.from' n c e with q|q;.exact .inl q
          .exact .inr ⟨q.1,q.2.keeps λb o e=>gb e⟩
      . rw[lookup_cons]at e j;split at e<;>split at j;.rename_i _ a _ b;rw[eq_of_beq a,eq_of_beq b]
        .cases e;exact absurd (lt m _ j) (lt_irrefl _)
        .cases j;exact absurd (lt n _ e) (lt_irrefl _)
        .exact x.inj n m c e j
     have g:=Di i r (h.push {cls:=.type "cell",data:=.cell none}) ((name,h.objs.size)::f) (by rw[size_push];omega) p;rw[size_push]at g;refine⟨g.1,λn q=>g.2.1 n ?_,λn q=>g.2.2.1 n ?_,λn c q e=>?_⟩
     . rw[lookup_cons];split;.rfl
       .exact q
     . rcases q with⟨c,e,hc⟩|q
       . left;rw[lookup_cons];split;.exact⟨_,rfl,hz⟩
         .exact⟨c,e,hc⟩
       . rcases mem_cons.mp q with q|q;.cases q;left;exact⟨_,by simp[lookup_cons],hz⟩
         .exact .inr q
     . have:=g.2.2.2 n c (λz=>q (mem_cons_of_mem _ z)) e;rw[lookup_cons]at this;split at this;.rename_i a;exact absurd (by rw[eq_of_beq a];exact mem_cons_self) q
       .exact this
   . have k:(kind==NameKind.cell)=false:=by simpa using l
     rw[if_neg (by rw[k];decide),if_neg (by rw[k];decide)];have g:=Di i r h f hz x;refine⟨g.1,g.2.1,λn q=>g.2.2.1 n ?_,λn c q e=>g.2.2.2 n c (λz=>q (mem_cons_of_mem _ z)) e⟩;rcases q with q|q;.exact .inl q
     . rcases mem_cons.mp q with q|q;.cases q;exact absurd rfl l
       .exact .inr q
structure Cd(X:Cx)(scope:Scope)(z:Nat)(h:Heap)(cs:List (Str×Addr)):Prop where
 from':∀n c,cs.lookup n=some c->X.env.cells.lookup n=some c\/(z<c/\h.IsCell c none)inj:∀n n' c,cs.lookup n=some c->cs.lookup n'=some c->n=n'
 has:∀n,(scope.names.lookup n=some .free\/scope.names.lookup n=some .cell)->∃c,cs.lookup n=some c
 fre:∀n c,scope.names.lookup n=some .free->cs.lookup n=some c->X.env.cells.lookup n=some c
 own:∀n c,scope.names.lookup n=some .cell->cs.lookup n=some c->z<c
theorem zQ{M:Model}{A:Around}{E:Value->Shared->Prop}{s:Shared}{N':List Str}{n:Nat}{cl:List (Str×Addr)}{Q:Env->Shared->Prop}(ok:dN X scope N' n)(h:∀n c,X.env.cells.lookup n=some c->c<s.heap.objs.size)(f:∀x y c,X.env.cells.lookup x=some c->X.env.cells.lookup y=some c->x=y)(a:∀n c,cl.lookup n=some c->X.env.cells.lookup n=some c)(l:∀n,(n,NameKind.free)∈scope.names->(cl.lookup n).isSome)(m:∀ cs h',h'.Ns s.heap.objs.size (λ_=>none)->(∀ b o,s.heap.get? b=some o->h'.get? b=some o)->Cd X scope s.heap.objs.size h' cs->Q {scope:=scope,locals:=s.heap.objs.size,globals:=X.env.globals,cells:=cs,qual:=X.env.qual,func:=none,code:=X.env.code,frame:=X.env.frame,builtins:=X.env.builtins} {s with heap:=h'}):wpAny M A (newFunctionEnv scope X.env.globals cl [] X.env.qual none .none (some X.env)) Q E s:=by
 simp only[newFunctionEnv,Option.isSome_some,if_true];refine wpAny_bind (wpAny_alloc ?_);refine wpAny_bind (wpAny_layCells _ (λname kind cells=>by cases i:kind==NameKind.cell<;>simp[i]) _ _ _ _ ?_);have ck:=Di (cl:=cl) (z:=s.heap.objs.size+1) (λn c e=>Nat.lt_succ_of_lt (h n c (a n c e))) scope.names (s.heap.push {cls:=.type "dict",data:=.dict #[]}) cl (by rw[size_push];exact cL) ⟨λn c e=>.inl e,λn k c e g=>f n k c (a n c e) (a k c g)⟩;obtain⟨c1,c2,c3,c4⟩:=ck;rw[show({s with heap:=s.heap.push {cls:=.type "dict",data:=.dict #[]}}:Shared).heap.objs.size=(s.heap.push {cls:=.type "dict",data:=.dict #[]}).objs.size from rfl];refine wpAny_bind ?_;rw[List.forIn_nil];refine wpAny_pure (wpAny_pure (m _ _ ((Heap.Ns.new s.heap (.type "dict")).keeps (pushCells_keeps _ _)) (λb o e=>pushCells_keeps _ _ b o (gb e)) ⟨λn c e=>?_,c1.inj,λn q=>?_,λn c q e=>?_,λn c q e=>?_⟩))
 . rcases c1.from' n c e with z|z;.exact .inl (a n c z)
   .exact .inr ⟨z.1,z.2⟩
 . rcases q with q|q;.exact Option.isSome_iff_exists.mp (c2 n (l n (PySem.mem_of_lookup q)))
   .obtain⟨c,e,_⟩:=c3 n (.inr (PySem.mem_of_lookup q));exact⟨c,e⟩
 .refine a n c (c4 n c (λz=>?_) e);have:=ok.cons _ z;rw[q]at this;cases this
 .obtain⟨p,g,j⟩:=c3 n (.inr (PySem.mem_of_lookup q));rw[e]at g;cases g;exact j
section
variable{X:Cx}{pins:List (Addr×Obj)}{σ:L2.St}{H:Hp}{s:Shared}{scope:Scope}{N':List Str}{n:Nat}{fp:List Addr}{cl:List (Str×Addr)}
theorem Cj{h1:Heap}{m:Str->Option Value}{t:Nat}{cs:List (Str×Addr)}(ok:dN X scope N' n)(I:Inv X pins σ H s)(G:∀b∈fp,oG X pins H b/\b<s.heap.objs.size)(w:Cd X scope s.heap.objs.size h1 cs)(Q:h1.Ns s.heap.objs.size m)(j:∀b u,s.heap.get? b=some u->h1.get? b=some u):Inv (qd X scope N' cs s.heap.objs.size s H fp) [] (σ++replicate n none) H {s with heap:=h1,toks:=t}:=by
 have U:∀x,scope.names.lookup x=some .free->(relabel scope X.env).names.lookup x=some .cell\/(relabel scope X.env).names.lookup x=some .free:=λx h=>by
  have e:=cV (env:=X.env) scope.names x;rw[h]at e;have J:(relabel scope X.env).names.lookup x=_:=e;rw[J];simp only[Option.map_some];split;.exact .inl rfl
  .exact .inr rfl
 refine⟨⟨I.ok.mod,ok.kind,I.ok.glob,I.ok.blt,cL,λx y c h1 W=>w.inj x y c h1 W,λx z=>?_,λx c h e=>le_of_lt (w.own x c (eq_of_beq (show(scope.names.lookup x==some NameKind.cell)=true from h)) e),I.ok.hd,I.ok.frames,.inl rfl,λb B=>?_,I.bs,le_trans I.ok.KD I.sz,λb u e B=>?_,λb B L=>?_,I.stack,I.yX⟩,rfl,I.bare,Un.kept j,⟨m,Q,λi x v Y C Z=>?_⟩,λx c e=>?_,I.hok.fresh (cL),λx c e=>?_,λp hp=>(by cases hp),I.hok.kept j,?_⟩;.--a V2 name has its cell
   have z:(relabel scope X.env).names.lookup x=some .cell\/(relabel scope X.env).names.lookup x=some .free:=z;have e:=cV (env:=X.env) scope.names x;have J:(relabel scope X.env).names.lookup x=_:=e;rw[J]at z;refine w.has x ?_;cases q:scope.names.lookup x with|none=>rw[q]at z;simp at z|some k=>
     rw[q]at z;by_cases hk:k=.free;.rw[hk];exact .inl rfl
     . have g:(k==NameKind.free)=false:=by simpa using hk
       simp only[Option.map_some,g,Bool.false_and,false_eq_true,if_false,Option.some.injEq]at z;rcases z with rfl|rfl;.exact .inr rfl
       .exact absurd rfl hk
 . obtain⟨f,lt⟩:=G b B;refine⟨ne_of_lt lt,λx c e=>?_⟩;rcases w.from' x c e with e|e;.exact f.2.2.2.2.1 x c e
   .rintro rfl;exact absurd (Nat.lt_trans e.1 lt) (lt_irrefl _)
 . obtain⟨f,lt⟩:=G b B;rcases f.2.2.2.1 with h|h;.exact I.ok.Gb b u e h
   .have this:b<X.base.objs.size:=lt_size e;exact absurd (lt_of_lt_of_le this (le_trans I.ok.KD h)) (lt_irrefl _)
 . obtain⟨f,lt⟩:=G b B;rcases mem_cons.mp (I.sO b L)with h|h;.exact f.2.1 h
   .exact f.2.2.1 h
 .--the names
   have hi:i<σ.length:=by
    by_cases hi:i<σ.length;.exact hi
    .rw[getElem?_append_right (by omega),List.getElem?_replicate]at C;split at C<;>cases C
   rw[getElem?_append_left hi]at C;obtain⟨M,o⟩:=ok.get (by rw[<-I.len];exact hi) Y Z;have hk:=ok.cap (x,.free) (PySem.mem_of_lookup o) rfl;obtain⟨m0,ac,hl⟩:=I.loc;obtain⟨u,r,l⟩:=hl i x v M C (.inr hk);refine⟨u,r,.inr ⟨U x o,?_⟩⟩;rcases l with⟨g,_⟩|⟨_,c,hc,A⟩;.have g:X.env.scope.names.lookup x=some .local:=g;rcases hk with hk|hk<;>(rw[g]at hk;cases hk)
   .obtain⟨c',E⟩:=w.has x (.inl o);have:=w.fre x c' o E;rw[hc]at this;cases this;refine⟨c,E,?_⟩;obtain⟨oc,N,O⟩:=A;exact⟨oc,j c oc N,O⟩
 . rcases w.from' x c e with e|e;.obtain⟨v,oc,N,O⟩:=I.cell x c e;exact⟨v,oc,j c oc N,O⟩
   .exact⟨_,e.2⟩
 . rcases w.from' x c e with e|e;.exact I.jo x c e
   .exact I.hok.fresh (le_of_lt e.1)
 .show(σ++replicate n none).length=N'.length;rw[length_append,List.length_replicate,I.len,ok.len]
theorem qU{prog:Program}{w:World}{A:Around}{R:Result->Shared->Prop}{p a iter:Expr}{ifs:List Expr}{pos:Pos}{it q:Value}(I:Nat->Shared->Prop)(t:∀ n s,I n s->wpAny (model prog w) A (pyNext it) (λr b=>match r with|none=>R (.ok .next) b|some v=>wpAny (model prog w) A (letOwnedTupleGo a it v) (λ_ b=>wpAny (model prog w) A (assign a env v) (λ_ j=>wpAny (model prog w) A (forIn ifs true λc r=>if r=true then do let ok<-isTrue c env (eval c env);pure (ForInStep.yield ok)else pure (ForInStep.yield r)) (λok g=>if ok=true then wpAny (model prog w) A (eval p env) (λx k=>wpAny (model prog w) A (call (.builtin "list.append") [q,x]) (λ_ l=>∃m,m<n/\I m l) (notedBy (model prog w) A env λe i=>R (.error e) i) k) (notedBy (model prog w) A env λe i=>R (.error e) i) g else ∃m,m<n/\I m g) (notedBy (model prog w) A env λe i=>R (.error e) i) j) (notedBy (model prog w) A env λe i=>R (.error e) i) b) (notedBy (model prog w) A env λe i=>R (.error e) i) b) (notedBy (model prog w) A env λe i=>R (.error e) i) s)(n:Nat){s:Shared}(h:I n s):codeAny (model prog w) A (.compLoop (.ListComp p [⟨a,iter,ifs,0⟩] scope pos) 0 it q env) R s:=by refine codeAny_loop rfl I (λn s B=>?_) n h;show wpAny _ A ((compTurn (.ListComp p [⟨a,iter,ifs,0⟩] scope pos) 0 it q env).onRaise (λx=>do noteFrame x env;theTreesLotGoes x)) _ _ s;refine wpAny_noted ?_;rw[compTurn_list];refine wpAny_bind (wpAny_standAt (wpAny_bind (wpAny_mono (t n s B) (λr b f=>?_) λ_ _ h'=>h')));cases r with|none=>exact wpAny_pure f|some v=>refine wpAny_bind (wpAny_mono f (λ_ b f=>?_) λ_ _ h'=>h');refine wpAny_bind (wpAny_mono f (λ_ j u=>wpAny_bind (wpAny_mono u (λok g o=>?_) λ_ _ h'=>h')) λ_ _ h'=>h');cases ok with|false=>exact wpAny_pure ⟨rfl,o⟩|true=>exact wpAny_bind (wpAny_bind (wpAny_mono o (λx k y=>wpAny_bind (wpAny_mono y (λ_ l z=>wpAny_pure (wpAny_pure ⟨rfl,z⟩)) λ_ _ h'=>h')) λ_ _ h'=>h'))
def Pq(X:Cx)(ifs:List Expr)(t:TT):Prop:=∀(pins:List (Addr × Obj))(s:Shared)(σ:L2.St)(H:Hp)(Q:Bool->Hp->Prop),Inv X pins σ H s->t σ H Q->wpAny (model X.prog X.w) X.A (forIn ifs true λc r=>if r=true then do let ok<-isTrue c X.env (eval c X.env);pure (ForInStep.yield ok)else pure (ForInStep.yield r)) (TP X pins σ Q) X.xe s
theorem Hk:Pq X [] (λ_ H Q=>Q true H):=λpins s σ H Q I h=>wpAny_tests_nil ⟨H,I,h⟩
theorem HD{c:Expr}{t:TT}(h:PT X c t):Pq X [c] t:=λpins s σ H Q I q=>wpAny_tests_one (h pins s σ H Q I q)
def J0(J:It)(g:TG)(tt:TT)(te:TE)(D:Addr)(Q:Hp->Prop)(W:Nat->Nat->List V->L2.St->Hp->Prop):Prop:=∀ i m ys σ H,W i m ys σ H->H D=some (.lst ys)/\((J.stop i H/\Q H)\/(J.go i H/\∀ x e,J.KJ i H x e->g x σ e λa j=>tt a j λb f=>if b=true then te a f λy h=>h D=some (.lst ys)/\ys.length<sizeLine/\∃c,c<m/\W (i+1) c (ys++[y]) a (upd h D (.lst (ys++[y])))else ∃c,c<m/\W (i+1) c ys a f))
theorem pY{E:Value->Shared->Prop}{af a iter:Expr}{ifs:List Expr}{pos:Pos}{it:Addr}{tn:Nat->Heap->Prop}{J:It}{g:TG}{tt:TT}{te:TE}{Q:Addr->Hp->Prop}{RR:Value->Addr->Result->Shared->Prop}(hc:X.calm=true)(ok:dN X scope N' n)(I:Inv X pins σ H s)(a9:∀n c,cl.lookup n=some c->X.env.cells.lookup n=some c)(xn:∀n,(n,NameKind.free)∈scope.names->(cl.lookup n).isSome)(T:Turn X.prog X.w X.K a J fp it tn)(h0:tn 0 s.heap)(hf:∀b∈fp,oG X pins H b)(hg:∀cl C s₀ H₀ ex,PG (qd X scope N' cl C s₀ H₀ ex) a g)(ht:∀cl C s₀ H₀ ex,Pq (qd X scope N' cl C s₀ H₀ ex) ifs tt)(he:∀cl C s₀ H₀ ex,PE (qd X scope N' cl C s₀ H₀ ex) af te)(hw:∀D,H D=none->∃W,(∃m,W 0 m [] (σ++replicate n none) (upd H D (.lst [])))/\J0 J g tt te D (Q D) W)(ba:∀D C B l,Q D l->(∃m,B.heap.Ns C m)->oG X pins l C->Inv X pins σ l B->RR (.ref D) C (.ok .next) B):wpAny (model X.prog X.w) X.A (newList []) (λap ar=>wpAny (model X.prog X.w) X.A (newFunctionEnv scope X.env.globals cl [] X.env.qual none .none (some X.env)) (λah av=>codeAny (model X.prog X.w) X.A (.compStart (.ListComp af [⟨a,iter,ifs,0⟩] scope pos) 0 (.ref it) ap {ah with scope:=relabel scope X.env}) (RR ap ah.locals) av) E ar) E s:=by
 refine wpAny_newObj_type (zQ ok (λx c e=>?lt) I.ok.inj a9 xn (λcs M ai hold bc=>?_));case lt=>obtain⟨v,z⟩:=I.cell x c e;exact lt_of_lt_of_le z.lt (by show _<=(s.heap.push _).objs.size;rw[size_push];exact Nat.le_succ _)
 dsimp only at ai hold bc ⊢--the new list,tracked
 have I3:Inv X pins σ (upd H s.heap.objs.size (.lst [])) {s with heap:=s.heap.push {cls:=.type "list",data:=.seq ([]:List Value).toArray}}:=I.Pu (t':=s.toks) .nil (rK);generalize al:({s with heap:=s.heap.push {cls:=.type "list",data:=.seq ([]:List Value).toArray}}:Shared)=s3 at I3;have hsz:s3.heap.objs.size=s.heap.objs.size+1:=by rw[<-al];exact size_push _ _
 have KZ:s3.heap=s.heap.push {cls:=.type "list",data:=.seq ([]:List Value).toArray}:=by rw[<-al]
 obtain⟨W,⟨m0,w0⟩,aw⟩:=hw s.heap.objs.size I.fresh;have ax:∀{h':Heap},(∀b o,s.heap.get? b=some o->h'.get? b=some o)->tn 0 h':=λk=>T.keep _ _ _ h0 λb j o e=>k b o e;have Ys:∀b∈fp,oG X pins (upd H s.heap.objs.size (.lst [])) b/\b<s3.heap.objs.size:=λb j=>by obtain⟨o,e,_⟩:=T.obj 0 _ h0 b j;have lt:=lt_size e;obtain⟨f1,f2⟩:=hf b j;exact⟨⟨by rw[ao (ne_of_lt lt)];exact f1,f2⟩,by rw[hsz];exact Nat.lt_succ_of_lt lt⟩
 rw[<-KZ]at ai hold bc ⊢;have I4:=Cj (t:=s3.toks) ok I3 Ys bc ai hold;have V3:∀b o,s.heap.get? b=some o->M.get? b=some o:=λb o e=>hold b o (by rw[KZ];exact gb e);generalize U:qd X scope N' cs s3.heap.objs.size s3 (upd H s.heap.objs.size (.lst [])) fp=G at I4;have hA:G.A=X.A:=by rw[<-U];rfl
 have N:G.prog=X.prog:=by rw[<-U];rfl
 have O:G.w=X.w:=by rw[<-U];rfl
 have ay:G.K=X.K:=by rw[<-U];rfl
 have Y:G.calm=true:=by rw[<-U];exact hc
 have bi:G.xe=λ_ _=>False:=by rw[<-U];rfl
 have aE:G.env=compEnvC scope cs s3.heap.objs.size X.env:=by rw[<-U];rfl
 have bm:PG G a g:=by rw[<-U];exact hg _ _ _ _ _
 have bn:Pq G ifs tt:=by rw[<-U];exact ht _ _ _ _ _
 have bo:PE G af te:=by rw[<-U];exact he _ _ _ _ _
 have ff:∀{l:Hp}{b:Addr},b∈fp->l b=none->oG G [] l b:=λ{l b}j hn=>by
  obtain⟨f,lt⟩:=Ys b j;rw[<-U];refine⟨hn,ne_of_lt lt,λbp=>?_,.inl j,λx c e=>?_,λp hp=>by cases hp⟩
  . rcases mem_cons.mp (I3.sO b bp)with h|h;.exact f.2.1 h
    .exact f.2.2.1 h
  . rcases bc.from' x c e with e|e;.exact f.2.2.2.2.1 x c e
    .rintro rfl;exact absurd (Nat.lt_trans e.1 lt) (lt_irrefl _)--behind the block
 have fin:∀{L:L2.St}{l:Hp}{B:Shared},Inv G [] L l B->Q s.heap.objs.size l->RR (.ref s.heap.objs.size) s3.heap.objs.size (.ok .next) B:=λ{L l B}J' q=>by
  rw[<-U]at J';have hC:l s3.heap.objs.size=none:=J'.free;obtain⟨hh,gg,dd,bq,br⟩:=B;have bt:br=s3.os:=J'.os;subst bt;refine ba _ _ _ l q (let⟨m,hm,_⟩:=J'.loc;⟨m,hm⟩) ?_ (I3.call (h':=hh) (g':=gg) (d':=dd) (t':=bq) (ch:=fp) J'.base J'.hok J'.bare λb j=>?_);.exact I3.El (cL) hC
  .obtain⟨f,lt⟩:=Ys b j;exact⟨f.2.2.2.1,f.2.1,f.2.2.2.2.1,f.2.2.2.2.2⟩
 have ac:codeAny (model X.prog X.w) X.A (.compLoop (.ListComp af [⟨a,iter,ifs,0⟩] scope pos) 0 (.ref it) (.ref s.heap.objs.size) G.env) (RR (.ref s.heap.objs.size) s3.heap.objs.size) {s3 with heap:=M,toks:=s3.toks}:=by
  refine qU (λk B=>∃i ys L l,Inv G [] L l B/\tn i B.heap/\(∀b∈fp,l b=none)/\W i k ys L l) (λk s5 hI=>?_) m0 ⟨0,[],_,_,I4,ax V3,λb j=>(Ys b j).1.1,w0⟩;obtain⟨i,ys,ag,H5,I5,t5,f5,w5⟩:=hI;obtain⟨hD,am⟩:=aw i k ys ag H5 w5;have Yt:∀{Z:Value->Shared->Prop},∀(e:Value)(B:Shared),G.xe e B->Z e B:=λe B z=>by rw[bi]at z;exact False.elim z
  rcases am with⟨stop,q⟩|⟨go,step⟩;.have z:=T.done G N O ay Y i [] s5 ag H5 (λ_ _=>False) I5 (λb j=>ff j (f5 b j)) t5 stop;rw[hA]at z;refine wpAny_mono z (?_) λ_ _ z=>False.elim z;rintro r s6⟨hr,I6⟩;subst hr;exact fin I6 q
  . have z:=T.item G N O ay Y i [] s5 ag H5 (λ_ _=>False) I5 (λb j=>ff j (f5 b j)) t5 go;rw[hA]at z;refine wpAny_mono z (?_) λ_ _ z=>False.elim z;rintro r s6⟨u,hr,z6⟩;subst hr;refine wpAny_mono z6 (?_) λ_ _ z=>False.elim z;rintro _ s7⟨x,H7,I7,r7,y7,t7,f7⟩;have bv:=I7.pinned (λb j=>ff j (f7 b j)) (T.obj _ _ t7)--what the pins keep
    have back:∀{L:L2.St}{l:Hp}{B:Shared},Inv G ([]++oV fp s7.heap) L l B->Inv G [] L l B/\tn (i+1) B.heap/\∀b∈fp,l b=none:=λ{L l B}J'=>by refine⟨J'.jL,T.keep _ _ _ t7 λb j o e=>(J'.pin (b,o) (mem_append_right _ (mem_append_right _ (gw j e)))).1,λb j=>?_⟩;obtain⟨o,e,_⟩:=T.obj _ _ t7 b j;exact(J'.pin (b,o) (mem_append_right _ (mem_append_right _ (gw j e)))).2.1
    have z7:=bm _ s7 ag H7 x u _ bv r7 (step x H7 y7);rw[hA,N,O]at z7;refine wpAny_mono z7 (?_) Yt;rintro _ s8⟨ae,H8,I8,q8⟩;have z8:=bn _ s8 ae H8 _ I8 q8;rw[hA,N,O]at z8;refine wpAny_mono z8 (?_) Yt;rintro b s9⟨H9,I9,q9⟩;cases b with|false=>rw[if_neg Bool.false_ne_true]at q9 ⊢;obtain⟨m',hm,w'⟩:=q9;obtain⟨b1,b2,b3⟩:=back I9;exact⟨m',hm,i+1,ys,ae,H9,b1,b2,b3,w'⟩|true=>rw[if_pos rfl]at q9 ⊢;have z9:=bo _ s9 ae H9 _ I9 q9;rw[hA,N,O]at z9;refine wpAny_mono z9 (?_) Yt;rintro y jb⟨yv,aI,bP,bS,bX,aS,m',hm,w'⟩;have aT:=lz _ jb ae aI (.ref s.heap.objs.size) [yv] (.ref s.heap.objs.size) [y] (λv a8=>a8=upd aI s.heap.objs.size (.lst (ys++[yv]))) bP rfl (.cons bS .nil) ⟨_,ys,yv,rfl,rfl,bX,aS,rfl⟩;rw[hA,N,O]at aT;refine wpAny_mono aT (?_) Yt;rintro _ WN⟨_,a8,ca,_,cb⟩;subst cb;obtain⟨b1,b2,b3⟩:=back ca;exact⟨m',hm,i+1,ys++[yv],ae,_,b1,b2,b3,w'⟩
 have e3:({s3 with heap:=M,toks:=s3.toks}:Shared)={s with heap:=M}:=by rw[<-al]
 rw[aE,e3]at ac;exact codeAny_compStart_list ac (T.self _ 0 _ _ _ (ax V3) ac)
end
section
variable{X:Cx}{elt target iter:Expr}{ifs:List Expr}{scope:Scope}{pos:Pos}{N':List Str}{n:Nat}{wi:TI}{g:TG}{tt:TT}{te:TE}
def qD(n:Nat)(wi:TI)(g:TG)(tt:TT)(te:TE):TE:=λσ H Q=>wi σ H λJ a=>∀D,a D=none->∃W,(∃m,W 0 m [] (σ++replicate n none) (upd a D (.lst [])))/\J0 J g tt te D (λb=>Q (.ref D) b) W
theorem jX{a:List (Addr×Obj)}{σ:L2.St}{H:Hp}{s:Shared}(I:Inv X a σ H s)(ok:dN X scope N' n):∃cl,closureFor scope X.env=pure cl/\(∀n c,cl.lookup n=some c->X.env.cells.lookup n=some c)/\∀n,(n,NameKind.free)∈scope.names->(cl.lookup n).isSome:=wO λm b=>I.ok.has m (ok.cap (m,.free) b rfl)
theorem Hl(hc:X.calm=true)(ok:dN X scope N' n)(hi:PI X target iter wi)(r:∀cl C s₀ H₀ ex,PG (qd X scope N' cl C s₀ H₀ ex) target g)(ht:∀cl C s₀ H₀ ex,Pq (qd X scope N' cl C s₀ H₀ ex) ifs tt)(he:∀cl C s₀ H₀ ex,PE (qd X scope N' cl C s₀ H₀ ex) elt te)(hs:∀x,foldedSetIterable iter X.env x=pure x:=by intro _;rfl):PE X (.ListComp elt [⟨target,iter,ifs,0⟩] scope pos) (qD n wi g tt te):=by intro a s σ H Q I h;obtain⟨cl,c,i,t⟩:=jX I ok;rw[eval_ListComp];refine wpAny_comprehension_free (use:=none) rfl hs c ok.kind ok.names (bH (hi a s σ H _ I h) λv s1 h1=>bH h1 λu s2 y=>?_);obtain⟨it,M,N,J,O,rfl,z,T,t0,f2,B⟩:=y;refine pY (Q:=λD j=>Q (.ref D) j) (RR:=λk C=>compPost (model X.prog X.w) X.A X.xe none (EP X a σ Q) k C) hc ok z i t T t0 f2 r ht he B λD C E j q l f G=>?_;obtain⟨m,l⟩:=l;refine⟨m,l,λh' p=>⟨.ref D,j,?_,rfl,q⟩⟩;exact G.turned (t':=E.toks) (λb o L e=>p.extBut b o L e) f.1 f.2.1 f.2.2.2.1 f.2.2.2.2.1 f.2.2.2.2.2
theorem yU{i:Nat}{x:Str}{c j:Pos}(hc:X.calm=true)(U:X.N.Nodup)(r:X.N[i]?=some x)(W:Loc X.env.scope x)(ok:dN X scope N' n)(hi:PI X target iter wi)(Y:∀cl C s₀ H₀ ex,PG (qd X scope N' cl C s₀ H₀ ex) target g)(ht:∀cl C s₀ H₀ ex,Pq (qd X scope N' cl C s₀ H₀ ex) ifs tt)(he:∀cl C s₀ H₀ ex,PE (qd X scope N' cl C s₀ H₀ ex) elt te)(t:swapsWith (.ListComp elt [⟨target,iter,ifs,0⟩] scope pos) (some (.Name x c)) j.line X.env=pure true)(hs:∀x,foldedSetIterable iter X.env x=pure x:=by intro _;rfl)(Z:X.fn x=true\/X.env.scope.names.lookup x=some .local:=by first|exact .inl rfl|exact .inr rfl|assumption):PS X (.Assign [.Name x c] (.ListComp elt [⟨target,iter,ifs,0⟩] scope pos) j) (Pr (qD n wi g tt te) (ig i)):=by
 intro f s σ H D I h;obtain⟨cl,k,u,xn⟩:=jX I ok;rw[exec_Assign_Name_used _ _ _ _ t];refine wpAny_bind (wpAny_standAt (wpAny_bind ?_));show wpAny _ X.A (do let _<-comprehension (.ListComp elt [⟨target,iter,ifs,0⟩] scope pos) scope X.env _ (newList []) false (eval iter X.env) (some (assign (.Name x c) X.env))) _ _ s;refine wpAny_bind (wpAny_mono (wpAny_comprehension_free (use:=some (assign (.Name x c) X.env)) (Q:=λ_ p=>SP X f D .next p) rfl hs k ok.kind ok.names (bH (hi f s σ H _ I h) λv s1 h1=>bH h1 λac s2 h2=>?_)) (λ_ p hq=>wpAny_pure (wpAny_pure hq)) λ_ _ e=>e);obtain⟨it,fp,tn,J,H2,rfl,I2,T,t0,f2,hw⟩:=h2;refine pY (Q:=λDa y=>D.nx (σ.set i (some (.ref Da))) y) (RR:=λB C=>compPost (model X.prog X.w) X.A X.xe (some (assign (.Name x c) X.env)) (λ_ p=>SP X f D .next p) B C) hc ok I2 u xn T t0 f2 Y ht he hw λDa C p y q E l I'=>?_;obtain⟨m,E⟩:=E;show wpAny _ X.A (assign (.Name x c) X.env (.ref Da)) _ _ _;refine wpAny_assign_Name (ql I' U r W (show RelV (.ref Da) (.ref Da)from rfl) (?_) Z);rintro G L⟨a,sb,ha⟩;have M:C≠a:=by
  rcases ha with rfl|ha;.exact l.2.1
  .exact λz=>l.2.2.2.2.1 x a ha z.symm
 refine⟨m,E.sameBut sb M,λh' O=>⟨_,y,?_,q⟩⟩;exact L.turned (t':=G.toks) (λb o hb e=>O.extBut b o hb e) l.1 l.2.1 l.2.2.2.1 l.2.2.2.2.1 l.2.2.2.2.2
def ZQ(K:PySem.W.Frag)(c:TE):TI:=λσ H R=>c σ H λx b=>∃a,x=.ref a/\(((∃xs,dJ K b a xs)/\R (O6 K a) b)\/((∃xs,jg K b a xs)/\R (Rv K a) b))
theorem v7{u l:Expr}{r:TE}(w:PE X l r):PI X u l (ZQ X.K r):=by
 intro f s σ H R I h;refine bH (w f s σ H _ I h) ?_;rintro v s1⟨x,t,c,r1,j⟩;obtain⟨a,e,j⟩:=j;subst e;cases r1;rcases j with⟨⟨xs,k⟩,q⟩|⟨⟨xs,k⟩,q⟩
 . obtain⟨i,y,p,hz⟩:=c.list k;refine wpAny_pyIter_list p.isList ?_;refine⟨s1.heap.objs.size,[s1.heap.objs.size],_,_,t,rfl,c.kept (t':=s1.toks) λb o e=>gb e,zA a _,⟨_,get?_push_size _ rfl,rfl,rfl⟩,λb m=>?_,q⟩;have e:b=s1.heap.objs.size:=by simpa using m
   subst e;exact c.El (cL) (c.hok.fresh (cL))
 . obtain⟨i,y,p,hz⟩:=c.tuple k;refine wpAny_pyIter_tuple (show s1.heap.IsTuple a i.toArray from p) ?_;refine⟨s1.heap.objs.size,[s1.heap.objs.size],_,_,t,rfl,c.kept (t':=s1.toks) λb o e=>gb e,wQ a _,⟨_,get?_push_size _ rfl,rfl,rfl⟩,λb m=>?_,q⟩;have e:b=s1.heap.objs.size:=by simpa using m
   subst e;exact c.El (cL) (c.hok.fresh (cL))
end
end L2
end
section
namespace HH
open PySem L2 PySem.Spec PyProof.Rows
variable{v:V}{i m:Nat}{K:PySem.W.Frag}{F H:Hp}{ρ:List Sl}{σ:L2.St}{x:Str}{p':Pos}{is:List Nat}{ds:List D}{s:Shared}{A:Around}{u':Value}
structure Walk(K:PySem.W.Frag)(F:Hp)(ρ:List Sl)(σ:L2.St)(H:Hp)(ul:List Sl->List Sl)(J:It)(ds:List D)(F1:Hp)(ρ1:List Sl)(H1:Hp):Prop where
 gs:GS K F1 ρ1 σ H1
 src:∀(n k:Nat)(F':Hp)(ρ':List Sl)(σ':L2.St)(H':Hp),aq K F1 (ρ1++replicate n .aP) (σ++replicate n none) H1 F' ρ' σ' H'->(∀d,ds[k]?=some d->J.go k H'/\∀x sW,J.KJ k H' x sW->∃F'',Ext F' H' F'' sW/\Rep K F'' x d)/\(ds.length<=k->J.stop k H')fin:∀F2 ρ2 σ2 H2,aq K F1 ρ1 σ H1 F2 ρ2 σ2 H2->aq K F ρ σ H F2 (ul ρ2) σ2 H2/\∀v r,bT K F2 ρ2 σ2 H2 ρ1 σ H1 v r->bT K F2 (ul ρ2) σ2 H2 ρ σ H v r
inductive tIt(K:PySem.W.Frag)(iv:Option Nat)(f:Ev)(σ:L2.St)(H:Hp)(R:It->Hp->Prop):Prop where|mk(F:Hp)(ρ:List Sl)(ds:List D)(ρ1:List Sl)(g:GS K F ρ σ H)(e:srcOf iv f ρ=.ok ds ρ1)(k:∀J F1 H1,Walk K F ρ σ H (aX ρ iv) J ds F1 ρ1 H1->R J H1)
section
variable{K:PySem.W.Frag}{F F1 H H1:Hp}{ρ ρ1:List Sl}{σ:L2.St}{ds:List D}{a:Addr}
theorem yt{xs:List V}{f b:Hp}(g:jg K b a xs)(r:aB K f xs ds)(s:aF f b)(k:Nat):(∀d,ds[k]?=some d->(Rv K a).go k b/\∀x j,(Rv K a).KJ k b x j->∃c,Ext f b c j/\Rep K c x d)/\(ds.length<=k->(Rv K a).stop k b):=by refine⟨λd hd=>?_,λh=>⟨xs,g,by rw[r.length];exact h⟩⟩;obtain⟨w,h1,l⟩:=r.get hd;refine⟨⟨xs,w,g,h1⟩,?_⟩;rintro x j⟨e,y⟩;subst e;have:=y xs g;rw[h1]at this;cases this;exact⟨f,.refl s,l⟩
theorem nP{xs:List V}{f b:Hp}(g:dJ K b a xs)(r:aB K f xs ds)(s:aF f b)(k:Nat):(∀d,ds[k]?=some d->(O6 K a).go k b/\∀x j,(O6 K a).KJ k b x j->∃c,Ext f b c j/\Rep K c x d)/\(ds.length<=k->(O6 K a).stop k b):=by refine⟨λd hd=>?_,λh=>⟨xs,g,by rw[r.length];exact h⟩⟩;obtain⟨w,h1,l⟩:=r.get hd;refine⟨⟨xs,w,g,h1⟩,?_⟩;rintro x j⟨e,y⟩;subst e;have:=y xs g;rw[h1]at this;cases this;exact⟨f,.refl s,l⟩
theorem ur{ul:List Sl->List Sl}{d:D}(s:aq K F ρ σ H F1 ρ1 σ H1)(r:Rep K F1 v d)(hi:items d=some ds)(fin:∀f b c g,aq K F1 ρ1 σ H1 f b c g->aq K F ρ σ H f (ul b) c g/\∀v r,bT K f b c g ρ1 σ H1 v r->bT K f (ul b) c g ρ σ H v r):∃a,v=.ref a/\(((∃xs,dJ K H1 a xs)/\Walk K F ρ σ H ul (O6 K a) ds F1 ρ1 H1)\/((∃xs,jg K H1 a xs)/\Walk K F ρ σ H ul (Rv K a) ds F1 ρ1 H1)):=by cases d with|tup es=>cases hi;rw[Rep]at r;obtain⟨a,xs,rfl,h1,h⟩:=r;exact⟨a,rfl,.inr ⟨⟨xs,aF.gF s.gs.sub h1⟩,s.gs,λn k o j l p e=>yt (aF.gF e.gs.sub (aF.gF e.cz h1)) (h.mono e.cz) e.gs.sub k,fin⟩⟩|lst es=>cases hi;rw[Rep]at r;obtain⟨a,xs,rfl,h1,h⟩:=r;exact⟨a,rfl,.inl ⟨⟨xs,s.gs.sub.seq h1⟩,s.gs,λn k o j l p e=>nP (e.gs.sub.seq (e.cz.seq h1)) (h.mono e.cz) e.gs.sub k,fin⟩⟩|_=>cases hi
theorem pO{ul:List Sl->List Sl}(g:GS K F ρ1 σ H)(e:ρ1[i]?=some (.lent ds))(fin:∀f b c h,aq K F ρ1 σ H f b c h->aq K F ρ σ H f (ul b) c h/\∀v r,bT K f b c h ρ1 σ H v r->bT K f (ul b) c h ρ σ H v r):∃a,σ[i]?=some (some (.ref a))/\(∃xs,dJ K H a xs)/\Walk K F ρ σ H ul (O6 K a) ds F ρ1 H:=by obtain⟨a,xs,h1,p,C,E⟩:=g.oA i _ ds e rfl;have hi:i<ρ1.length:=(dw e).1;refine⟨a,h1,⟨xs,dJ.of p⟩,g,λn k G q u I j=>?_,fin⟩;obtain⟨l,t,w,y⟩:=j.lk i _ (by rw[getElem?_append_left hi];exact e) rfl;cases(show t=.lent ds from y);rw[getElem?_append_left (by rw[<-g.len];exact hi),h1]at l;obtain⟨J,ys,o,z,L,B⟩:=j.gs.oA i _ ds w rfl;rw[l]at o;cases o;exact nP (dJ.of z) B j.gs.sub k
end
section
variable{X:Cx}{c:Call}{n:Nat}{e a b d tg:Expr}{p pa pb pd:P}{pos:Pos}
theorem qm{t t':TI}(h:PI X tg e t)(i:∀σ H R,t' σ H R->t σ H R):PI X tg e t':=λf s σ H R I q=>h f s σ H R I (i σ H R q)
def SI(X:Cx)(c:Call)(tg e:Expr)(p:P):Prop:=PI X tg e (tIt X.K (isVar p) (HH.ev c p))
theorem cZ(h:SX X c e p):SI X c tg e p:=by unfold SI;cases hv:isVar p with|none=>refine qm (v7 h.ev) ?_;rintro σ H R⟨F,ρ,ds,u,g,e,k⟩;obtain⟨r,f,L,t⟩:=aa e;have y:=aA t;clear t;obtain⟨t,B⟩:=y;subst B;refine⟨F,ρ,r,_,g,L,λv U W s C=>?_⟩;obtain⟨l,s2,_,M⟩:=s.cG C;obtain⟨a,E,G⟩:=ur (ul:=aX ρ none) s2 M t λY N O Z s3=>⟨s2.trans s3,λv r C=>C.later s2⟩;exact⟨a,E,G.imp (λ⟨z,w⟩=>⟨z,k _ _ _ w⟩) (λ⟨z,w⟩=>⟨z,k _ _ _ w⟩)⟩|some i=>
   refine qm (v7 (h.var i hv)) ?_;rintro σ H R⟨F,ρ,ds,u,g,e,k⟩;unfold srcOf at e;dsimp only at e;split at e
   . rename_i b d q;have y:=aA e;clear e;obtain⟨t,B⟩:=y;subst B;obtain⟨v,h1,Q⟩:=g.val i b d q;have fin:∀l f j o,aq X.K F ρ σ H l f j o->aq X.K F ρ σ H l (aX ρ (some i) f) j o/\∀v r,bT X.K l f j o ρ σ H v r->bT X.K l (aX ρ (some i) f) j o ρ σ H v r:=λl f j o s=>by unfold aX;dsimp only;rw[q];exact⟨s,λ_ _ z=>z⟩
     obtain⟨a,E,G⟩:=ur (ul:=aX ρ (some i)) (.refl g) Q t fin;exact⟨v,h1,a,E,G.imp (λ⟨z,w⟩=>⟨z,k _ _ _ w⟩) (λ⟨z,w⟩=>⟨z,k _ _ _ w⟩)⟩
   . rename_i b I q;cases e;have hi:i<ρ.length:=(dw q).1;have fin:∀l f j o,aq X.K F (ρ.set i (.lent ds)) σ H l f j o->aq X.K F ρ σ H l (aX ρ (some i) f) j o/\∀v r,bT X.K l f j o (ρ.set i (.lent ds)) σ H v r->bT X.K l (aX ρ (some i) f) j o ρ σ H v r:=λl f j o s=>by unfold aX;dsimp only;rw[q];exact aq.aX g q s
     obtain⟨a,h1,J,w⟩:=pO (ul:=aX ρ (some i)) (g.lend q) (getElem?_set_self hi) fin;exact⟨_,h1,a,rfl,.inl ⟨J,k _ _ _ w⟩⟩
   . rename_i I q;cases e;have fin:∀l f j o,aq X.K F ρ σ H l f j o->aq X.K F ρ σ H l (aX ρ (some i) f) j o/\∀v r,bT X.K l f j o ρ σ H v r->bT X.K l (aX ρ (some i) f) j o ρ σ H v r:=λl f j o s=>by unfold aX;dsimp only;rw[q];exact⟨s,λ_ _ z=>z⟩
     obtain⟨a,h1,J,w⟩:=pO (ul:=aX ρ (some i)) g q fin;exact⟨_,h1,a,rfl,.inl ⟨J,k _ _ _ w⟩⟩
   .cases e
theorem Cq{F1 g:Hp}{f:List Sl}(s:aq K F ρ σ H F1 f σ g)(i j:Int):Walk K F ρ σ H (aX ρ none) (Ud i (j-i).toNat) ((List.range (j-i).toNat).map λ(k:Nat)=>D.int (i+(k:Int))) F1 f g:=by
 refine⟨s.gs,λn k o q t I u=>⟨λd hd=>?_,λh=>?_⟩,λJ w y L s3=>⟨s.trans s3,λv r z=>z.later s⟩⟩;.rw[getElem?_map]at hd;obtain⟨m,B,C⟩:=map_some hd;obtain⟨h1,l⟩:=dw B;rw[List.getElem_range]at l;subst l;subst C;rw[length_range]at h1;refine⟨h1,?_⟩;rintro x M⟨E,G⟩;subst E;subst G;exact⟨o,.refl u.gs.sub,bC _⟩
 .rw[length_map,length_range]at h;exact h
theorem fL(t:x="range")(u:Gl X x)(w:X.mg x=none)(y:SX X c a pa)(hs:starEach [a] X.env=[(false,eval a X.env)]:=by rfl):SI X c tg (.Call (.Name x p') [a] [] pos) (.qG (.con (.int 0)) pa):=by
 subst t;obtain⟨U,h1,z⟩:=y.bK;refine qm (qu u w (bF h1 cY hs) hs) ?_;rintro σ H R⟨F,ρ,ds,B,g,e,k⟩;obtain⟨r,C,q,h⟩:=aa e;have l:=aA h;clear h;obtain⟨h,E⟩:=l;subst E;rw[HH.E19]at q;obtain⟨W,G,I,f⟩:=aa q;have l:=aA f;clear f;obtain⟨f,J⟩:=l;subst J;obtain⟨Y,L,M,o⟩:=aa I;cases o;obtain⟨i,f1,f⟩:=bB f;obtain⟨j,f2,f⟩:=bB f;obtain⟨⟨b1,b2,b3,b4⟩,f⟩:=aO f;have f1:i=0:=by cases f1;rfl
 subst f1;subst f;cases h;cases cF f2;refine z g M λv N O s Q=>⟨j,by rw[Q.int],by omega,by omega,?_⟩;have:=Cq s 0 j;rw[sub_zero]at this;refine k _ N O ?_;rw[sub_zero];exact this
end
section
variable{X:Cx}{c:Call}{n:Nat}{e a b d tg iter:Expr}{p pa pb pd:P}{pos:Pos}{body:List Stmt}{ss:List S}
def HF(K:PySem.W.Frag)(j:List Sl->D->Option (List Sl))(g:TG):Prop:=∀(x:V)(d:D)(F:Hp)(ρ f:List Sl)(σ:L2.St)(H:Hp)(Q:L2.St->Hp->Prop),GS K F ρ σ H->Rep K F x d->j ρ d=some f->(∀h,aq K F ρ σ H F f h H->Q h H)->g x σ H Q
theorem qR(i:Nat):HF K (λρ d=>put ρ i (.val false d)) (ig i):=λx d F ρ f σ H Q g r h k=>k _ (aq.put (r:=.val d) (.refl g) r h)
theorem fJ:∀(is:List Nat)(gs:Bj),(∀(xs:List V)(ds:List D)(F:Hp)(ρ f:List Sl)(σ:L2.St)(H:Hp)(Q:L2.St->Hp->Prop),GS K F ρ σ H->aB K F xs ds->putAll ρ is ds=some f->(∀j,aq K F ρ σ H F f j H->Q j H)->gs xs σ H Q)->∀i,∀(xs:List V)(ds:List D)(F:Hp)(ρ f:List Sl)(σ:L2.St)(H:Hp)(Q:L2.St->Hp->Prop),GS K F ρ σ H->aB K F xs ds->putAll ρ (i::is) ds=some f->(∀j,aq K F ρ σ H F f j H->Q j H)->Cw (ig i) gs xs σ H Q:=by intro is gs o i xs ds F ρ f σ H Q g r h k;cases ds with|nil=>simp[putAll]at h|cons d ds=>obtain⟨v,vs,rfl,h1,q⟩:=r.bO;rw[putAll]at h;obtain⟨l,t,u⟩:=bB h;have s1:=aq.put (r:=.val d) (.refl g) h1 t;refine⟨v,vs,rfl,o vs ds F l f _ H _ s1.gs q u λj s2=>k j (s1.trans s2)⟩
theorem sE:∀(xs:List V)(ds:List D)(F:Hp)(ρ f:List Sl)(σ:L2.St)(H:Hp)(Q:L2.St->Hp->Prop),GS K F ρ σ H->aB K F xs ds->putAll ρ [] ds=some f->(∀j,aq K F ρ σ H F f j H->Q j H)->NT xs σ H Q:=by intro xs ds F ρ f σ H Q g r h k;cases ds with|nil=>rw[putAll]at h;cases h;exact⟨r.dO,k σ (.refl g)⟩|cons d ds=>simp[putAll]at h
theorem jq:∀{is:List Nat}{ds:List D}{ρ f:List Sl},putAll ρ is ds=some f->ds.length=is.length|[],[],_,_,_=>rfl|[],_::_,_,_,h=>by simp[putAll]at h|_::_,[],_,_,h=>by simp[putAll]at h|i::is,d::ds,ρ,f,h=>by rw[putAll]at h;obtain⟨g,k,j⟩:=bB h;simp[jq j]
theorem wz{gs:Bj}(q:m=is.length)(h:∀(xs:List V)(ds:List D)(F:Hp)(ρ f:List Sl)(σ:L2.St)(H:Hp)(Q:L2.St->Hp->Prop),GS K F ρ σ H->aB K F xs ds->putAll ρ is ds=some f->(∀l,aq K F ρ σ H F f l H->Q l H)->gs xs σ H Q):HF K (λρ d=>bV ρ is false d) (Ql K m gs):=by intro x d F ρ f σ H Q g r j k;replace j:bV ρ is false d=some f:=j;cases d with|tup ds=>replace j:putAll ρ is ds=some f:=j;rw[Rep]at r;obtain⟨a,xs,rfl,h1,o⟩:=r;exact⟨a,xs,rfl,aF.gF g.sub h1,by rw[o.length,jq j,q],h xs _ F ρ f σ H Q g o j k⟩|_=>cases j
theorem qL{g:TG}{one:Bool}(hp:PassesOwn (model X.prog X.w) X.A X.env X.xe)(hc:X.calm=true)(hi:SI X c tg iter p)(hg:PG X tg g)(ac:HF X.K (λρ d=>bV ρ is one d) g)(hb:SB X c n body ss)(hs:∀x,foldedSetIterable iter X.env x=pure x:=by intro _;rfl):SS X c n (.For tg iter body [] pos) (.gJ p is one ss):=by
 refine dm (Ci hp hc hi hg hb hs) ?_;rintro D σ H⟨F,ρ,fl,t,g0,e,k⟩;rw[HH.X13]at e;obtain⟨ds,o,e1,e⟩:=aa e;obtain⟨af,G,e2,e⟩:=aa e;cases e;refine⟨F,ρ,ds,o,g0,e1,λJ F1 H1 w=>?_⟩;have src:∀(i:Nat)(Q:Hp)(t:List Sl)(h:L2.St)(j:Hp),aq X.K F1 o σ H1 Q t h j->(∀d,ds[i]?=some d->J.go i j/\∀x sW,J.KJ i j x sW->∃I,Ext Q j I sW/\Rep X.K I x d)/\(ds.length<=i->J.stop i j):=λi Q t h j s=>w.src 0 i Q t h j (by simpa using s);refine⟨λi m q U=>∃E f,aq X.K F1 o σ H1 E f q U/\m=ds.length-i/\i<=ds.length/\fU is one (fX c n ss) (ds.drop i) f=.ok fl G,⟨_,F1,o,.refl w.gs,rfl,rK,e2⟩,?_⟩;rintro i m q U⟨E,f,W,rfl,ag,l⟩;obtain⟨s1,s2⟩:=src i E f q U W;by_cases u:i<ds.length
 . right;have hd:ds[i]?=some ds[i]:=by simp[u]
   obtain⟨go,step⟩:=s1 _ hd;refine⟨go,λh j=>∃m',m'<ds.length-i/\∃E f,aq X.K F1 o σ H1 E f h j/\m'=ds.length-(i+1)/\i+1<=ds.length/\fU is one (fX c n ss) (ds.drop (i+1)) f=.ok fl G,λh j z=>z,λx j y=>?_⟩;obtain⟨F2,ext,rx⟩:=step x j y;have L:=W.trans (ext.stp W.gs);rw[drop_eq_getElem_cons u,fU]at l;cases hbd:bV f is one ds[i]with|none=>rw[hbd]at l;cases l|some M=>rw[hbd]at l;obtain⟨N,B,eb,l⟩:=aa l;refine ac x _ F2 f M q j _ L.gs rx hbd λah sb=>?_;have C:=L.trans sb;refine⟨F2,M,N,B,C.gs,eb,λY O H4 s4=>?_⟩;have Z:=C.trans s4;cases N with|next=>exact⟨_,by omega,Y,B,Z,rfl,u,l⟩|cont=>exact⟨_,by omega,Y,B,Z,rfl,u,l⟩|brk=>cases l;exact k Y O H4 (w.fin _ _ _ _ Z).1|ret r=>cases l;intro v rr;obtain⟨z1,z2⟩:=w.fin _ _ _ _ Z;exact k Y O H4 z1 v (z2 v r (rr.later C))
 . left;have ae:ds.drop i=[]:=by rw[drop_eq_nil_iff];omega
   rw[ae,fU]at l;cases l;exact⟨s2 (by omega),k E q U (w.fin _ _ _ _ W).1⟩
theorem j9(i:Nat):(λ(ρ:List Sl)(d:D)=>bV ρ [i] true d)=λρ d=>put ρ i (.val false d):=by funext ρ d;rfl
theorem xY{f:Pos}(h:PassesOwn (model X.prog X.w) X.A X.env X.xe)(hc:X.calm=true)(j:X.N.Nodup)(g:X.N[i]?=some x)(k:Loc X.env.scope x)(hi:SI X c (.Name x f) iter p)(l:SB X c n body ss)(hs:∀x,foldedSetIterable iter X.env x=pure x:=by intro _;rfl)(o:X.fn x=true\/X.env.scope.names.lookup x=some .local:=by first|exact .inl rfl|exact .inr rfl|assumption):SS X c n (.For (.Name x f) iter body [] pos) (.gJ p [i] true ss):=qL h hc hi (bh j g k o) (by rw[j9];exact qR i) l hs
theorem wD(M:PassesOwn (model X.prog X.w) X.A X.env X.xe)(ht:ST X c e p)(O:SB X c n body ss):SS X c n (.While e body [] pos) (.whl p ss):=by refine dm (Fp M ht O) ?_;rintro D σ H⟨F,ρ,fl,o,g,e,k⟩;rw[HH.X14]at e;refine⟨λm j E=>∃q f,aq X.K F ρ σ H q f j E/\pF (iR (HH.ev c p)) (fX c n ss) m f=.ok fl o,⟨n,F,ρ,.refl g,e⟩,?_⟩;rintro m j E⟨q,f,G,h⟩;cases m with|zero=>rw[pF]at h;cases h|succ m=>rw[pF]at h;obtain⟨b,t,Q,h⟩:=aa h;refine⟨q,f,b,t,G.gs,Q,λF1 U s1=>?_⟩;have s2:=G.trans s1;cases b with|false=>rw[if_neg Bool.false_ne_true]at h;cases h;exact k F1 j U s2|true=>rw[if_pos rfl]at h;obtain⟨u,l,W,h⟩:=aa h;refine(show ∃N:L2.St->Hp->Prop,_/\_ from⟨λy I=>∃J,J<m+1/\∃q f,aq X.K F ρ σ H q f y I/\pF (iR (HH.ev c p)) (fX c n ss) J f=.ok fl o,λy I z=>z,F1,t,u,l,s2.gs,W,λC B L s4=>?_⟩);have s5:=s2.trans s4;cases u with|next=>exact⟨m,by omega,C,l,s5,h⟩|cont=>exact⟨m,by omega,C,l,s5,h⟩|brk=>cases h;exact k C B L s5|ret r=>cases h;exact λv Y=>k C B L s5 v (Y.later s2)
end
section
variable{X:Cx}{c:Call}{n:Nat}{e elt tg iter:Expr}{p ps pe:P}{pos:Pos}{scope:Scope}{N':List Str}{ifs:List Expr}
theorem Mv{t t':TE}(h:PE X e t)(i:∀σ H Q,σ.length=X.N.length->t' σ H Q->t σ H Q):PE X e t':=λa s σ H Q I q=>h a s σ H Q I (i σ H Q I.len q)
theorem Pz{st:Stmt}{t t':TS}(h:PS X st t)(i:∀D σ H,σ.length=X.N.length->t' D σ H->t D σ H):PS X st t':=λa s σ H D I q=>h a s σ H D I (i D σ H I.len q)
def lE(K:PySem.W.Frag)(m:Nat)(is:List Nat)(one:Bool)(g:TG):Prop:=∀(x:V)(d:D)(F:Hp)(ρ b:List Sl)(σ:L2.St)(H:Hp)(Q:L2.St->Hp->Prop),GS K F ρ σ H->Rep K F x d->bV ρ is one d=some b->(∀a,aq K F ρ σ H F b a H->a.take m=σ.take m->Q a H)->g x σ H Q
theorem take_set{b:Type}{l:List b}{a:b}(h:m<=i):(l.set i a).take m=l.take m:=by rw[List.take_set_of_le h]
theorem cX(h:m<=i):lE K m [i] true (ig i):=λx d F ρ a σ H Q g r b k=>k _ (aq.put (r:=.val d) (.refl g) r b) (take_set h)
def Iz(K:PySem.W.Frag)(m:Nat)(is:List Nat)(gs:Bj):Prop:=∀(xs:List V)(ds:List D)(F:Hp)(ρ b:List Sl)(σ:L2.St)(H:Hp)(Q:L2.St->Hp->Prop),GS K F ρ σ H->aB K F xs ds->putAll ρ is ds=some b->(∀a,aq K F ρ σ H F b a H->a.take m=σ.take m->Q a H)->gs xs σ H Q
theorem ud{gs:Bj}(hi:m<=i)(j:Iz K m is gs):Iz K m (i::is) (Cw (ig i) gs):=by intro xs ds F ρ a σ H Q g r h k;cases ds with|nil=>simp[putAll]at h|cons d ds=>obtain⟨v,vs,rfl,h1,l⟩:=r.bO;rw[putAll]at h;obtain⟨b,o,q⟩:=bB h;have s1:=aq.put (r:=.val d) (.refl g) h1 o;exact⟨v,vs,rfl,j vs ds F b a _ H _ s1.gs l q λf s2 z=>k f (s1.trans s2) (z.trans (take_set hi))⟩
theorem HJ:Iz K m [] NT:=by intro xs ds F ρ a σ H Q g r h k;cases ds with|nil=>rw[putAll]at h;cases h;exact⟨r.dO,k σ (.refl g) rfl⟩|cons d ds=>simp[putAll]at h
theorem Ht{gs:Bj}{l:Nat}(o:l=is.length)(h:Iz K m is gs):lE K m is false (Ql K l gs):=by intro x d F ρ b σ H Q g r f k;cases d with|tup ds=>replace f:putAll ρ is ds=some b:=f;rw[Rep]at r;obtain⟨a,xs,rfl,h1,j⟩:=r;exact⟨a,xs,rfl,aF.gF g.sub h1,by rw[j.length,jq f,o],h xs _ F ρ b σ H Q g j f k⟩|_=>cases f
def SQ(X:Cx)(c:Call)(ifs:List Expr)(t:Option P):Prop:=Pq X ifs (Dg X.K (m8 c t))
theorem iK:SQ X c [] none:=λa s σ H Q I⟨F,ρ,k,ρ',g,e,q⟩=>by rw[m8]at e;cases e;exact Hk a s σ H Q I (q F H (.refl g))
theorem mY(h:ST X c e p):SQ X c [e] (some p):=λa s σ H Q I⟨F,ρ,k,ρ',g,e,q⟩=>by rw[m8]at e;exact HD h a s σ H Q I ⟨F,ρ,k,ρ',g,e,q⟩
theorem aq.DN{F1 j:Hp}{f:List Sl}{g:L2.St}{Da:Addr}{o:HO}(s:aq K F ρ σ H F1 f g j)(h:H Da=none)(q:F1 Da=none)(ho:¬ Own f g Da):aq K F ρ σ H F1 f g (upd j Da o):=by
 refine⟨⟨λb u e=>?_,s.gs.len,s.gs.val,λi t ds e k=>?_,s.gs.dis⟩,s.cz,s.vp,λb u e n=>?_,s.tE,s.len,s.lk⟩
 . have:b≠Da:=by rintro rfl;rw[q]at e;cases e
   rw[ao this];exact s.gs.sub b u e
 . obtain⟨a,xs,l,r,w,y⟩:=s.gs.own i t ds e k;have:a≠Da:=by rintro rfl;exact ho ⟨i,⟨t,ds,e,k⟩,l⟩
   exact⟨a,xs,l,by rw[ao this];exact r,w,y⟩
 . have:b≠Da:=by rintro rfl;rw[h]at e;cases e
   rw[ao this];exact s.keep b u e n
theorem Dw{b r:List Sl}{ul:List Sl->List Sl}{ti:TI}{one:Bool}{u:List Sl->Res Bool}{el:Ev}{g:TG}{Q:VK}{xs:List D}(hm:σ.length=m)(ah:lE K m is one g)(ai:∀R:It->Hp->Prop,(∀J F1 W,Walk K F ρ σ H ul J ds F1 b W->R J W)->ti σ H R)(ap:ds.length<=lim)(e2:turns is one u el ds [] (b++replicate n .aP)=.ok xs r)(k:∀v F' H',aq K F ρ σ H F' (ul (r.take b.length)) σ H'->bT K F' (ul (r.take b.length)) σ H' ρ σ H v (.own xs)->Q v H'):qD n ti g (Dg K u) (uM K el) σ H Q:=by
 refine ai _ λJ F1 W w Da O=>?_;have al:b.length=σ.length:=w.gs.len;have gm:=w.gs.more (n:=n) (τ:=replicate n none) (by simp);have fD:F1 Da=none:=by cases q:F1 Da with|none=>rfl|some o=>rw[w.gs.sub Da o q]at O;cases O
 have nO:¬ Own (b++replicate n .aP) (σ++replicate n none) Da:=λ⟨i,⟨t,dt,q1,q2⟩,q3⟩=>by obtain⟨a,ys,z1,z2,_⟩:=gm.own i t dt q1 q2;rw[q3]at z1;cases z1;rw[O]at z2;cases z2
 refine⟨λi mm ys f G=>∃E h l,aq K F1 (b++replicate n .aP) (σ++replicate n none) W E h f G/\f.take m=σ/\G Da=some (.lst ys)/\E Da=none/\¬ Own h f Da/\aB K E ys l/\l.length<=i/\mm=ds.length-i/\i<=ds.length/\turns is one u el (ds.drop i) l h=.ok xs r,⟨_,F1,_,[],(aq.refl gm).DN O fD nO,by rw[List.take_append_of_le_length (by omega),List.take_of_length_le (by omega)],aH,fD,nO,.nil,rK,rfl,rK,e2⟩,?_⟩;rintro i mm ys f G⟨E,h,l,Y,I,Z,hF,hO,rs,ar,rfl,av,j⟩;refine⟨Z,?_⟩--what stays of the new list through a step
 have stay:∀{L U:Hp}{M:List Sl}{B:L2.St},aq K E h f G L M B U->U Da=some (.lst ys)/\L Da=none/\¬ Own M B Da:=λ{L U M B}s=>by
  refine⟨s.keep Da _ Z hO,?_,λo=>?_⟩;.cases q:L Da with|none=>rfl|some o=>
      rcases s.vp Da hF (by rw[q];simp)with z|z;.exact absurd z hO
      .exact(DR Z z).elim
  . rcases s.tE Da o with z|z;.exact hO z
    .rw[Z]at z;cases z
 obtain⟨s1,s2⟩:=w.src n i E h f G Y;by_cases C:i<ds.length
 . right;have hd:ds[i]?=some ds[i]:=by simp[C]
   obtain⟨go,step⟩:=s1 _ hd;refine⟨go,λx U y=>?_⟩;obtain⟨L,ext,rx⟩:=step x U y;have t2:=ext.stp Y.gs;rw[drop_eq_getElem_cons C,turns]at j;cases hbd:bV h is one ds[i]with|none=>rw[hbd]at j;cases j|some ac=>rw[hbd]at j;obtain⟨bb,N,eb,j⟩:=aa j;refine ah x _ L h ac f U _ t2.gs rx hbd λB sb ae=>?_;have t3:=t2.trans sb;refine⟨L,ac,bb,N,t3.gs,eb,λF4 H4 s4=>?_⟩;have t4:=t3.trans s4;cases bb with|false=>rw[if_neg Bool.false_ne_true]at j;obtain⟨y1,y2,y3⟩:=stay t4;exact⟨_,by omega,F4,N,l,Y.trans t4,ae.trans I,y1,y2,y3,rs.mono t4.cz,by omega,rfl,C,j⟩|true=>
       rw[if_pos rfl]at j;obtain⟨re,af,ee,j⟩:=aa j;refine(show uM K el B H4 _ from⟨F4,N,re,af,t4.gs,ee,λv F5 H5 s5 rr=>?_⟩);obtain⟨F6,s6,_,rp⟩:=s5.cG rr;have t6:=t4.trans s6;obtain⟨y1,y2,y3⟩:=stay t6;have ag:ys.length<sizeLine:=by have h1:=rs.length;have h2:lim=sizeLine:=rfl;omega
       exact⟨y1,ag,_,by omega,F6,af,l++[re.d],(Y.trans t6).DN O y2 y3,ae.trans I,aH,y2,y3,(rs.mono t6.cz).append (.cons rp .nil),by simp;omega,rfl,C,j⟩
 . left;have am:ds.drop i=[]:=by rw[drop_eq_nil_iff];omega
   rw[am,turns]at j;cases j;refine⟨s2 (by omega),?_⟩;obtain⟨l1,l2⟩:=aq.less (m:=b.length) rfl w.gs (by simp) Y;have hst:f.take b.length=σ:=by rw[al,hm];exact I
   rw[hst]at l1;have rr:bT K E r f G (b++replicate n .aP) (σ++replicate n none) W (.ref Da) (.own xs):=⟨Da,ys,rfl,Z,hF,rs,hO,.inr O⟩;have K1:=l2 _ _ rr;rw[hst]at K1;obtain⟨z1,z2⟩:=w.fin _ _ _ _ l1;exact k _ E G z1 (z2 _ _ K1)
theorem zg{iv:Option Nat}{f:Ev}{one:Bool}{b:List Sl->Res Bool}{w:Ev}{g:TG}{Q:VK}{r:R}{j:List Sl}(z:σ.length=m)(q:lE K m is one g)(B:GS K F ρ σ H)(e:((srcOf iv f ρ).bind λds a=>if ds.length<=lim then(turns is one b w ds [] (a++replicate n .aP)).bind λxs l=>Res.ok (R.own xs) (aX ρ iv (l.take a.length))else .stuck)=.ok r j)(k:∀v y t,aq K F ρ σ H y j σ t->bT K y j σ t ρ σ H v r->Q v t):qD n (tIt K iv f) g (Dg K b) (uM K w) σ H Q:=by
 obtain⟨ds,u,C,e⟩:=aa e;split at e;.rename_i o;obtain⟨xs,E,G,e⟩:=aa e;cases e;exact Dw z q (λR h=>⟨F,ρ,ds,u,B,C,h⟩) o G k
 .cases e
theorem fM{g:TG}{one:Bool}{t:Option P}(hc:X.calm=true)(ok:dN X scope N' n)(hi:SI X c tg iter ps)(b:∀cl C s₀ H₀ ex,PG (qd X scope N' cl C s₀ H₀ ex) tg g)(a:lE X.K X.N.length is one g)(ht:∀cl C s₀ H₀ ex,SQ (qd X scope N' cl C s₀ H₀ ex) c ifs t)(he:∀cl C s₀ H₀ ex,SX (qd X scope N' cl C s₀ H₀ ex) c elt pe)(hs:∀x,foldedSetIterable iter X.env x=pure x:=by intro _;rfl):SX X c (.ListComp elt [⟨tg,iter,ifs,0⟩] scope pos) (.comp ps n is one t pe):=by refine⟨Mv (Hl (tt:=Dg X.K (m8 c t)) (te:=uM X.K (HH.ev c pe)) hc ok hi b ht (λcl C s₀ H₀ ex=>(he cl C s₀ H₀ ex).ev) hs) ?_,λi h=>by cases h⟩;rintro σ H Q f⟨F,ρ,r,j,l,e,k⟩;rw[HH.E18]at e;exact zg f a l e k
theorem Jk{a b:Pos}{nn:Nat}{g:TG}{one:Bool}{t:Option P}(hc:X.calm=true)(q:X.N.Nodup)(h:X.N[i]?=some x)(u:Loc X.env.scope x)(ok:dN X scope N' n)(hi:SI X c tg iter ps)(w:∀cl C s₀ H₀ ex,PG (qd X scope N' cl C s₀ H₀ ex) tg g)(j:lE X.K X.N.length is one g)(ht:∀cl C s₀ H₀ ex,SQ (qd X scope N' cl C s₀ H₀ ex) c ifs t)(he:∀cl C s₀ H₀ ex,SX (qd X scope N' cl C s₀ H₀ ex) c elt pe)(l:swapsWith (.ListComp elt [⟨tg,iter,ifs,0⟩] scope pos) (some (.Name x a)) b.line X.env=pure true:=by rfl)(hs:∀x,foldedSetIterable iter X.env x=pure x:=by intro _;rfl)(y:X.fn x=true\/X.env.scope.names.lookup x=some .local:=by first|exact .inl rfl|exact .inr rfl|assumption):SS X c nn (.Assign [.Name x a] (.ListComp elt [⟨tg,iter,ifs,0⟩] scope pos) b) (.asg i (.comp ps n is one t pe)):=by refine Pz (yU (tt:=Dg X.K (m8 c t)) (te:=uM X.K (HH.ev c pe)) hc q h u ok hi w ht (λcl C s₀ H₀ ex=>(he cl C s₀ H₀ ex).ev) l hs y) ?_;rintro D σ H z⟨F,ρ,fl,B,E,e,k⟩;rw[HH.X6]at e;obtain⟨r,G,o,e⟩:=aa e;obtain⟨I,J,f,e⟩:=aa e;cases e;have L:=aA f;clear f;obtain⟨f,Q⟩:=L;rw[HH.E18]at o;exact zg z j E o λv F1 M s1 O=>k F1 _ M (s1.put O f)
end
section
variable{X:Cx}{c:Call}{n:Nat}{e a b d:Expr}{p pa pb pd:P}{pos:Pos}{es:List Expr}{ps:List P}
noncomputable def tyN:D->String|.non=>"NoneType"|.bl _=>"bool"|.int _=>"int"|.str _=>"str"|.tup _=>"tuple"|.lst _=>"list"|.cH _=>"dict"|.dv _ _=>"dict"
noncomputable def Sy:Ty->String|.none=>"NoneType"|.bool=>"bool"|.int=>"int"|.str=>"str"|.tuple=>"tuple"|.list=>"list"
theorem T9(K:PySem.W.Frag)(t:Ty)(d:D):PySem.W.kitOne K (.type (tyN d)) (.type (Sy t))=some (bR t d):=by cases t<;>cases d<;>rfl
theorem Vk{k:List (Addr×Obj)}{x:V}{u:Value}{dt:D}(I:L2.Inv X k σ H s)(sm:aF F H)(g:cg X.K F H x dt)(f:RelV x u):(∃r,PySem.W.KitX X.K u (.type (tyN dt)) r/\r s.heap)/\u≠.builtin "__main__.__loader__#opaque":=by cases dt with|non=>rw[g.non]at f;cases f;exact⟨⟨_,PySem.W.kitx_none,trivial⟩,nofun⟩|bl y=>rw[g.bl]at f;cases f;exact⟨⟨_,PySem.W.kitx_bool,trivial⟩,nofun⟩|int i=>rw[g.int]at f;obtain⟨t,rfl⟩:=f;exact⟨⟨_,PySem.W.kitx_int,trivial⟩,nofun⟩|str y=>rw[g.str]at f;obtain⟨t,rfl⟩:=f;exact⟨⟨_,PySem.W.kitx_str,trivial⟩,nofun⟩|tup ds=>obtain⟨q,xs,rfl,h,_⟩:=g.tup sm;cases f;obtain⟨l,_,⟨o,h1,j,_⟩,_⟩:=I.tuple h;exact⟨⟨_,PySem.W.kitx_tuple,⟨o,h1,j⟩⟩,nofun⟩|lst ds=>obtain⟨q,xs,rfl,h,_⟩:=g.lst sm;cases f;obtain⟨l,_,w,_⟩:=I.list h;obtain⟨o,h1,j,_⟩:=w.isList;exact⟨⟨_,PySem.W.kitx_list,⟨o,h1,j⟩⟩,nofun⟩|cH m=>obtain⟨q,_,rfl,h⟩:=g.cH sm;cases f;obtain⟨o,h1,j⟩:=CV I h;exact⟨⟨_,kitx_dict,⟨o,h1,j⟩⟩,nofun⟩|dv ks ds=>obtain⟨q,_,vs,rfl,h,_⟩:=g.dv sm;cases f;obtain⟨o,h1,j⟩:=Fg I h;exact⟨⟨_,kitx_dict,⟨o,h1,j⟩⟩,nofun⟩
theorem Ot(t:Ty):dj X (.builtin "isinstance") (λxs H Q=>∃x F dt,xs=[x,.ty (Sy t)]/\aF F H/\cg X.K F H x dt/\Q (.bl (bR t dt)) H):=by rintro g s σ H xs w Q I r⟨x,F,dt,h,sm,j,q⟩;subst h;obtain⟨u,k,rfl,l,rt⟩:=r.two;cases(show k=Value.type (Sy t)from rt);obtain⟨⟨y,Z,hz⟩,f⟩:=Vk I sm j l;exact PySem.W.kia_one Z I.Qi hz (T9 _ t dt) f λo=>⟨.bl _,H,I.tok o,rfl,q⟩
theorem Eh:bootBuiltins "isinstance"=some (.builtin "isinstance"):=by decide+kernel
theorem tO{y:Str}{f:Pos}(t:Ty)(w:x="isinstance")(z:Gl X x)(B:X.mg x=none)(C:SX X c a pa)(j:Gl X y)(l:X.mg y=none)(E:bootBuiltins y=some (.type (Sy t)))(o:y≠"__name__":=by decide)(q:(y==("__debug__":Str))=false:=by decide)(hs:starEach [a,.Name y f] X.env=(false,eval a X.env)::starEach [.Name y f] X.env:=by rfl):SX X c (.Call (.Name x p') [a,.Name y f] [] pos) (.inst [t] pa):=by subst w;obtain⟨O,h1,G⟩:=C.bK;refine⟨cR (dC (Ot t) z B Eh (bF h1 (bF (Hm (v:=.ty (Sy t)) j l E rfl o q) cY) hs) (he:=hs)) ?_,λi h=>by cases h⟩;rintro σ H Q⟨F,ρ,r,I,g,e,k⟩;rw[HH.E17]at e;obtain⟨dt,J,L,e⟩:=aa e;cases e;refine G g L λv u M s N=>⟨v,u,dt,rfl,s.gs.sub,N,k _ u M s ?_⟩;show Rep X.K u _ _;rw[any_cons,List.any_nil,Bool.or_false];exact fO _
inductive Zz(K:PySem.W.Frag)(f:List D->Option R)(xs:List V)(H:Hp)(Q:VK):Prop where|mk(F:Hp)(ds:List D)(r:R)(sm:aF F H)(rs:aB K F xs ds)(he:f ds=some r)(k:∀v F' H',Ext F H F' H'->bG K F' H' H v r->Q v H')
theorem JN{E:Expr}{f:List D->Option R}{q:P}(o:∀{t},PA X es t->PE X E (XX (Zz X.K f) t))(u:SA X c es ps)(y:∀ρ,HH.ev c q ρ=(evs c ps ρ).bind λds ρ=>lift (f ds) ρ)(z:isVar q=none):SX X c E q:=by refine⟨cR (o u.1) ?_,λi h=>by rw[z]at h;cases h⟩;rintro σ H Q⟨F,ρ,r,B,g,e,k⟩;rw[y]at e;obtain⟨ds,l,C,j⟩:=aa e;have G:=aA j;clear j;obtain⟨j,I⟩:=G;subst I;exact⟨F,ρ,ds,l,g,C,λvs J U s L=>⟨J,ds,r,s.gs.sub,L,j,λw M N x O=>k w M N (s.trans (x.stp s.gs)) (.later s (O.lZ s.gs))⟩⟩
theorem J7{xs:List V}{i j:Int}(h:aB K F xs [.int i,.int j]):xs=[.int i,.int j]:=by obtain⟨v,r,rfl,h1,g⟩:=h.bO;obtain⟨u,l,rfl,f,k⟩:=g.bO;rw[Rep]at h1 f;rw[h1,f,k.dO]
theorem inv2{f:Lz}{g:Int->Int->Int}{r:R}(h0:blt f []=none)(h1:∀a,blt f [a]=none)(o:∀a b c l,blt f (a::b::c::l)=none)(q:∀a b,fB a=false->blt f [a,b]=none)(t:∀i b,fB b=false->blt f [.int i,b]=none)(hi:∀i j,blt f [.int i,.int j]=some (.val (.int (g i j))))(he:blt f ds=some r):∃i j,ds=[.int i,.int j]/\r=.val (.int (g i j)):=by
 rcases ds with _|⟨a,_|⟨b,_|⟨c,l⟩⟩⟩;.rw[h0]at he;cases he
 .rw[h1]at he;cases he
 . by_cases h:fB a=true
   . obtain⟨i,rfl⟩:∃i,a=.int i:=by cases a<;>first|exact⟨_,rfl⟩|cases h
     by_cases k:fB b=true
     . obtain⟨j,rfl⟩:∃j,b=.int j:=by cases b<;>first|exact⟨_,rfl⟩|cases k
       rw[hi]at he;cases he;exact⟨i,j,rfl,rfl⟩
     .rw[t i b (by simpa using k)]at he;cases he
   .rw[q a b (by simpa using h)]at he;cases he
 .rw[o]at he;cases he
theorem Ny(hc:X.calm=true):dj X (.builtin "min") (Zz X.K (blt .min2)):=by rintro f s σ H xs o Q I r⟨F,ds,t,sm,q,he,k⟩;obtain⟨i,j,rfl,rfl⟩:=inv2 (g:=λi j=>if j<i then j else i) rfl (λa=>by cases a<;>rfl) (λa b c l=>by cases a<;>first|rfl|(cases b<;>rfl)) (λa b h=>by cases a<;>first|rfl|cases h) (λi b h=>by cases b<;>first|rfl|cases h) (λ_ _=>rfl) he;rw[J7 q]at r;exact Ac hc f s σ H _ o Q I r ⟨_,_,rfl,bG.cj sm (bC _) k⟩
theorem Nt(hc:X.calm=true):dj X (.builtin "max") (Zz X.K (blt .max2)):=by rintro f s σ H xs o Q I r⟨F,ds,t,sm,q,he,k⟩;obtain⟨i,j,rfl,rfl⟩:=inv2 (g:=λi j=>if i<j then j else i) rfl (λa=>by cases a<;>rfl) (λa b c l=>by cases a<;>first|rfl|(cases b<;>rfl)) (λa b h=>by cases a<;>first|rfl|cases h) (λi b h=>by cases b<;>first|rfl|cases h) (λ_ _=>rfl) he;rw[J7 q]at r;exact zB hc f s σ H _ o Q I r ⟨_,_,rfl,bG.cj sm (bC _) k⟩
theorem boot_min:bootBuiltins "min"=some (.builtin "min"):=by decide+kernel
theorem boot_max:bootBuiltins "max"=some (.builtin "max"):=by decide+kernel
theorem yx(f:x="min")(hc:X.calm=true)(g:Gl X x)(j:X.mg x=none)(k:SA X c [a,b] [pa,pb])(hs:starEach [a,b] X.env=(false,eval a X.env)::starEach [b] X.env:=by rfl)(hpl:(backTo pos (starEach [b] X.env)).any (·.1)=false:=by rfl):SX X c (.Call (.Name x p') [a,b] [] pos) (.blt .min2 [pa,pb]):=by subst f;exact JN (λh=>dC (Ny hc) g j boot_min h (he:=hs) (hpl:=hpl)) k (λρ=>rfl) rfl
theorem mQ(f:x="max")(hc:X.calm=true)(g:Gl X x)(j:X.mg x=none)(k:SA X c [a,b] [pa,pb])(hs:starEach [a,b] X.env=(false,eval a X.env)::starEach [b] X.env:=by rfl)(hpl:(backTo pos (starEach [b] X.env)).any (·.1)=false:=by rfl):SX X c (.Call (.Name x p') [a,b] [] pos) (.blt .max2 [pa,pb]):=by subst f;exact JN (λh=>dC (Nt hc) g j boot_max h (he:=hs) (hpl:=hpl)) k (λρ=>rfl) rfl
end
section
variable{X:Cx}{c:Call}{n:Nat}{e a b d:Expr}{p pa pb pd:P}{pos:Pos}{es:List Expr}{ps:List P}
theorem rB(g:GS K F ρ σ H)(h:wC ρ i=some ds):∃a xs,σ[i]?=some (some (V.ref a))/\dJ K H a xs:=by
 unfold wC at h;split at h;.rename_i q;cases h;obtain⟨v,h1,f⟩:=g.pk q;obtain⟨a,xs,rfl,j,_⟩:=f.lst g.sub;exact⟨a,xs,h1,j⟩
 .cases h
theorem rT{k:Nat}{h f:Pos}(I:X.N[k]?=some x)(J:tD X.env.scope x)(hi:SX X c b pb)(he:SX X c e p)(L:∀ v,assign (.Subscript (.Name x h) b f) X.env v=(do
  let l<-holding [v] (eval (.Name x h) X.env)let iv<-holding [v,l] (eval b X.env)standAt f
  holding [v,l,iv] (setItem l iv v)release [v,l,iv] []):=by intro _;rfl)(hs:swapsWithSole [.Subscript (.Name x h) b f] e pos.line X.env=pure false:=by rfl)(M:swappedStores [.Subscript (.Name x h) b f] e X.env=pure none:=by rfl)(h1:(assignEach [.Subscript (.Name x h) b f] X.env).map (·.2)=[assign (.Subscript (.Name x h) b f) X.env]:=by rfl)(hd:(x==("__debug__":Str))=false:=by decide)(u:(x==("__classdict__":Str))=false:=by decide):SS X c n (.Assign [.Subscript (.Name x h) b f] e pos) (.Ba k pb p):=by
 obtain⟨ti,w,y⟩:=hi.bK;refine dm (M6 he.ev (Mu (cT I J hd u) w set_list L) hs M h1) ?_;rintro D σ H⟨F,ρ,fl,O,g,e,Q⟩;rw[HH.X8]at e;obtain⟨r,z,U,e⟩:=aa e;obtain⟨x0,C,t,e⟩:=aa e;have W:=aA t;clear t;obtain⟨t,Y⟩:=W;subst Y;obtain⟨dk,Z,e2,e⟩:=aa e;refine⟨F,ρ,r,z,g,U,λv F1 H1 s1 rr=>?_⟩;obtain⟨F2,s2,_,rp⟩:=s1.cG rr;obtain⟨o,ho,_⟩:=s2.gs.pk t;refine⟨o,ho,y s2.gs e2 λvi F3 H3 s3 pi=>?_⟩;split at e
 . rename_i bb ds B q;split at e;.rename_i j hj;cases e;obtain⟨ad,xs,E,q2,q3,G⟩:=s3.gs.oA k _ ds q rfl;rw[ho]at E;cases E;refine⟨ad,xs,B,j,rfl,pi.int,q2,by rw[G.length];exact hj,?_⟩;exact Q F3 σ _ ((s2.trans s3).trans (s3.gs.mut q ho (G.set (rp.mono s3.cz) j)))
   .cases e
 .cases e
theorem fK{k:Nat}{o h f:Pos}(G:X.N[k]?=some x)(I:tD X.env.scope x)(he:SX X c e p)(j:(h.endLine==f.line)=true:=by rfl)(hs:starEach [e] X.env=(false,eval e X.env)::starEach [] X.env:=by rfl)(l:attributeBase (.Name x o) "append" X.env (eval (.Name x o) X.env)=eval (.Name x o) X.env:=by rfl)(t:((backTo f (starEach [e] X.env)).all (λx=>!x.1)&&(backToKw f (keywordEach [] X.env)).all (λx=>x.1.isSome)&&decide ([e].length+([]:List Keyword).length+(if([]:List Keyword).isEmpty then 0 else 1)<30))=true:=by rfl)(w:swapsWith (.Call (.Attribute (.Name x o) "append" h) [e] [] f) none pos.line X.env=pure false:=by rfl)(hd:(x==("__debug__":Str))=false:=by decide)(y:(x==("__classdict__":Str))=false:=by decide):SS X c n (.Expr (.Call (.Attribute (.Name x o) "append" h) [e] [] f) pos) (.app k p):=by
 refine dm (qY (yZ plainAttrs_list PySem.F.slot_list_append PySem.F.type_list_append lz (cT G I hd y) (bF he.ev cY hs) l t j hs) w) ?_;rintro D σ H⟨F,ρ,fl,J,g,e,L⟩;rw[HH.X9]at e;obtain⟨d0,M,u,e⟩:=aa e;have O:=aA u;clear u;obtain⟨u,Q⟩:=O;subst Q;obtain⟨r,z,U,e⟩:=aa e;obtain⟨a,xs,h1,W⟩:=rB g u;refine⟨.ref a,h1,.inl ⟨rfl,xs,W⟩,F,ρ,r,z,g,U,λv F1 H1 s1 Y=>?_⟩;obtain⟨Z,s2,_,rp⟩:=s1.cG Y;split at e
 . rename_i bb ds q;split at e;.rename_i B;cases e;obtain⟨ad,ys,C,q2,q3,E⟩:=s2.gs.oA k _ ds q rfl;rw[h1]at C;cases C;exact⟨_,ys,v,rfl,rfl,q2,by rw[E.length];exact B,L Z σ _ (s2.trans (s2.gs.mut q h1 (E.append (.cons rp .nil))))⟩
   .cases e
 .cases e
theorem Mi{j:Nat}{y:Str}{l o pt:Pos}{kt k2 Qw}(hc:X.calm=true)(C:X.N.Nodup)(hi:X.N[i]?=some x)(E:X.N[j]?=some y)(q:i≠j)(G:X.env.scope.names.lookup x=some .local)(I:X.env.scope.names.lookup y=some .local)(J:SX X c a pa)(L:SX X c b pb)(M:swappedStores [.Tuple [.Name x l,.Name y o] kt pt] (.Tuple [a,b] k2 Qw) X.env=pure (some [x,y]):=by rfl)(hs:swapsWithSole [.Tuple [.Name x l,.Name y o] kt pt] (.Tuple [a,b] k2 Qw) pos.line X.env=pure false:=by rfl)(h1:starEach [a,b] X.env=(false,eval a X.env)::starEach [b] X.env:=by rfl)(O:starEach [b] X.env=(false,eval b X.env)::starEach [] X.env:=by rfl):SS X c n (.Assign [.Tuple [.Name x l,.Name y o] kt pt] (.Tuple [a,b] k2 Qw) pos) (.par i j pa pb):=by refine dm (L2.Mx hc C hi E q G I (bF J.ev (bF L.ev cY O) h1) M hs) ?_;rintro D σ H⟨F,ρ,fl,Q,g,e,k⟩;rw[HH.X7]at e;obtain⟨r,f,U,e⟩:=aa e;obtain⟨B,t,W,e⟩:=aa e;obtain⟨Y,Z,h,e⟩:=aa e;cases e;have zz:=aA h;clear h;obtain⟨h,e4⟩:=zz;obtain⟨ac,e5,e6⟩:=bB h;refine⟨F,ρ,r,f,g,U,λv F1 H1 s1 rr=>?_⟩;obtain⟨F2,s2,_,rp⟩:=s1.cG rr;refine⟨F2,f,B,t,s2.gs,W,λu F3 H3 s3 w=>?_⟩;obtain⟨F4,s4,_,z⟩:=s3.cG w;refine⟨v,u,rfl,?_⟩;have t4:=s2.trans s4;have t5:=t4.put (r:=.val r.d) (v:=v) (rp.mono s4.cz) e5;exact k F4 _ H3 (t5.put (r:=.val B.d) (v:=u) z e6)
end
section
variable{K:PySem.W.Frag}
theorem ir:∀{xs ys:List D},xs.length≠ys.length->fu xs ys=false|[],[],h=>absurd rfl h|[],_::_,_=>by simp[fu]|_::_,[],_=>by simp[fu]|x::xs,y::ys,h=>by rw[fu,ir (xs:=xs) (ys:=ys) (by simpa using h),Bool.and_false]
theorem eU:∀{xs ys:List D},xs.length=ys.length->fu xs ys=(List.range xs.length).all λj=>jd (xs.getD j .non) (ys.getD j .non)|[],[],_=>by rw[fu];rfl|[],_::_,h=>by simp at h|_::_,[],h=>by simp at h|x::xs,y::ys,h=>by rw[fu,eU (xs:=xs) (ys:=ys) (by simpa using h),length_cons,List.range_succ_eq_map,all_cons,List.all_map];rfl
mutual
theorem uC:∀d:D,jd d d=true|.non=>rfl|.bl _=>by exact beq_self_eq_true _|.int _=>by exact beq_self_eq_true _|.str _=>by exact beq_self_eq_true _|.tup ds=>by exact iM ds|.lst ds=>by exact iM ds|.cH _=>by exact decide_eq_true rfl|.dv ks ds=>by show(decide (ks=ks)&&fu ds ds)=true;rw[iM ds];simp
theorem iM:∀ds:List D,fu ds ds=true|[]=>by rw[fu]|d::ds=>by rw[fu,uC d,iM ds];rfl
end
theorem dG{d e:D}(b:flat d=true)(h1:Rep K F v d)(a:Rep K F v e):d=e:=by cases d with
 |tup _=>cases b|lst _=>cases b|cH _=>cases b|dv _ _=>cases b|non=>rw[Rep]at h1;subst h1;cases e with|non=>rfl|tup _=>rw[Rep]at a;obtain⟨_,_,q,_⟩:=a;cases q|lst _=>rw[Rep]at a;obtain⟨_,_,q,_⟩:=a;cases q|cH _=>rw[Rep]at a;obtain⟨_,_,q,_⟩:=a;cases q|dv _ _=>rw[Rep]at a;obtain⟨_,_,_,q,_⟩:=a;cases q|_=>rw[Rep]at a;cases a
 |bl k=>rw[Rep]at h1;subst h1;cases e with|bl _=>rw[Rep]at a;cases a;rfl|tup _=>rw[Rep]at a;obtain⟨_,_,q,_⟩:=a;cases q|lst _=>rw[Rep]at a;obtain⟨_,_,q,_⟩:=a;cases q|cH _=>rw[Rep]at a;obtain⟨_,_,q,_⟩:=a;cases q|dv _ _=>rw[Rep]at a;obtain⟨_,_,_,q,_⟩:=a;cases q|_=>rw[Rep]at a;cases a
 |int k=>rw[Rep]at h1;subst h1;cases e with|int _=>rw[Rep]at a;cases a;rfl|tup _=>rw[Rep]at a;obtain⟨_,_,q,_⟩:=a;cases q|lst _=>rw[Rep]at a;obtain⟨_,_,q,_⟩:=a;cases q|cH _=>rw[Rep]at a;obtain⟨_,_,q,_⟩:=a;cases q|dv _ _=>rw[Rep]at a;obtain⟨_,_,_,q,_⟩:=a;cases q|_=>rw[Rep]at a;cases a
 |str k=>rw[Rep]at h1;subst h1;cases e with|str _=>rw[Rep]at a;cases a;rfl|tup _=>rw[Rep]at a;obtain⟨_,_,q,_⟩:=a;cases q|lst _=>rw[Rep]at a;obtain⟨_,_,q,_⟩:=a;cases q|cH _=>rw[Rep]at a;obtain⟨_,_,q,_⟩:=a;cases q|dv _ _=>rw[Rep]at a;obtain⟨_,_,_,q,_⟩:=a;cases q|_=>rw[Rep]at a;cases a
theorem Jt{X:Cx}{u:List (Addr×Obj)}(I:L2.Inv X u σ H s)(sm:aF F H):∀n:Nat,(∀d:D,dh n d=true->∀(v:V)(e:D),Rep X.K F v d->Rep X.K F v e->d=e):=by
 have N:∀{a:Addr}{xs ys:List V},jg X.K F a xs->dJ X.K F a ys->False:=λ{a xs ys}h1 b=>by obtain⟨_,_,⟨o,g,j,_⟩,_⟩:=I.tuple (aF.gF sm h1);obtain⟨_,_,w,_⟩:=I.list (sm.seq b);obtain⟨C,c,f,_⟩:=w.isList;rw[g]at c;cases c;rw[j]at f;exact absurd f (by decide)
 have O:∀{a:Addr}{kvs:Dc},Rep X.K F (.ref a) (.cH kvs)->∃o,s.heap.get? a=some o/\o.cls=.type "dict":=λ{a kvs}h=>by rw[Rep]at h;obtain⟨y,_,q,E⟩:=h;cases q;exact CV I (sm _ _ E)
 have Q:∀{a:Addr}{xs:List V}{kvs:Dc},jg X.K F a xs->Rep X.K F (.ref a) (.cH kvs)->False:=λ{a xs kvs}h1 b=>by obtain⟨_,_,⟨o,g,j,_⟩,_⟩:=I.tuple (aF.gF sm h1);obtain⟨C,c,f⟩:=O b;rw[g]at c;cases c;rw[j]at f;exact absurd f (by decide)
 have ld:∀{a:Addr}{xs:List V}{kvs:Dc},dJ X.K F a xs->Rep X.K F (.ref a) (.cH kvs)->False:=λ{a xs kvs}h1 b=>by obtain⟨_,_,w,_⟩:=I.list (sm.seq h1);obtain⟨o,g,j,_⟩:=w.isList;obtain⟨C,c,f⟩:=O b;rw[g]at c;cases c;rw[j]at f;exact absurd f (by decide)
 have z:∀{a:Addr}{ks:List Int}{es:List D},Rep X.K F (.ref a) (.dv ks es)->∃o,s.heap.get? a=some o/\o.cls=.type "dict":=λ{a ks es}h=>by rw[Rep]at h;obtain⟨y,_,_,q,E,_⟩:=h;cases q;exact Fg I (sm _ _ E)
 have G:∀{a:Addr}{xs:List V}{ks:List Int}{es:List D},jg X.K F a xs->Rep X.K F (.ref a) (.dv ks es)->False:=λ{a xs ks es}h1 b=>by obtain⟨_,_,⟨o,g,j,_⟩,_⟩:=I.tuple (aF.gF sm h1);obtain⟨C,c,f⟩:=z b;rw[g]at c;cases c;rw[j]at f;exact absurd f (by decide)
 have J:∀{a:Addr}{xs:List V}{ks:List Int}{es:List D},dJ X.K F a xs->Rep X.K F (.ref a) (.dv ks es)->False:=λ{a xs ks es}h1 b=>by obtain⟨_,_,w,_⟩:=I.list (sm.seq h1);obtain⟨o,g,j,_⟩:=w.isList;obtain⟨C,c,f⟩:=z b;rw[g]at c;cases c;rw[j]at f;exact absurd f (by decide)
 intro n;induction n with
 |zero=>intro d hd v e h1 b;cases d with|tup _=>simp[dh]at hd|lst _=>simp[dh]at hd|cH _=>simp[dh]at hd|dv _ _=>simp[dh]at hd|non=>exact dG rfl h1 b|bl k=>exact dG rfl h1 b|int k=>exact dG rfl h1 b|str k=>exact dG rfl h1 b
 |succ n U=>
   have all:∀{xs:List V}{ds es:List D},ds.all (dh n)=true->aB X.K F xs ds->aB X.K F xs es->ds=es:=λ{xs ds}=>by induction ds generalizing xs with|nil=>intro es _ h1 b;rw[h1.dO]at b;have:=b.length;exact(List.eq_nil_of_length_eq_zero this.symm).symm|cons d ds L=>intro es p h1 b;rw[all_cons,and_eq_true]at p;obtain⟨v,r,rfl,g,j⟩:=h1.bO;cases es with|nil=>cases b.dO|cons e es=>obtain⟨Y,Z,W,c,f⟩:=b.bO;cases W;rw[U d p.1 v e g c,L p.2 j f]
   intro d hd v e h1 b;cases d with
   |cH _=>simp[dh]at hd|dv _ _=>simp[dh]at hd|tup ds=>
     have p:ds.all (dh n)=true:=by simpa[dh]using hd
     rw[Rep]at h1;obtain⟨a,xs,rfl,l,M⟩:=h1;cases e with|tup es=>rw[Rep]at b;obtain⟨y,ys,q,t,B⟩:=b;cases q;have:=I.pQ (aF.gF sm l) (aF.gF sm t);subst this;rw[all p M B]|lst es=>rw[Rep]at b;obtain⟨y,ys,q,t,B⟩:=b;cases q;exact(N l t).elim|cH _=>exact(Q l b).elim|dv _ _=>exact(G l b).elim|_=>rw[Rep]at b;cases b
   |lst ds=>
     have p:ds.all (dh n)=true:=by simpa[dh]using hd
     rw[Rep]at h1;obtain⟨a,xs,rfl,l,M⟩:=h1;cases e with|lst es=>rw[Rep]at b;obtain⟨y,ys,q,t,B⟩:=b;cases q;have:=I.ux (sm.seq l) (sm.seq t);subst this;rw[all p M B]|tup es=>rw[Rep]at b;obtain⟨y,ys,q,t,B⟩:=b;cases q;exact(N t l).elim|cH _=>exact(ld l b).elim|dv _ _=>exact(J l b).elim|_=>rw[Rep]at b;cases b
   |non=>exact dG rfl h1 b|bl k=>exact dG rfl h1 b|int k=>exact dG rfl h1 b|str k=>exact dG rfl h1 b
theorem yQ{d e:D}{u:V}{c:Value}(hd:flat d=true)(he:flat e=true)(h1:Rep K F v d)(a:Rep K F u e)(r1:RelV v c)(b:RelV u u'):SeqAt.EqAt A s c u' (jd d e):=by cases d with
 |tup _=>cases hd|lst _=>cases hd|cH _=>cases hd|dv _ _=>cases hd|non=>rw[Rep]at h1;subst h1;cases(show c=.none from r1);cases e with|tup _=>cases he|lst _=>cases he|cH _=>cases he|dv _ _=>cases he|non=>rw[Rep]at a;subst a;cases(show u'=.none from b);exact SeqAt.EqAt.same _|bl _=>rw[Rep]at a;subst a;cases(show u'=.bool _ from b);exact none_bool _|int _=>rw[Rep]at a;subst a;obtain⟨t,rfl⟩:=b;exact none_int _ _|str _=>rw[Rep]at a;subst a;obtain⟨t,rfl⟩:=b;exact none_str _ _
 |bl _=>rw[Rep]at h1;subst h1;cases(show c=.bool _ from r1);cases e with|tup _=>cases he|lst _=>cases he|cH _=>cases he|dv _ _=>cases he|non=>rw[Rep]at a;subst a;cases(show u'=.none from b);exact bool_none _|bl _=>rw[Rep]at a;subst a;cases(show u'=.bool _ from b);exact bool_bool _ _|int _=>rw[Rep]at a;subst a;obtain⟨t,rfl⟩:=b;exact bool_int _ _ _|str _=>rw[Rep]at a;subst a;obtain⟨t,rfl⟩:=b;exact bool_str _ _ _
 |int _=>rw[Rep]at h1;subst h1;obtain⟨t0,rfl⟩:=r1;cases e with|tup _=>cases he|lst _=>cases he|cH _=>cases he|dv _ _=>cases he|non=>rw[Rep]at a;subst a;cases(show u'=.none from b);exact int_none _ _|bl _=>rw[Rep]at a;subst a;cases(show u'=.bool _ from b);exact int_bool _ _ _|int _=>rw[Rep]at a;subst a;obtain⟨t,rfl⟩:=b;exact int_int _ _ _ _|str _=>rw[Rep]at a;subst a;obtain⟨t,rfl⟩:=b;exact int_str _ _ _ _
 |str _=>rw[Rep]at h1;subst h1;obtain⟨t0,rfl⟩:=r1;cases e with|tup _=>cases he|lst _=>cases he|cH _=>cases he|dv _ _=>cases he|non=>rw[Rep]at a;subst a;cases(show u'=.none from b);exact str_none _ _|bl _=>rw[Rep]at a;subst a;cases(show u'=.bool _ from b);exact str_bool _ _ _|int _=>rw[Rep]at a;subst a;obtain⟨t,rfl⟩:=b;exact str_int _ _ _ _|str _=>rw[Rep]at a;subst a;obtain⟨t,rfl⟩:=b;exact str_str _ _ _ _
theorem jV{e:D}{u:V}{a:Addr}{g:Array Value}(ht:s.heap.IsTuple a g)(b:A.units<cLine)(he:flat e=true)(c:Rep K F u e)(f:RelV u u'):SeqAt.EqAt A s (.ref a) u' (jd (.tup ds) e)/\SeqAt.EqAt A s u' (.ref a) (jd e (.tup ds)):=by cases e with|tup _=>cases he|lst _=>cases he|cH _=>cases he|dv _ _=>cases he|non=>rw[Rep]at c;subst c;cases(show u'=.none from f);exact⟨SeqAt.EqAt.tuple_none ht b,SeqAt.EqAt.none_tuple ht b⟩|bl _=>rw[Rep]at c;subst c;cases(show u'=.bool _ from f);exact⟨SeqAt.EqAt.tuple_bool _ ht b,SeqAt.EqAt.bool_tuple _ ht b⟩|int _=>rw[Rep]at c;subst c;obtain⟨t,rfl⟩:=f;exact⟨SeqAt.EqAt.tuple_int _ _ ht b,SeqAt.EqAt.int_tuple _ _ ht b⟩|str _=>rw[Rep]at c;subst c;obtain⟨t,rfl⟩:=f;exact⟨SeqAt.EqAt.tuple_str _ _ ht b,SeqAt.EqAt.str_tuple _ _ ht b⟩
theorem jB{e:D}{u:V}{a:Addr}{g:Array Value}(ht:s.heap.IsList a g)(b:A.units<cLine)(he:flat e=true)(c:Rep K F u e)(f:RelV u u'):SeqAt.EqAt A s (.ref a) u' (jd (.lst ds) e)/\SeqAt.EqAt A s u' (.ref a) (jd e (.lst ds)):=by cases e with|tup _=>cases he|lst _=>cases he|cH _=>cases he|dv _ _=>cases he|non=>rw[Rep]at c;subst c;cases(show u'=.none from f);exact⟨SeqAt.EqAt.list_none ht b,SeqAt.EqAt.none_list ht b⟩|bl _=>rw[Rep]at c;subst c;cases(show u'=.bool _ from f);exact⟨SeqAt.EqAt.list_bool _ ht b,SeqAt.EqAt.bool_list _ ht b⟩|int _=>rw[Rep]at c;subst c;obtain⟨t,rfl⟩:=f;exact⟨SeqAt.EqAt.list_int _ _ ht b,SeqAt.EqAt.int_list _ _ ht b⟩|str _=>rw[Rep]at c;subst c;obtain⟨t,rfl⟩:=f;exact⟨SeqAt.EqAt.list_str _ _ ht b,SeqAt.EqAt.str_list _ _ ht b⟩
theorem uZ{n:Nat}{d:D}(h:dh n d=true)(h0:n=0):flat d=true:=by subst h0;cases d<;>first|rfl|simp[dh]at h
theorem aaB{X:Cx}{L:List (Addr×Obj)}(I:L2.Inv X L σ H s)(sm:aF F H):∀(n:Nat)(A:Around),A.units+n<cLine->∀(d e:D),dh n d=true->dh n e=true->∀(v u:V)(M u':Value),Rep X.K F v d->Rep X.K F u e->RelV v M->RelV u u'->SeqAt.EqAt A s M u' (jd d e):=by intro n;induction n with|zero=>intro A hu d e hd he v u M u' h1 f r1 g;exact yQ (uZ hd rfl) (uZ he rfl) h1 f r1 g|succ n ih=>
   intro A hu d e hd he v u M u' h1 f r1 g;have c:A.units<cLine:=by omega
   have Q:A.in1.units+n<cLine:=by show A.units+1+n<cLine;omega--items by place
   have N:∀{xs ys:List V}{t ws:List Value}{ds es:List D}{j:Nat}(E:j<t.toArray.size)(G:j<ws.toArray.size),ds.all (dh n)=true->es.all (dh n)=true->Vals xs t->Vals ys ws->aB X.K F xs ds->aB X.K F ys es->SeqAt.EqAt A.in1 s t.toArray[j] ws.toArray[j] (jd (ds.getD j .non) (es.getD j .non)):=λ{xs ys t ws ds es j}E G a1 a2 J l h k=>by
    have E:j<t.length:=by simpa using E
    have G:j<ws.length:=by simpa using G
    have w:j<ds.length:=by rw[<-h.length,J.length];exact E
    have l2:j<es.length:=by rw[<-k.length,l.length];exact G
    obtain⟨x,g1,g2⟩:=h.get (show ds[j]?=some ds[j]by simp[w]);obtain⟨y,g3,g4⟩:=k.get (show es[j]?=some es[j]by simp[l2]);obtain⟨Z,g5,g6⟩:=J.get g1;obtain⟨y',g7,g8⟩:=l.get g3;have e1:t.toArray[j]=Z:=by have:=(dw g5).2;simpa using this
    have e2:ws.toArray[j]=y':=by have:=(dw g7).2;simpa using this
    have e3:ds.getD j .non=ds[j]:=by simp[List.getD,w]
    have e4:es.getD j .non=es[j]:=by simp[List.getD,l2]
    rw[e1,e2,e3,e4];exact ih A.in1 Q _ _ (all_eq_true.mp a1 _ (getElem_mem w)) (all_eq_true.mp a2 _ (getElem_mem l2)) x y Z y' g2 g4 g6 g8--the same object
   have same:∀{a:Addr},v=.ref a->u=.ref a->SeqAt.EqAt A s M u' (jd d e):=λ{a}q1 q2=>by subst q1;subst q2;have:=Jt I sm (n+1) d hd _ e h1 f;subst this;rw[uC];cases r1;cases g;exact SeqAt.EqAt.same _
   cases d with
   |cH _=>simp[dh]at hd|dv _ _=>simp[dh]at hd|tup ds=>
     have U:ds.all (dh n)=true:=by simpa[dh]using hd
     have o:=h1;rw[Rep]at o;obtain⟨a,xs,rfl,W,O⟩:=o;cases r1;obtain⟨t,J,h,_⟩:=I.tuple (aF.gF sm W)
     cases e with|cH _=>simp[dh]at he|dv _ _=>simp[dh]at he|tup es=>
       have Y:es.all (dh n)=true:=by simpa[dh]using he
       have p:=f;rw[Rep]at p;obtain⟨b,ys,rfl,q,B⟩:=p;by_cases r:a=b;.subst r;exact same rfl rfl
       . cases g;obtain⟨ws,l,k,_⟩:=I.tuple (aF.gF sm q);refine .of_refs r ?_;have z:=SeqAt.RcAt.tuples (A:=A) (e:=λj=>jd (ds.getD j .non) (es.getD j .non)) h k c λj E G=>N E G U Y J l O B;have w:t.toArray.size=ds.length:=by rw[size_toArray,<-J.length,O.length]
         have l2:ws.toArray.size=es.length:=by rw[size_toArray,<-l.length,B.length]
         rw[w,l2]at z;have e0:jd (.tup ds) (.tup es)=((List.range (min ds.length es.length)).all (λj=>jd (ds.getD j .non) (es.getD j .non))&&ds.length==es.length):=by
          rw[pqt];by_cases C:ds.length=es.length;.rw[eU C,C];simp
          . rw[ir C];have:(ds.length==es.length)=false:=by simpa using C
            rw[this,Bool.and_false]
         rw[e0];exact z|lst es=>rw[Rep]at f;obtain⟨b,ys,rfl,q,B⟩:=f;cases g;obtain⟨ws,l,k,_⟩:=I.list (sm.seq q);exact SeqAt.EqAt.tuple_list h k.isList c|non=>exact(jV h c rfl f g).1|bl _=>exact(jV h c rfl f g).1|int _=>exact(jV h c rfl f g).1|str _=>exact(jV h c rfl f g).1
   |lst ds=>
     have U:ds.all (dh n)=true:=by simpa[dh]using hd
     have o:=h1;rw[Rep]at o
     obtain⟨a,xs,rfl,W,O⟩:=o;cases r1;obtain⟨t,J,h,_⟩:=I.list (sm.seq W);cases e with|cH _=>simp[dh]at he|dv _ _=>simp[dh]at he|lst es=>
       have Y:es.all (dh n)=true:=by simpa[dh]using he
       have p:=f;rw[Rep]at p;obtain⟨b,ys,rfl,q,B⟩:=p;by_cases r:a=b;.subst r;exact same rfl rfl
       . cases g;obtain⟨ws,l,k,_⟩:=I.list (sm.seq q);refine .of_refs r ?_;have w:t.toArray.size=ds.length:=by rw[size_toArray,<-J.length,O.length]
         have l2:ws.toArray.size=es.length:=by rw[size_toArray,<-l.length,B.length]
         rw[Wr];by_cases C:ds.length=es.length;.have z:=SeqAt.RcAt.lists (A:=A) (e:=λj=>jd (ds.getD j .non) (es.getD j .non)) h.isList k.isList (by rw[w,l2,C]) c λj E G=>N E G U Y J l O B;rw[w]at z;rw[eU C];exact z
         .rw[ir C];exact lists_lengths h.isList k.isList (by rw[w,l2];simpa using C) c|tup es=>rw[Rep]at f;obtain⟨b,ys,rfl,q,B⟩:=f;cases g;obtain⟨ws,l,k,_⟩:=I.tuple (aF.gF sm q);exact SeqAt.EqAt.list_tuple h.isList k c|non=>exact(jB h.isList c rfl f g).1|bl _=>exact(jB h.isList c rfl f g).1|int _=>exact(jB h.isList c rfl f g).1|str _=>exact(jB h.isList c rfl f g).1
   |non|bl _|int _|str _=>cases e with|cH _=>simp[dh]at he|dv _ _=>simp[dh]at he|tup es=>rw[Rep]at f;obtain⟨b,ys,rfl,q,B⟩:=f;cases g;obtain⟨ws,l,k,_⟩:=I.tuple (aF.gF sm q);exact(jV k c rfl h1 r1).2|lst es=>rw[Rep]at f;obtain⟨b,ys,rfl,q,B⟩:=f;cases g;obtain⟨ws,l,k,_⟩:=I.list (sm.seq q);exact(jB k.isList c rfl h1 r1).2|_=>exact yQ rfl rfl h1 f r1 g
end
section
variable{X:Cx}{pins:List (Addr×Obj)}{σ:L2.St}{H F:Hp}{s:Shared}{A:Around}
abbrev RC(A:Around)(s:Shared)(v u:Value)(k:Bool):Prop:=SeqAt.RcAt A s v u k/\SeqAt.RcNeAt A s v u (!k)
inductive Top(X:Cx)(F H:Hp)(s:Shared):Value->D->Prop where|non:Top X F H s .none .non|bl(b:Bool):Top X F H s (.bool b) (.bl b)|int(i:Int)(t:Tok):Top X F H s (.int i t) (.int i)|str(x:Str)(t:Tok):Top X F H s (.str x t) (.str x)|tup{a:Addr}{us:List Value}{xs:List V}{ds:List D}(ht:s.heap.IsTuple a us.toArray)(hv:Vals xs us)(hr:aB X.K F xs ds):Top X F H s (.ref a) (.tup ds)|lst{a:Addr}{us:List Value}{xs:List V}{ds:List D}(ht:s.heap.IsList a us.toArray)(hv:Vals xs us)(hr:aB X.K F xs ds):Top X F H s (.ref a) (.lst ds)
theorem qT(I:L2.Inv X pins σ H s)(sm:aF F H){g:Value}{d:D}(hd:dh 8 d=true)(h:cg X.K F H v d)(r:RelV v g):Top X F H s g d:=by cases d with|cH _=>simp[dh]at hd|dv _ _=>simp[dh]at hd|non=>rw[h.non]at r;cases r;exact .non|bl b=>rw[h.bl]at r;cases r;exact .bl b|int i=>rw[h.int]at r;obtain⟨t,rfl⟩:=r;exact .int i t|str x=>rw[h.str]at r;obtain⟨t,rfl⟩:=r;exact .str x t|tup ds=>obtain⟨a,xs,rfl,h1,c,_⟩:=h.tup sm;cases r;obtain⟨j,e,f,_⟩:=I.tuple h1;exact .tup f e c|lst ds=>obtain⟨a,xs,rfl,h1,c⟩:=h.lst sm;cases r;obtain⟨j,e,f,_⟩:=I.list h1;exact .lst f.isList e c
theorem U7(I:L2.Inv X pins σ H s)(sm:aF F H){n:Nat}(hu:A.units+(n+1)<cLine){d e:D}(hd:dh (n+1) d=true)(he:dh (n+1) e=true){J:Value}(h1:Top X F H s J d)(w:Top X F H s u' e):RC A s J u' (jd d e):=by
 have c:A.units<cLine:=by omega
 have G:A.in1.units+n<cLine:=by show A.units+1+n<cLine;omega
 have r:∀{xs ys:List V}{q ws:List Value}{ds es:List D}{j:Nat}(k:j<q.toArray.size)(l:j<ws.toArray.size),ds.all (dh n)=true->es.all (dh n)=true->Vals xs q->Vals ys ws->aB X.K F xs ds->aB X.K F ys es->SeqAt.EqAt A.in1 s q.toArray[j] ws.toArray[j] (jd (ds.getD j .non) (es.getD j .non)):=λ{xs ys q ws ds es j}k l W Y L M N O=>by
  have k:j<q.length:=by simpa using k
  have l:j<ws.length:=by simpa using l
  have o:j<ds.length:=by rw[<-N.length,L.length];exact k
  have l2:j<es.length:=by rw[<-O.length,M.length];exact l
  obtain⟨x,Z,g2⟩:=N.get (show ds[j]?=some ds[j]by simp[o]);obtain⟨y,g3,g4⟩:=O.get (show es[j]?=some es[j]by simp[l2]);obtain⟨Q,g5,g6⟩:=L.get Z;obtain⟨U,g7,g8⟩:=M.get g3;have e1:q.toArray[j]=Q:=by have:=(dw g5).2;simpa using this
  have e2:ws.toArray[j]=U:=by have:=(dw g7).2;simpa using this
  have e3:ds.getD j .non=ds[j]:=by simp[List.getD,o]
  have e4:es.getD j .non=es[j]:=by simp[List.getD,l2]
  rw[e1,e2,e3,e4];exact aaB I sm n A.in1 G _ _ (all_eq_true.mp W _ (getElem_mem o)) (all_eq_true.mp Y _ (getElem_mem l2)) x y Q U g2 g4 g6 g8
 cases h1 with
 |non=>cases w with|non=>exact⟨SeqAt.RcAt.none_none,SeqAt.RcNeAt.none_none⟩|bl b=>exact⟨SeqAt.RcAt.none_bool _,SeqAt.RcNeAt.none_bool _⟩|int i t=>exact⟨SeqAt.RcAt.none_int _ _,SeqAt.RcNeAt.none_int _ _⟩|str i t=>exact⟨SeqAt.RcAt.none_str _ _,SeqAt.RcNeAt.none_str _ _⟩|tup ht _ _=>exact⟨SeqAt.RcAt.none_tuple ht c,SeqAt.RcNeAt.none_tuple ht c⟩|lst ht _ _=>exact⟨SeqAt.RcAt.none_list ht c,SeqAt.RcNeAt.none_list ht c⟩
 |bl b0=>cases w with|non=>exact⟨SeqAt.RcAt.bool_none _,SeqAt.RcNeAt.bool_none _⟩|bl b=>exact⟨SeqAt.RcAt.bool_bool _ _,SeqAt.RcNeAt.bool_bool _ _⟩|int i t=>exact⟨SeqAt.RcAt.bool_int _ _ _,SeqAt.RcNeAt.bool_int _ _ _⟩|str i t=>exact⟨SeqAt.RcAt.bool_str _ _ _,SeqAt.RcNeAt.bool_str _ _ _⟩|tup ht _ _=>exact⟨SeqAt.RcAt.bool_tuple _ ht c,SeqAt.RcNeAt.bool_tuple _ ht c⟩|lst ht _ _=>exact⟨SeqAt.RcAt.bool_list _ ht c,SeqAt.RcNeAt.bool_list _ ht c⟩
 |int i0 t0=>cases w with|non=>exact⟨SeqAt.RcAt.int_none _ _,SeqAt.RcNeAt.int_none _ _⟩|bl b=>exact⟨SeqAt.RcAt.int_bool _ _ _,SeqAt.RcNeAt.int_bool _ _ _⟩|int i t=>exact⟨SeqAt.RcAt.int_int _ _ _ _,SeqAt.RcNeAt.int_int _ _ _ _⟩|str i t=>exact⟨SeqAt.RcAt.int_str _ _ _ _,SeqAt.RcNeAt.int_str _ _ _ _⟩|tup ht _ _=>exact⟨SeqAt.RcAt.int_tuple _ _ ht c,SeqAt.RcNeAt.int_tuple _ _ ht c⟩|lst ht _ _=>exact⟨SeqAt.RcAt.int_list _ _ ht c,int_list _ _ ht c⟩
 |str i0 t0=>cases w with|non=>exact⟨SeqAt.RcAt.str_none _ _,SeqAt.RcNeAt.str_none _ _⟩|bl b=>exact⟨SeqAt.RcAt.str_bool _ _ _,SeqAt.RcNeAt.str_bool _ _ _⟩|int i t=>exact⟨SeqAt.RcAt.str_int _ _ _ _,SeqAt.RcNeAt.str_int _ _ _ _⟩|str i t=>exact⟨SeqAt.RcAt.str_str _ _ _ _,SeqAt.RcNeAt.str_str _ _ _ _⟩|tup ht _ _=>exact⟨SeqAt.RcAt.str_tuple _ _ ht c,SeqAt.RcNeAt.str_tuple _ _ ht c⟩|lst ht _ _=>exact⟨SeqAt.RcAt.str_list _ _ ht c,str_list _ _ ht c⟩
 |@tup a q xs ds ht u hr=>
   have z:ds.all (dh n)=true:=by simpa[dh]using hd
   cases w with|non=>exact⟨SeqAt.RcAt.tuple_none ht c,SeqAt.RcNeAt.tuple_none ht c⟩|bl b=>exact⟨SeqAt.RcAt.tuple_bool _ ht c,SeqAt.RcNeAt.tuple_bool _ ht c⟩|int i t=>exact⟨SeqAt.RcAt.tuple_int _ _ ht c,SeqAt.RcNeAt.tuple_int _ _ ht c⟩|str i t=>exact⟨SeqAt.RcAt.tuple_str _ _ ht c,SeqAt.RcNeAt.tuple_str _ _ ht c⟩|lst h _ _=>exact⟨SeqAt.RcAt.tuple_list ht h c,SeqAt.RcNeAt.tuple_list ht h c⟩|@tup b ws ys es h f g=>
     have B:es.all (dh n)=true:=by simpa[dh]using he
     have o:q.toArray.size=ds.length:=by rw[size_toArray,<-u.length,hr.length]
     have l2:ws.toArray.size=es.length:=by rw[size_toArray,<-f.length,g.length]
     have C:=SeqAt.RcAt.tuples (A:=A) (e:=λj=>jd (ds.getD j .non) (es.getD j .non)) ht h c λj k l=>r k l z B u f hr g;have E:=SeqAt.RcNeAt.tuples (A:=A) (e:=λj=>jd (ds.getD j .non) (es.getD j .non)) ht h c λj k l=>r k l z B u f hr g;rw[o,l2]at C E;have e0:jd (.tup ds) (.tup es)=((List.range (min ds.length es.length)).all (λj=>jd (ds.getD j .non) (es.getD j .non))&&ds.length==es.length):=by
      rw[pqt];by_cases p:ds.length=es.length;.rw[eU p,p];simp
      . rw[ir p];have:(ds.length==es.length)=false:=by simpa using p
        rw[this,Bool.and_false]
     rw[e0];exact⟨C,E⟩
 |@lst a q xs ds ht u hr=>
   have z:ds.all (dh n)=true:=by simpa[dh]using hd
   cases w with|non=>exact⟨SeqAt.RcAt.list_none ht c,SeqAt.RcNeAt.list_none ht c⟩|bl b=>exact⟨SeqAt.RcAt.list_bool _ ht c,SeqAt.RcNeAt.list_bool _ ht c⟩|int i t=>exact⟨SeqAt.RcAt.list_int _ _ ht c,list_int _ _ ht c⟩|str i t=>exact⟨SeqAt.RcAt.list_str _ _ ht c,list_str _ _ ht c⟩|tup h _ _=>exact⟨SeqAt.RcAt.list_tuple ht h c,SeqAt.RcNeAt.list_tuple ht h c⟩|@lst b ws ys es h f g=>
     have B:es.all (dh n)=true:=by simpa[dh]using he
     have o:q.toArray.size=ds.length:=by rw[size_toArray,<-u.length,hr.length]
     have l2:ws.toArray.size=es.length:=by rw[size_toArray,<-f.length,g.length]
     rw[Wr];by_cases p:ds.length=es.length;.have C:=SeqAt.RcAt.lists (A:=A) (e:=λj=>jd (ds.getD j .non) (es.getD j .non)) ht h (by rw[o,l2,p]) c λj k l=>r k l z B u f hr g;have E:=SeqAt.RcNeAt.lists (A:=A) (e:=λj=>jd (ds.getD j .non) (es.getD j .non)) ht h (by rw[o,l2,p]) c λj k l=>r k l z B u f hr g;rw[o]at C E;rw[eU p];exact⟨C,E⟩
     .rw[ir p];exact⟨lists_lengths ht h (by rw[o,l2];simpa using p) c,SeqAt.RcNeAt.lists_lengths ht h (by rw[o,l2];simpa using p) c⟩
theorem Lw(b:X.A.units+8<cLine):fH X (compareOp .Eq) (rD X.K (uE .eq)):=by rintro pins s σ H x y v u Q I c f⟨F,d,e,r,sm,g,h,he,k⟩;obtain⟨t,a,j⟩:=map_some (show(BR d e).map _=some r from he);subst j;unfold BR at a;obtain⟨hd,a⟩:=aO a;rw[and_eq_true]at hd;subst a;exact(U7 I sm (n:=7) b hd.1 hd.2 (qT I sm hd.1 g c) (qT I sm hd.2 h f)).1 _ _ _ _ ⟨.bl _,H,I,rfl,bG.cj sm (fO _) k⟩
theorem oM(b:X.A.units+8<cLine):fH X (compareOp .NotEq) (rD X.K (uE .ne)):=by rintro pins s σ H x y v u Q I c f⟨F,d,e,r,sm,g,h,he,k⟩;obtain⟨t,a,j⟩:=map_some (show(Ck d e).map _=some r from he);subst j;unfold Ck at a;obtain⟨hd,a⟩:=aO a;rw[and_eq_true]at hd;subst a;exact(U7 I sm (n:=7) b hd.1 hd.2 (qT I sm hd.1 g c) (qT I sm hd.2 h f)).2 _ _ _ _ ⟨.bl _,H,I,rfl,bG.cj sm (fO _) k⟩
end
section
variable{Pg:Program}{w:World}{K:PySem.W.Frag}{mg:Str->Option Value}{base:Heap}
theorem U4{qual:Str}{st:Stmt}{f:Addr}{fd:FuncData}{N ps:List Str}{k n:Nat}{c:Call}{d:Fd}(C:iZ K x qual st f fd)(S:aL N ps (aC st))(h1:d.np=ps.length)(t:d.nn=N.length)(G:∀(cdv:Value)(A:Around)(outer:List Env)(s:Shared)(H:Hp)(E:XK),iy k (A.deeper (envOfC qual (aC st) s.heap.objs.size f cdv))->SB (vV CP Pg w K mg base N qual (aC st) f cdv A outer s H E).TV c n (dU st) d.body):kZ Pg w K mg base CP (k+1) f fd ps (Hu K ps.length (λargs=>enter c n d args)):=by
 refine C.ok S (λvs H Q E h=>h.1) λcdv A outer s H vs Q E hr h=>?_;obtain⟨u,F,args,r,o,g,e,q⟩:=h;refine⟨_,G cdv A outer s H E hr,?_⟩;replace e:enter c n d args=.ok r o:=e;unfold enter at e;split at e
 . rename_i hc;obtain⟨c1,c2⟩:=hc;have I:=g.more (n:=d.nn-d.np) (τ:=replicate (N.length-vs.length) none) (by simp[h1,t,u]);have p:args.length=d.np:=c1;have go:∀{fl:Fl}{a:List Sl},fX c n d.body (args++replicate (d.nn-d.np) .aP)=.ok fl a->(∀l b j,aq K F (args++replicate (d.nn-d.np) .aP) (start N vs) H l a b j->(match fl with|.next=>Q .non j|.brk=>False|.cont=>False|.ret r=>∀v,bT K l a b j (args++replicate (d.nn-d.np) .aP) (start N vs) H v r->Q v j))->XM K (fX c n d.body) {nx:=λ_ j=>Q .non j,rt:=Q} (start N vs) H:=λ{fl a}z k=>⟨F,_,fl,a,I,z,λl b j s=>by have:=k l b j s;cases fl<;>exact this⟩;split at e;.rename_i a z;cases e;refine go z λl b j s=>?_;obtain⟨y,B⟩:=aq.less (m:=d.np) p.symm g (by simp[h1,t,u]) s;exact q .non l _ j y (show Rep K l _ _ from OD)
   .rename_i L a z;cases e;refine go z λl b j s v J=>?_;obtain⟨y,B⟩:=aq.less (m:=d.np) p.symm g (by simp[h1,t,u]) s;exact q v l _ j y (B v r J)
   .split at e<;>cases e
 .cases e
structure aZ(Pg:Program)(w:World)(K:PySem.W.Frag)(mg:Str->Option Value)(base:Heap)(k:Nat)(c:Call)(i:Nat)(x:Str)(np:Nat):Prop where ex:∃fa fd qs,kZ Pg w K mg base CP k fa fd qs (Hu K qs.length (c i))/\mg x=some (.ref fa)/\keepIn K (.ref fa)=true/\Binds K fd qs []/\qs.length=np
end
section
variable{X:Cx}{c:Call}{n k:Nat}{e a b:Expr}{es:List Expr}{p pa pb:P}{ps:List P}{pos:Pos}
theorem sv(i:Nat)(g:X.N[i]?=some x:=by rfl)(h:tD X.env.scope x:=by first|exact Or.inl rfl|exact Or.inr (Or.inl rfl)|exact Or.inr (Or.inr rfl))(hd:(x==("__debug__":Str))=false:=by rfl)(f:(x==("__classdict__":Str))=false:=by rfl):SX X c (.Name x pos) (.var i):=Qh g h hd f
theorem fc{np:Nat}(C:aZ X.prog X.w X.K X.mg X.base k c i x np)(hr:iy k X.A)(h:SG X c (e::es) ps)(j:Gl X x:=by rfl)(l:(e::es).length=np:=by rfl)(f:(x==("__debug__":Str))=false:=by rfl)(he:starEach (e::es) X.env=(false,eval e X.env)::starEach es X.env:=by rfl)(hpl:(backTo pos (starEach es X.env)).any (·.1)=false:=by rfl)(g:ps.length=(e::es).length:=by rfl):SX X c (.Call (.Name x p') (e::es) [] pos) (.call i ps):=by obtain⟨u,fd,y,h1,o,q,r,t⟩:=C.ex;exact Jh h1 hr j o q r h (l.trans t.symm) f he hpl g
noncomputable def Kv(names outer:List (Str×NameKind))(N N':List Str)(n:Nat):Bool:=(names.all λy=>names.lookup y.1==some y.2)&&(names.all λy=>y.2!=.local||names.lookup y.1==some .local)&&(names.all λy=>y.2!=.free||outer.lookup y.1==some .cell||outer.lookup y.1==some .free)&&N'.length==N.length+n&&((N.zip N').all λp=>(p.1==p.2&&names.lookup p.2==some .free)||(names.lookup p.2!=some .local&&names.lookup p.2!=some .cell&&names.lookup p.2!=some .free))
theorem Gy{scope:Scope}{N':List Str}(g:scope.kind=.function)(h:Kv scope.names X.env.scope.names X.N N' n=true):dN X scope N' n:=by
 unfold Kv at h;simp only[and_eq_true]at h;obtain⟨⟨⟨⟨h1,j⟩,l⟩,o⟩,q⟩:=h;refine⟨g,λy f=>eq_of_beq (all_eq_true.mp h1 y f),λy f e=>?_,λy f e=>?_,by simpa using o,q⟩;.have:=all_eq_true.mp j y f;rw[e]at this;simpa using this
 . have:=all_eq_true.mp l y f;rw[e]at this;simp only[or_eq_true]at this;rcases this with(z|z)|z;.cases z
   .exact .inl (eq_of_beq z)
   .exact .inr (eq_of_beq z)
theorem bN(h:iy k A):A.units+8<cLine:=by have:=h.un;omega
end
end HH
end
section
namespace L2
open PySem PySem.Spec PyProof.Rows
end L2
namespace HH
open PySem L2 PySem.Spec PyProof.Rows
structure bI(K:PySem.W.Frag)(x:Str)(st:Stmt):Prop where ex:∃f fd,PySem.W.nsIn K mainGlobals x=some (some (.ref f))/\iZ K x x st f fd
section
variable{Pg:Program}{w:World}{K:PySem.W.Frag}{mg:Str->Option Value}{base h:Heap}
theorem Lj{x:Str}{st:Stmt}{f:Addr}{oc:Value}{g i:Option Addr}{b:Array (Option Value)}{kV e j cdv ct:Value}(a:PySem.W.nsIn K mainGlobals x=some (some (.ref f)))(l:K.lookup f=some ⟨oc,g,.func (PySem.W.fnOf x x (gC st) (dU st) (aC st) .none kV e j i cdv ct),b⟩)(c:PySem.W.codeIn K cdv x=true)(k:keepIn K (.ref f)=true):bI K x st:=⟨_,_,a,Oj l c k⟩
theorem bW{Γ:Tab}{wl i np:Nat}{x:Str}{st:Stmt}{ps:List Str}(X:K.In h)(G:h.Ns mainGlobals mg)(D:bI K x st)(j:ps.length=np)(k:∀(kV g l:Value)(m:Option Addr)(cdv ct:Value)(c:List Value),c.length=ps.length->bindArgs (PySem.W.fnOf x x (gC st) (dU st) (aC st) .none kV g l m cdv ct) ⟨c,[]⟩=pure (ps.zip c)):aZ Pg w K mg base 0 (run Γ wl 0) i x np:=by obtain⟨f,fd,a,F⟩:=D.ex;exact⟨f,fd,ps,⟨λvs H Q E s=>s.1,λA outer s H args c vs Q E hr e b v sp=>by obtain⟨_,F,as,r,n,_,z,_⟩:=sp;cases z⟩,mg_of X G a,F.kp,F.binds k,j⟩
theorem bZ{Γ:Tab}{wl n i np:Nat}{x:Str}{st:Stmt}{ps:List Str}{d:Fd}(X:K.In h)(G:h.Ns mainGlobals mg)(D:bI K x st)(j:ps.length=np)(b:Γ i=some d)(k:∀(kV c l:Value)(m:Option Addr)(cdv ct:Value)(g:List Value),g.length=ps.length->bindArgs (PySem.W.fnOf x x (gC st) (dU st) (aC st) .none kV c l m cdv ct) ⟨g,[]⟩=pure (ps.zip g))(ok:∀f fd,iZ K x x st f fd->kZ Pg w K mg base CP (n+1) f fd ps (Hu K np (λargs=>enter (run Γ wl n) wl d args))):aZ Pg w K mg base (n+1) (run Γ wl (n+1)) i x np:=by
 obtain⟨f,fd,a,F⟩:=D.ex;refine⟨f,fd,ps,?_,mg_of X G a,F.kp,F.binds k,j⟩;have e:run Γ wl (n+1) i=λargs=>enter (run Γ wl n) wl d args:=by funext args;show(match Γ i with|some d=>enter (run Γ wl n) wl d args|none=>.stuck)=_;rw[b]
 rw[e,j];exact ok f fd F
theorem qi{F:Hp}:∀ns:List Int,aB K F (ns.map V.int) (ns.map D.int)|[]=>.nil|n::ns=>.cons (bC n) (qi ns)
theorem Ao{H:Hp}{a:Addr}{ns:List Int}{g:List Sl->Res R}{as:List Sl}(l:dJ K H a (ns.map V.int))(hr:g [.val false (.lst (ns.map D.int))]=.ok (.val (.bl true)) as):Hu K 1 g [.ref a] H (λv _=>v=.bl true) λ_ _ _=>False:=by
 refine⟨rfl,H,_,_,as,⟨.refl _,rfl,λi b d e=>?_,λi s m e k=>?_,λi j c h=>?_⟩,hr,λv n o p s f=>?_⟩;.match i,e with|0,e=>cases e;refine⟨.ref a,rfl,?_⟩;rw[Rep];exact⟨a,_,rfl,l,qi ns⟩|i+1,e=>simp at e
 .match i,e with|0,e=>cases e;cases k|i+1,e=>simp at e
 .obtain⟨⟨s,m,e,k⟩,_⟩:=h;match i,e with|0,e=>cases e;cases k|i+1,e=>simp at e
 .have f:Rep K n v (.bl true):=f;rw[Rep]at f;exact f
end
end HH
end
section
namespace HH
open PySem
variable{n:Nat}{c:Call}{ρ:List Sl}{is:List Nat}{ds:List D}
def Res.sat{b:Type}(Q:b->List Sl->Prop)(x:Res b):Prop:=match x with|.ok a ρ=>Q a ρ|.exc _ _=>False|.stuck=>False
section
variable{α β:Type}{Q Q':α->List Sl->Prop}
@[simp]theorem M8{a:α}{ρ:List Sl}:(Res.ok a ρ).sat Q=Q a ρ:=rfl
@[simp]theorem Xz{k:Nat}{ρ:List Sl}:(Res.exc k ρ:Res α).sat Q=False:=rfl
@[simp]theorem QH:(Res.stuck:Res α).sat Q=False:=rfl
theorem bz{x:Res β}{f:β->List Sl->Res α}:(x.bind f).sat Q=x.sat λa ρ=>(f a ρ).sat Q:=by cases x<;>rfl
@[simp]theorem Xe{p:Prop}[Decidable p]{x y:Res α}:(if p then x else y).sat Q=((p->x.sat Q)/\(¬ p->y.sat Q)):=by by_cases h:p<;>simp[h]
@[simp]theorem Gu{a:α}{ρ:List Sl}:(lift (some a) ρ).sat Q=Q a ρ:=rfl
@[simp]theorem Gv{ρ:List Sl}:(lift (none:Option α) ρ).sat Q=False:=rfl
@[simp]theorem Hy{p:Prop}[Decidable p]{a:α}{ρ:List Sl}:(lift (if p then some a else none) ρ).sat Q=(p/\Q a ρ):=by by_cases h:p<;>simp[h]
theorem Res.sat.imp{x:Res α}(h:x.sat Q)(k:∀a ρ,Q a ρ->Q' a ρ):x.sat Q':=by cases x with|ok a ρ=>exact k a ρ h|exc _ _=>exact h|stuck=>exact h
theorem sat_iff{x:Res α}:x.sat Q↔∃a ρ,x=.ok a ρ/\Q a ρ:=by cases x with|ok a ρ=>exact⟨λh=>⟨a,ρ,rfl,h⟩,λ⟨_,_,e,h⟩=>by cases e;exact h⟩|exc _ _=>exact⟨λh=>h.elim,λ⟨_,_,e,_⟩=>by cases e⟩|stuck=>exact⟨λh=>h.elim,λ⟨_,_,e,_⟩=>by cases e⟩
end
noncomputable def fr:Sl->Bool|.aP=>true|.val b _=>!b|.own b _=>!b|.lent _=>false|.fC _=>false|.cA _=>false|.hold _=>false
@[simp]theorem aaA:fr .aP=true:=rfl
@[simp]theorem Zj{b:Bool}{d:D}:fr (.val b d)=!b:=rfl
@[simp]theorem aac{b:Bool}{d:List D}:fr (.own b d)=!b:=rfl
@[simp]theorem W2{d:List D}:fr (.lent d)=false:=rfl
theorem Qg(ρ:List Sl)(i:Nat)(s:Sl):put ρ i s=match ρ[i]?with|some t=>if fr t=true then some (ρ.set i s)else none|none=>none:=by unfold put;cases h:ρ[i]?with|none=>rfl|some t=>cases t with|aP=>rfl|val b d=>cases b<;>rfl|own b d=>cases b<;>rfl|lent d=>rfl|fC m=>rfl|cA m=>rfl|hold m=>rfl
theorem Dy{Γ:Tab}{w i:Nat}{d:Fd}{args:List Sl}(h:Γ i=some d):run Γ w (n+1) i args=enter (run Γ w n) w d args:=by rw[run,h]
noncomputable def fin(np:Nat):Fl->List Sl->Option (R×List Sl)|.next,ρ=>some (.val .non,ρ.take np)|.ret r,ρ=>some (r,ρ.take np)|_,_=>none
def eQ(np:Nat)(Q:R->List Sl->Prop)(fl:Fl)(ρ:List Sl):Prop:=match fl with|.next=>Q (.val .non) (ρ.take np)|.ret r=>Q r (ρ.take np)|_=>False
def sQ(c:Call)(n:Nat)(r:List S)(Q:Fl->List Sl->Prop)(fl:Fl)(ρ:List Sl):Prop:=match fl with|.next=>(fX c n r ρ).sat Q|fl=>Q fl ρ
def fQ(J:List Sl->Prop)(Q:Fl->List Sl->Prop)(fl:Fl)(ρ:List Sl):Prop:=match fl with|.next=>J ρ|.cont=>J ρ|.brk=>Q .next ρ|.ret v=>Q (.ret v) ρ
section
variable{np:Nat}{Q:R->List Sl->Prop}{ρ:List Sl}{v:R}{c:Call}{n:Nat}{r:List S}{Q':Fl->List Sl->Prop}{J:List Sl->Prop}
@[simp]theorem Yc:eQ np Q .next ρ=Q (.val .non) (ρ.take np):=rfl
@[simp]theorem ZM:eQ np Q (.ret v) ρ=Q v (ρ.take np):=rfl
@[simp]theorem ZK:eQ np Q .brk ρ=False:=rfl
@[simp]theorem XD:eQ np Q .cont ρ=False:=rfl
@[simp]theorem Xf:sQ c n r Q' .next ρ=(fX c n r ρ).sat Q':=rfl
@[simp]theorem YK:sQ c n r Q' (.ret v) ρ=Q' (.ret v) ρ:=rfl
@[simp]theorem aaO:sQ c n r Q' .brk ρ=Q' .brk ρ:=rfl
@[simp]theorem Xn:sQ c n r Q' .cont ρ=Q' .cont ρ:=rfl
@[simp]theorem Xc:fQ J Q' .next ρ=J ρ:=rfl
@[simp]theorem WM:fQ J Q' .cont ρ=J ρ:=rfl
@[simp]theorem aae:fQ J Q' .brk ρ=Q' .next ρ:=rfl
@[simp]theorem Y4:fQ J Q' (.ret v) ρ=Q' (.ret v) ρ:=rfl
end
theorem zH{d:Fd}{args:List Sl}{Q:R->List Sl->Prop}(a:args.length=d.np)(hd:d.np<=d.nn)(h:(fX c n d.body (args++replicate (d.nn-d.np) .aP)).sat (eQ d.np Q)):(enter c n d args).sat Q:=by unfold enter;rw[if_pos ⟨a,hd⟩];revert h;cases fX c n d.body (args++replicate (d.nn-d.np) .aP)with|stuck=>exact λh=>False.elim h|exc _ _=>exact λh=>False.elim h|ok fl ρ=>cases fl<;>first|exact id|exact λh=>False.elim h
theorem aU{Γ:Tab}{w i:Nat}{d:Fd}{args:List Sl}{Q:R->List Sl->Prop}(a:Γ i=some d)(b:args.length=d.np)(hd:d.np<=d.nn)(h:(fX (run Γ w n) w d.body (args++replicate (d.nn-d.np) .aP)).sat (eQ d.np Q)):(run Γ w (n+1) i args).sat Q:=by rw[Dy a];exact zH b hd h
theorem ak{s:S}{r:List S}{Q:Fl->List Sl->Prop}(h:(ex c n s ρ).sat (sQ c n r Q)):(fX c n (s::r) ρ).sat Q:=by rw[Ob,bz];refine h.imp λfl a q=>?_;cases fl<;>exact q
theorem zW{s:S}{r:List S}{Q:Fl->List Sl->Prop}(h:(ex c n s ρ).sat (sQ c n r Q)):sQ c n (s::r) Q .next ρ:=ak h
@[simp]theorem Xo{c:Call}{n:Nat}{ρ:List Sl}{Q:Fl->List Sl->Prop}:(fX c n [] ρ).sat Q=Q .next ρ:=by rw[xs0];rfl
theorem cu{s:S}{r:List S}{Q:Fl->List Sl->Prop}(M:List Sl->Prop)(h:(ex c n s ρ).sat λfl a=>fl=.next/\M a)(k:∀a,M a->(fX c n r a).sat Q):(fX c n (s::r) ρ).sat Q:=ak (h.imp λfl a⟨e,q⟩=>by subst e;exact k a q)
theorem bM{is:List Nat}{one:Bool}{body:List Sl->Res Fl}(J:List D->List Sl->Prop){Q:Fl->List Sl->Prop}(b:∀d r ρ,J (d::r) ρ->∃a,bV ρ is one d=some a/\(body a).sat (fQ (J r) Q))(f:∀ρ,J [] ρ->Q .next ρ):∀{ds:List D}{ρ:List Sl},J ds ρ->(fU is one body ds ρ).sat Q|[],ρ,j=>f ρ j|d::r,ρ,j=>by obtain⟨a,e,h⟩:=b d r ρ j;rw[fU,e];show((body a).bind _).sat Q;rw[bz];refine h.imp λfl g q=>?_;cases fl with|next=>exact bM J b f q|cont=>exact bM J b f q|brk=>exact q|ret v=>exact q
theorem iV{is:List Nat}{one:Bool}{a:List Sl->Res Bool}{p:Ev}(J:List Sl->Prop)(g:D->Option D){Q:List D->List Sl->Prop}:∀{ds f:List D}{ρ:List Sl},J ρ->(∀ d,d ∈ ds->∀ ρ,J ρ->∃ i,bV ρ is one d=some i/\(a i).sat λb l=>if b=true then(p l).sat λr s=>g d=some r.d/\J s else g d=none/\J l)->(∀ ρ,J ρ->Q (f++ds.filterMap g) ρ)->(turns is one a p ds f ρ).sat Q|[],f,ρ,j,h,k=>by rw[turns];simpa using k ρ j|d::r,f,ρ,j,h,k=>by obtain⟨i,e,h1⟩:=h d (by simp) ρ j;rw[turns,e];show((a i).bind _).sat Q;rw[bz];refine h1.imp λb l q=>?_;cases b with|true=>rw[if_pos rfl]at q;rw[if_pos rfl,bz];refine q.imp λx s⟨u,j3⟩=>?_;refine iV J g j3 (λd' m=>h d' (by simp[m])) λo t=>?_;have:=k o t;rw[filterMap_cons,u]at this;rw[append_assoc];exact this|false=>rw[if_neg (by simp)]at q;rw[if_neg (by simp)];refine iV J g q.2 (λd' m=>h d' (by simp[m])) λo t=>?_;have:=k o t;rw[filterMap_cons,q.1]at this;exact this
theorem wG{one:Bool}{b:Ev}(J:List Sl->Prop)(g:D->D){Q:List D->List Sl->Prop}(j:J ρ)(h:∀d,d∈ds->∀ρ,J ρ->∃a,bV ρ is one d=some a/\(b a).sat λr f=>g d=r.d/\J f)(k:∀ρ,J ρ->Q (ds.map g) ρ):(turns is one (m8 c none) b ds [] ρ).sat Q:=iV J (λd=>some (g d)) j (λd hd ρ j=>by obtain⟨a,e,h1⟩:=h d hd ρ j;refine⟨a,e,?_⟩;rw[m8,M8,if_pos rfl];exact h1.imp λr f q=>⟨by rw[q.1],q.2⟩) λρ j=>by simpa using k ρ j
section
variable{ρ l:List Sl}{a:Sl}{i j:Int}{k m:Nat}{b b':Bool}{s:Str}{d:D}{ds es:List D}{e f:Ev}{x:Option Sl}{c:Call}
@[simp]theorem Mh:bR .int .non=false:=rfl
@[simp]theorem Rf:bR .int (.bl b)=true:=rfl
@[simp]theorem Mp:bR .int (.int i)=true:=rfl
@[simp]theorem Ln:bR .int (.str s)=false:=rfl
@[simp]theorem OJ:bR .int (.tup ds)=false:=rfl
@[simp]theorem Ou:bR .int (.lst ds)=false:=rfl
@[simp]theorem JT:bR .bool .non=false:=rfl
@[simp]theorem O4:bR .bool (.bl b)=true:=rfl
@[simp]theorem JH:bR .bool (.int i)=false:=rfl
@[simp]theorem Ke:bR .bool (.str s)=false:=rfl
@[simp]theorem KC:bR .bool (.tup ds)=false:=rfl
@[simp]theorem Ku:bR .bool (.lst ds)=false:=rfl
@[simp]theorem Mz:bR .str .non=false:=rfl
@[simp]theorem RZ:bR .str (.bl b)=false:=rfl
@[simp]theorem Lh:bR .str (.int i)=false:=rfl
@[simp]theorem Nq:bR .str (.str s)=true:=rfl
@[simp]theorem Ol:bR .str (.tup ds)=false:=rfl
@[simp]theorem MP:bR .str (.lst ds)=false:=rfl
@[simp]theorem Il:bR .tuple .non=false:=rfl
@[simp]theorem Ko:bR .tuple (.bl b)=false:=rfl
@[simp]theorem GP:bR .tuple (.int i)=false:=rfl
@[simp]theorem Jr:bR .tuple (.str s)=false:=rfl
@[simp]theorem HR:bR .tuple (.tup ds)=true:=rfl
@[simp]theorem Hb:bR .tuple (.lst ds)=false:=rfl
@[simp]theorem Kf:bR .list .non=false:=rfl
@[simp]theorem Ly:bR .list (.bl b)=false:=rfl
@[simp]theorem Ky:bR .list (.int i)=false:=rfl
@[simp]theorem JK:bR .list (.str s)=false:=rfl
@[simp]theorem JM:bR .list (.tup ds)=false:=rfl
@[simp]theorem J4:bR .list (.lst ds)=true:=rfl
@[simp]theorem JW:bR .none .non=true:=rfl
@[simp]theorem LK:bR .none (.bl b)=false:=rfl
@[simp]theorem Kl:bR .none (.int i)=false:=rfl
@[simp]theorem Kg:bR .none (.str s)=false:=rfl
@[simp]theorem J9:bR .none (.tup ds)=false:=rfl
@[simp]theorem Kr:bR .none (.lst ds)=false:=rfl
@[simp]theorem R6:ie .non=true:=rfl
@[simp]theorem Tn:ie (.bl b)=false:=rfl
@[simp]theorem Q6:ie (.int i)=false:=rfl
@[simp]theorem Rx:ie (.str s)=false:=rfl
@[simp]theorem QL:ie (.tup ds)=false:=rfl
@[simp]theorem Ro:ie (.lst ds)=false:=rfl
@[simp]theorem Ur:flat .non=true:=rfl
@[simp]theorem Wk:flat (.bl b)=true:=rfl
@[simp]theorem tR:flat (.int i)=true:=rfl
@[simp]theorem SN:flat (.str s)=true:=rfl
@[simp]theorem Vp:flat (.tup ds)=false:=rfl
@[simp]theorem Te:flat (.lst ds)=false:=rfl
@[simp]theorem aab:(R.val d).d=d:=rfl
@[simp]theorem YX:(R.own ds).d=.lst ds:=rfl
@[simp]theorem Tg:wR (.val d)=.val false d:=rfl
@[simp]theorem Um:wR (.own ds)=.own false ds:=rfl
@[simp]theorem Rr:uV (.val d)=.dat d:=rfl
@[simp]theorem QT:uV (.own ds)=.tmp ds:=rfl
@[simp]theorem Wl:dW (.int i)=some i:=rfl
@[simp]theorem Zd:RQ (.bl b)=some b:=rfl
@[simp]theorem QS:items (.lst ds)=some ds:=rfl
@[simp]theorem pX:items (.tup ds)=some ds:=rfl
@[simp]theorem O9:Om (.tup ds)=some ds:=rfl
@[simp]theorem Nx:Qo (.lst ds)=some ds:=rfl
@[simp]theorem WX:pD .add=o4:=rfl
@[simp]theorem XR:pD .sub=uw:=rfl
@[simp]theorem Ww:pD .mul=jU:=rfl
@[simp]theorem Tp:pD .fdiv=oO:=rfl
@[simp]theorem XN:pD .mod=vg:=rfl
@[simp]theorem WY:pD .pow=uR:=rfl
@[simp]theorem Rm:o4 (.int i) (.int j)=some (.val (.int (i+j))):=rfl
@[simp]theorem RN:o4 (.lst ds) (.lst es)=if ds.length+es.length<=lim then some (.own (ds++es))else none:=rfl
@[simp]theorem QM:o4 (.tup ds) (.tup es)=if ds.length+es.length<=lim then some (.val (.tup (ds++es)))else none:=rfl
@[simp]theorem Q5:uw (.int i) (.int j)=some (.val (.int (i-j))):=rfl
@[simp]theorem Ry:jU (.int i) (.int j)=if((-18446744073709551616<i/\i<18446744073709551616)\/(-18446744073709551616<j/\j<18446744073709551616))then some (.val (.int (i*j)))else none:=rfl
@[simp]theorem Mj:oO (.int i) (.int j)=if 0<j/\j<1606938044258990275541962092341162602522202993782792835301376 then some (.val (.int (i/j)))else none:=rfl
@[simp]theorem Ru:vg (.int i) (.int j)=if 0<j then some (.val (.int (i%j)))else none:=rfl
@[simp]theorem RK:uR (.int i) (.int j)=if 0<=j/\j<=1000/\i.natAbs<18446744073709551616 then some (.val (.int (i^j.toNat)))else none:=rfl
@[simp]theorem Wj:HX (.lst ds) (.int i)=(at' ds i).map .val:=rfl
@[simp]theorem Yd:HX (.tup ds) (.int i)=(at' ds i).map .val:=rfl
@[simp]theorem Td:Ei (.int i)=some (.val (.int (-i))):=rfl
@[simp]theorem RW:cm .eq (.int i) (.int j)=some (i==j):=rfl
@[simp]theorem R3:cm .ne (.int i) (.int j)=some (!(i==j)):=rfl
@[simp]theorem S8:cm .eq (.bl b) (.bl b')=some (b==b'):=rfl
@[simp]theorem Vb:cm .ne (.bl b) (.bl b')=some (!(b==b')):=rfl
@[simp]theorem QW:cm .lt (.int i) (.int j)=some (decide (i<j)):=rfl
@[simp]theorem RP:cm .le (.int i) (.int j)=some (decide (i<=j)):=rfl
@[simp]theorem Q9:cm .gt (.int i) (.int j)=some (decide (j<i)):=rfl
@[simp]theorem RV:cm .ge (.int i) (.int j)=some (decide (j<=i)):=rfl
@[simp]theorem aa6:cm .isN d .non=some (ie d):=rfl
@[simp]theorem Wg:cm .Jz d .non=some (!ie d):=rfl
@[simp]theorem Ka:blt .len [.lst ds]=some (.val (.int ds.length)):=rfl
@[simp]theorem J3:blt .len [.tup ds]=some (.val (.int ds.length)):=rfl
@[simp]theorem Rw:blt .zx [.lst ds]=if ds.length<=16777216 then some (.own ds)else none:=rfl
@[simp]theorem Hx:blt .list [.lst ds]=some (.own ds):=rfl
@[simp]theorem Ih:blt .list [.tup ds]=some (.own ds):=rfl
@[simp]theorem Gz:blt .tuple [.lst ds]=some (.val (.tup ds)):=rfl
@[simp]theorem Gw:blt .tuple [.tup ds]=some (.val (.tup ds)):=rfl
@[simp]theorem TQ:blt .min2 [.int i,.int j]=some (.val (.int (if j<i then j else i))):=rfl
@[simp]theorem Vt:blt .max2 [.int i,.int j]=some (.val (.int (if i<j then j else i))):=rfl
@[simp]theorem Rb:isVar (.var k)=some k:=rfl
@[simp]theorem Xq:pk (a::l) k=match(a::l)[k]?with|some (.val _ d)=>some d|some (.own _ ds)=>some (.lst ds)|some (.lent ds)=>some (.lst ds)|_=>none:=rfl
@[simp]theorem Uv:wC (a::l) k=match pk (a::l) k with|some (.lst ds)=>some ds|_=>none:=rfl
@[simp]theorem Vh:bK (some k) e ρ=lift (pk ρ k) ρ:=rfl
@[simp]theorem Ss:bK none e ρ=(e ρ).bind λr ρ=>.ok r.d ρ:=rfl
@[simp]theorem QV{y:Option Nat}:jc (some k) e y f ρ=(lift (pk ρ k) ρ).bind λ_ ρ=>(bK y f ρ).bind λy ρ=>(lift (pk ρ k) ρ).bind λx ρ=>.ok (x,y) ρ:=rfl
@[simp]theorem RJ{y:Option Nat}:jc none e y f ρ=(bK none e ρ).bind λx ρ=>(bK y f ρ).bind λy ρ=>.ok (x,y) ρ:=rfl
@[simp]theorem RL{es:List D}:dq (.own b ds) (some (.own b' es))=.own b es:=rfl
@[simp]theorem RX:dq (.own b ds) (some (.val b' d))=.val b d:=rfl
@[simp]theorem Eb:dq a none=a:=by cases a<;>rfl
@[simp]theorem zZ:dq (.val b d) x=.val b d:=by cases x<;>rfl
@[simp]theorem R0:dq .aP x=.aP:=by cases x<;>rfl
@[simp]theorem wj:dq (.lent ds) x=.lent ds:=by cases x<;>rfl
@[simp]theorem S5:bV ρ [k] true d=put ρ k (.val false d):=rfl
@[simp]theorem QR{is:List Nat}:bV ρ is false (.tup ds)=putAll ρ is ds:=by cases is<;>rfl
@[simp]theorem Nz:srcOf none e ρ=(e ρ).bind λr ρ=>lift (items r.d) ρ:=rfl
@[simp]theorem Pa:srcOf (some k) e (a::l)=match(a::l)[k]?with|some (.val _ d)=>lift (items d) (a::l)|some (.own _ ds)=>.ok ds ((a::l).set k (.lent ds))|some (.lent ds)=>.ok ds (a::l)|_=>.stuck:=rfl
@[simp]theorem JZ{g:List Sl}:aX g none ρ=ρ:=rfl
@[simp]theorem J1:aX (a::l) (some k) ρ=match(a::l)[k]?with|some (.own b ds)=>ρ.set k (.own b ds)|_=>ρ:=rfl
@[simp]theorem Sv{s:Sl}:put (a::l) k s=match(a::l)[k]?with|some t=>if fr t=true then some ((a::l).set k s)else none|none=>none:=Qg ..
@[simp]theorem N7:putAll ρ [] []=some ρ:=rfl
@[simp]theorem J2{is:List Nat}:putAll ρ (k::is) (d::ds)=(put ρ k (.val false d)).bind λρ=>putAll ρ is ds:=rfl
end
@[simp]theorem at_0{a:Type}{b:a}{l:List a}:at' (b::l) 0=some b:=by unfold at' gQ;rw[if_pos (by decide),if_pos (by simp only[length_cons];omega)];rfl
@[simp]theorem at_1{a:Type}{e b:a}{l:List a}:at' (e::b::l) 1=some b:=by unfold at' gQ;rw[if_pos (by decide),if_pos (by simp only[length_cons];omega)];rfl
@[simp]theorem at_2{a:Type}{e f b:a}{l:List a}:at' (e::f::b::l) 2=some b:=by unfold at' gQ;rw[if_pos (by decide),if_pos (by simp only[length_cons];omega)];rfl
@[simp]theorem at_3{a:Type}{e f g b:a}{l:List a}:at' (e::f::g::b::l) 3=some b:=by unfold at' gQ;rw[if_pos (by decide),if_pos (by simp only[length_cons];omega)];rfl
@[simp]theorem at_4{a:Type}{e f g h b:a}{l:List a}:at' (e::f::g::h::b::l) 4=some b:=by unfold at' gQ;rw[if_pos (by decide),if_pos (by simp only[length_cons];omega)];rfl
@[simp]theorem at_5{a:Type}{e f g h i b:a}{l:List a}:at' (e::f::g::h::i::b::l) 5=some b:=by unfold at' gQ;rw[if_pos (by decide),if_pos (by simp only[length_cons];omega)];rfl
@[simp]theorem at_6{a:Type}{e f g h i j b:a}{l:List a}:at' (e::f::g::h::i::j::b::l) 6=some b:=by unfold at' gQ;rw[if_pos (by decide),if_pos (by simp only[length_cons];omega)];rfl
@[simp]theorem at_7{a:Type}{e f g h i j k b:a}{l:List a}:at' (e::f::g::h::i::j::k::b::l) 7=some b:=by unfold at' gQ;rw[if_pos (by decide),if_pos (by simp only[length_cons];omega)];rfl
theorem oH{a:Type}{l:List a}{i:Int}(h:0<=i)(h':i<l.length):at' l i=l[i.toNat]?:=by unfold at' gQ;rw[if_pos h,if_pos h'];rfl
theorem Es{a:Type}{l:List a}{k:Nat}(h':k<l.length):at' l (k:Int)=l[k]?:=by rw[oH (by omega) (by omega)];simp
@[simp]theorem QG{d:D}:isVar (.con d)=none:=rfl
@[simp]theorem RD{o:Op}{p q:P}:isVar (.bin o p q)=none:=rfl
@[simp]theorem R7{p:P}:isVar (.neg p)=none:=rfl
@[simp]theorem Rc{p:P}:isVar (.not p)=none:=rfl
@[simp]theorem QZ{p q:P}:isVar (.and p q)=none:=rfl
@[simp]theorem Vf{p q:P}:isVar (.or p q)=none:=rfl
@[simp]theorem QQ{o:Cm}{p q:P}:isVar (.cmp o p q)=none:=rfl
@[simp]theorem Q3{p q r:P}:isVar (.JB p q r)=none:=rfl
@[simp]theorem Q8{as:List P}:isVar (.tup as)=none:=rfl
@[simp]theorem RM{as:List P}:isVar (.lst as)=none:=rfl
@[simp]theorem Ri{p q:P}:isVar (.idx p q)=none:=rfl
@[simp]theorem Km{p q r:P}:isVar (.slice p q r)=none:=rfl
@[simp]theorem Qs{f:Nat}{as:List P}:isVar (.call f as)=none:=rfl
@[simp]theorem R4{b:Lz}{as:List P}:isVar (.blt b as)=none:=rfl
@[simp]theorem Ox{a:List Ty}{p:P}:isVar (.inst a p)=none:=rfl
@[simp]theorem LC{p e:P}{n:Nat}{is:List Nat}{one:Bool}{t:Option P}:isVar (.comp p n is one t e)=none:=rfl
@[simp]theorem Q0{p q:P}:isVar (.qG p q)=none:=rfl
@[simp]theorem RT{p q:P}:isVar (.zip p q)=none:=rfl
noncomputable def lL(c:Call)(is:List Nat)(one:Bool)(a:Option P)(b:P)(ds:List D)(ρ:List Sl):Res (List D):=turns is one (m8 c a) (ev c b) ds [] ρ
@[simp]theorem Wz{c:Call}{src f:P}{n:Nat}{is:List Nat}{one:Bool}{b:Option P}{ρ:List Sl}:ev c (.comp src n is one b f) ρ=(srcOf (isVar src) (ev c src) ρ).bind λds a=>if ds.length<=lim then(lL c is one b f ds (a++replicate n .aP)).bind λxs e=>.ok (.own xs) (aX ρ (isVar src) (e.take a.length))else .stuck:=(rfl)
noncomputable def Dq(c:Call)(n:Nat)(t:P)(body:List S)(k:Nat)(ρ:List Sl):Res Fl:=pF (iR (ev c t)) (fX c n body) k ρ
@[simp]theorem YM{c:Call}{n:Nat}{t:P}{body:List S}{ρ:List Sl}:ex c n (.whl t body) ρ=Dq c n t body n ρ:=(rfl)
theorem qO{b e h:Type}{x:Res e}{f:e->List Sl->Res b}{g:b->List Sl->Res h}:(x.bind f).bind g=x.bind λa ρ=>(f a ρ).bind g:=by cases x<;>rfl
@[simp]theorem aau{Γ:Tab}{w n i:Nat}{args:List Sl}{b:Type}{f:R->List Sl->Res b}{Q:b->List Sl->Prop}:((run Γ w n i args).bind f).sat Q=(run Γ w n i args).sat λa ρ=>(f a ρ).sat Q:=bz
@[simp]theorem Z7{Γ:Tab}{w n i:Nat}{args:List Sl}{b e:Type}{f:R->List Sl->Res b}{g:b->List Sl->Res e}:((run Γ w n i args).bind f).bind g=(run Γ w n i args).bind λa ρ=>(f a ρ).bind g:=qO
@[simp]theorem Xx{c:Call}{is:List Nat}{one:Bool}{b:Option P}{e:P}{ds:List D}{ρ:List Sl}{g:Type}{f:List D->List Sl->Res g}{Q:g->List Sl->Prop}:((lL c is one b e ds ρ).bind f).sat Q=(lL c is one b e ds ρ).sat λa ρ=>(f a ρ).sat Q:=bz
@[simp]theorem Ws{c:Call}{is:List Nat}{one:Bool}{b:Option P}{e:P}{ds:List D}{ρ:List Sl}{h i:Type}{f:List D->List Sl->Res h}{g:h->List Sl->Res i}:((lL c is one b e ds ρ).bind f).bind g=(lL c is one b e ds ρ).bind λa ρ=>(f a ρ).bind g:=qO
@[simp]theorem Ze{is:List Nat}{one:Bool}{b:List Sl->Res Fl}{ds:List D}{ρ:List Sl}{e:Type}{f:Fl->List Sl->Res e}{Q:e->List Sl->Prop}:((fU is one b ds ρ).bind f).sat Q=(fU is one b ds ρ).sat λa ρ=>(f a ρ).sat Q:=bz
@[simp]theorem XQ{b e:Type}{p:Prop}[Decidable p]{a:e}{ρ:List Sl}{f:e->List Sl->Res b}{Q:b->List Sl->Prop}:((lift (if p then some a else none) ρ).bind f).sat Q=(p/\(f a ρ).sat Q):=by by_cases h:p<;>simp[h,lift,Res.bind]
@[simp]theorem WW{b e h:Type}{p:Prop}[Decidable p]{a:e}{ρ:List Sl}{f:e->List Sl->Res b}{g:b->List Sl->Res h}:((lift (if p then some a else none) ρ).bind f).bind g=(lift (if p then some a else none) ρ).bind λa ρ=>(f a ρ).bind g:=qO
@[simp]theorem bb_ite{b a:Type}{p:Prop}[Decidable p]{x y:Res a}{f:a->List Sl->Res b}:(if p then x else y).bind f=if p then x.bind f else y.bind f:=by by_cases h:p<;>simp[h]
@[simp]theorem Z9{c:Call}{n k:Nat}{t:P}{b:List S}{ρ:List Sl}{e:Type}{f:Fl->List Sl->Res e}{Q:e->List Sl->Prop}:((Dq c n t b k ρ).bind f).sat Q=(Dq c n t b k ρ).sat λa ρ=>(f a ρ).sat Q:=bz
@[simp]theorem aaP{b e:Type}{a:b}{ρ:List Sl}{f:b->List Sl->Res e}:(Res.ok a ρ).bind f=f a ρ:=rfl
@[simp]theorem Rq{a b:Type}{f:a->List Sl->Res b}:(Res.stuck:Res a).bind f=.stuck:=rfl
@[simp]theorem SJ{b:Type}{a:b}{ρ:List Sl}:lift (some a) ρ=.ok a ρ:=rfl
@[simp]theorem Uh{a:Type}{ρ:List Sl}:lift (none:Option a) ρ=.stuck:=rfl
noncomputable def zV:List Sl->Nat->Sl->List Sl|[],_,_=>[]|t::ρ,0,s=>dq t (some s)::ρ|t::ρ,k+1,s=>t::zV ρ k s
noncomputable def bk:List Arg->List Sl->List Sl->List Sl|.dI k::as,s::ss,ρ=>bk as ss (zV ρ k s)|.dat _::as,_::ss,ρ=>bk as ss ρ|.tmp _::as,_::ss,ρ=>bk as ss ρ|_,_,ρ=>ρ
section
variable{t s:Sl}{ρ ss:List Sl}{k:Nat}{as:List Arg}{d:D}{ds:List D}
@[simp]theorem abR:zV (t::ρ) 0 s=dq t (some s)::ρ:=rfl
@[simp]theorem acu:zV (t::ρ) (k+1) s=t::zV ρ k s:=rfl
@[simp]theorem M4:bk (.dI k::as) (s::ss) ρ=bk as ss (zV ρ k s):=rfl
@[simp]theorem PL:bk (.dat d::as) (s::ss) ρ=bk as ss ρ:=rfl
@[simp]theorem Px:bk (.tmp ds::as) (s::ss) ρ=bk as ss ρ:=rfl
@[simp]theorem aaK:bk [] ss ρ=ρ:=rfl
end
theorem vU{s:Sl}:∀{ρ:List Sl}{k j:Nat},(zV ρ k s)[j]?=(ρ[j]?).map λt=>if j=k then dq t (some s)else t|[],_,_=>by simp[zV]|t::ρ,0,0=>by simp[zV]|t::ρ,0,j+1=>by simp[zV]|t::ρ,k+1,0=>by simp[zV]|t::ρ,k+1,j+1=>by have:=vU (s:=s) (ρ:=ρ) (k:=k) (j:=j);simp only[zV,List.getElem?_cons_succ,this];congr 1;funext t;simp
theorem uX{as:List Arg}{ss:List Sl}:∀{ρ:List Sl}{i j:Nat},(cB as ss i ρ)[j]?=(ρ[j]?).map λt=>dq t (aN (i+j) as ss)|[],_,_=>by simp[cB]|t::ρ,i,0=>by simp[cB]|t::ρ,i,j+1=>by have:=uX (as:=as) (ss:=ss) (ρ:=ρ) (i:=i+1) (j:=j);simp only[cB,List.getElem?_cons_succ,this];rw[show i+1+j=i+(j+1)by omega]
def stb(t:Sl):Prop:=∀x,dq t x=t
def Oa(ρ:List Sl):List Arg->Prop|[]=>True|.dI k::as=>(Arg.dI k∈as->∀t,ρ[k]?=some t->stb t)/\Oa ρ as|_::as=>Oa ρ as
theorem mZ{ρ:List Sl}:∀{as:List Arg}{a:List Sl},Oa ρ as->(∀k,Arg.dI k∈as->∀t,a[k]?=some t->ρ[k]?=some t\/stb t)->Oa a as
 |[],_,_,_=>trivial|.dI k::as,a,h,g=>⟨λf t ht=>by
  rcases g k (by simp) t ht with e|e;.exact h.1 f t e
  .exact e,mZ h.2 λj b=>g j (by simp[b])⟩|.dat _::as,a,h,g=>mZ (as:=as) h λj b=>g j (by simp[b])|.tmp _::as,a,h,g=>mZ (as:=as) h λj b=>g j (by simp[b])
theorem jM{k:Nat}:∀{as:List Arg}{ss:List Sl},Arg.dI k∉as->aN k as ss=none|[],_,_=>by unfold aN;rfl|.dI j::as,[],_=>rfl|.dat _::as,[],_=>rfl|.tmp _::as,[],_=>rfl|.dI j::as,s::ss,h=>by simp only[mem_cons,Arg.dI.injEq,not_or]at h;rw[aN,if_neg (λe=>h.1 e.symm),jM h.2]|.dat _::as,s::ss,h=>by simp only[mem_cons,not_or]at h;rw[aN,jM h.2]|.tmp _::as,s::ss,h=>by simp only[mem_cons,not_or]at h;rw[aN,jM h.2]
theorem zp:∀{as:List Arg}{ss ρ:List Sl},Oa ρ as->∀j,(bk as ss ρ)[j]?=(ρ[j]?).map λt=>dq t (aN j as ss)
 |[],ss,ρ,_,j=>by cases ss<;>simp[aN]|.dI k::as,[],ρ,_,j=>by rw[show bk (.dI k::as) [] ρ=ρ from rfl];simp[aN]|.dat d::as,[],ρ,_,j=>by rw[show bk (.dat d::as) [] ρ=ρ from rfl];simp[aN]|.tmp d::as,[],ρ,_,j=>by rw[show bk (.tmp d::as) [] ρ=ρ from rfl];simp[aN]|.dat _::as,s::ss,ρ,h,j=>by rw[PL,aN];exact zp (as:=as) h j|.tmp _::as,s::ss,ρ,h,j=>by rw[Px,aN];exact zp (as:=as) h j|.dI k::as,s::ss,ρ,h,j=>by
   have b:Oa (zV ρ k s) as:=mZ h.2 λi hi t ht=>by rw[vU]at ht;cases e:ρ[i]?with|none=>rw[e]at ht;cases ht|some t0=>
      rw[e]at ht;by_cases c:i=k;.subst c;have hs:=h.1 hi t0 e;simp[hs (some s)]at ht;exact .inl (by rw[ht])
      .simp[c]at ht;exact .inl (by rw[ht])
   rw[M4,zp b j,vU,aN];cases e:ρ[j]?with|none=>rfl|some t0=>
     simp only[Option.map_some];by_cases c:j=k
     . subst c;rw[if_pos rfl,if_pos rfl];by_cases a:Arg.dI j∈as;.have hs:=h.1 a t0 e;rw[hs (some s),hs]
       .rw[jM a,Eb]
     .rw[if_neg c,if_neg (λz=>c z.symm)]
theorem dZ{ρ:List Sl}{k:Nat}{b:Bool}{ds:List D}(e:ρ[k]?=some (.own b ds)):∀{as:List Arg}{u:List Nat}{r:List Sl},k∈u->bA ρ as u=some r->Arg.dI k∉as
 |[],_,_,_,_=>by simp|.dat _::as,u,r,a,h=>by simp only[bA,map_eq_some_iff]at h;obtain⟨f,h,_⟩:=h;simp[dZ e a h]|.tmp _::as,u,r,a,h=>by simp only[bA,map_eq_some_iff]at h;obtain⟨f,h,_⟩:=h;simp[dZ e a h]|.dI i::as,u,r,a,h=>by
   rw[bA]at h;have hi:i≠k:=by rintro rfl;rw[e]at h;simp[a]at h
   have:Arg.dI k∉as:=by
    split at h;.obtain⟨f,h,_⟩:=map_eq_some_iff.mp h;exact dZ e a h
    . split at h;.cases h
      .obtain⟨f,h,_⟩:=map_eq_some_iff.mp h;exact dZ e (by simp[a]) h
    . split at h;.cases h
      .obtain⟨f,h,_⟩:=map_eq_some_iff.mp h;exact dZ e (by simp[a]) h
    .cases h
   simp[this];exact λz=>hi z.symm
theorem dY{ρ:List Sl}:∀{as:List Arg}{u:List Nat}{r:List Sl},bA ρ as u=some r->Oa ρ as
 |[],_,_,_=>trivial|.dat _::as,u,r,h=>by obtain⟨a,h,_⟩:=map_eq_some_iff.mp h;exact dY (as:=as) h|.tmp _::as,u,r,h=>by obtain⟨a,h,_⟩:=map_eq_some_iff.mp h;exact dY (as:=as) h|.dI i::as,u,r,h=>by
   rw[bA]at h;split at h;.rename_i b d q;obtain⟨a,h,_⟩:=map_eq_some_iff.mp h;exact⟨λ_ t ht=>by rw[q]at ht;cases ht;exact λx=>zZ,dY h⟩
   . rename_i b ds q;split at h;.cases h
     .obtain⟨a,h,_⟩:=map_eq_some_iff.mp h;exact⟨λe=>absurd e (dZ q (by simp) h),dY h⟩
   . rename_i ds q;split at h;.cases h
     .obtain⟨a,h,_⟩:=map_eq_some_iff.mp h;exact⟨λ_ t ht=>by rw[q]at ht;cases ht;exact λx=>wj,dY h⟩
   .cases h
theorem Vq{as:List Arg}{ss r:List Sl}{u:List Nat}(h:bA ρ as u=some r):cB as ss 0 ρ=bk as ss ρ:=by apply List.ext_getElem?;intro j;rw[uX,zp (dY h),Nat.zero_add]
@[simp]theorem R1{c:Call}{k:Nat}{as:List Arg}{ρ:List Sl}:m7 c k as ρ=match bA ρ as []with|none=>.stuck|some args=>(c k args).bind λr a=>.ok r (bk as a ρ):=by unfold m7;cases e:bA ρ as []with|none=>rfl|some args=>simp only[<-Vq (r:=args) e];cases c k args<;>rfl
theorem gn{one:Bool}{a:P}(J:List Sl->Prop)(g:D->D){Q:List D->List Sl->Prop}(j:J ρ)(h:∀d,d∈ds->∀ρ,J ρ->∃b,bV ρ is one d=some b/\(ev c a b).sat λr e=>g d=r.d/\J e)(k:∀ρ,J ρ->Q (ds.map g) ρ):(lL c is one none a ds ρ).sat Q:=wG J g j h k
theorem lA{one:Bool}{i t:P}(J:List Sl->Prop)(g:D->Option D){Q:List D->List Sl->Prop}(j:J ρ)(h:∀d,d∈ds->∀ρ,J ρ->∃a,bV ρ is one d=some a/\(ev c t a).sat λr f=>∃b,r.d=.bl b/\if b=true then(ev c i f).sat λr l=>g d=some r.d/\J l else g d=none/\J f)(k:∀ρ,J ρ->Q (ds.filterMap g) ρ):(lL c is one (some t) i ds ρ).sat Q:=iV J g j (λd hd ρ j=>by obtain⟨a,e,h1⟩:=h d hd ρ j;refine⟨a,e,?_⟩;rw[m8,iR,bz];refine h1.imp λr f⟨b,e,q⟩=>?_;rw[e];exact q) λρ j=>by simpa using k ρ j
theorem ik{c:Call}{n:Nat}{t:P}{body:List S}(J:Nat->List Sl->Prop){Q:Fl->List Sl->Prop}(h:∀m ρ,J m ρ->(ev c t ρ).sat λr a=>∃b,r.d=.bl b/\if b=true then(fX c n body a).sat (fQ (λf=>∃g,g<m/\J g f) Q)else Q .next a):∀{k m:Nat}{ρ:List Sl},m<k->J m ρ->(Dq c n t body k ρ).sat Q|0,m,ρ,i,_=>absurd i (Nat.not_lt_zero _)|k+1,m,ρ,i,j=>by unfold Dq;rw[pF,bz,iR,bz];refine(h m ρ j).imp λr a⟨b,e,q⟩=>?_;rw[e];show(if b=true then _ else _:Res Fl).sat Q;cases b with|false=>rw[if_neg (by simp)]at q;rw[if_neg (by simp)];exact q|true=>rw[if_pos rfl]at q;rw[if_pos rfl,bz];refine q.imp λfl f q=>?_;cases fl with|next=>obtain⟨g,l,o⟩:=q;exact ik J h (lt_of_lt_of_le l (Nat.lt_succ_iff.mp i)) o|cont=>obtain⟨g,l,o⟩:=q;exact ik J h (lt_of_lt_of_le l (Nat.lt_succ_iff.mp i)) o|brk=>exact q|ret v=>exact q
@[simp]theorem ab4:type_of%@HH.E1:=@HH.E1
@[simp]theorem acs:type_of%@HH.E2:=@HH.E2
@[simp]theorem aci:type_of%@HH.E3:=@HH.E3
@[simp]theorem ab5:type_of%@HH.E4:=@HH.E4
@[simp]theorem abS:type_of%@HH.E5:=@HH.E5
@[simp]theorem ab6:type_of%@HH.E6:=@HH.E6
@[simp]theorem acq:type_of%@HH.E7:=@HH.E7
@[simp]theorem abQ:type_of%@HH.E8:=@HH.E8
@[simp]theorem Zx:type_of%@HH.E9:=@HH.E9
@[simp]theorem ZG:type_of%@HH.E10:=@HH.E10
@[simp]theorem Z2:type_of%@HH.E11:=@HH.E11
@[simp]theorem Z6:type_of%@HH.E12:=@HH.E12
@[simp]theorem aao:type_of%@HH.E13:=@HH.E13
@[simp]theorem Z5:type_of%@HH.E14:=@HH.E14
@[simp]theorem aar:type_of%@HH.E15:=@HH.E15
@[simp]theorem aaZ:type_of%@HH.E16:=@HH.E16
@[simp]theorem Xb:type_of%@HH.Vr:=@HH.Vr
@[simp]theorem aa5:type_of%@HH.E17:=@HH.E17
@[simp]theorem aa3:type_of%@HH.E19:=@HH.E19
@[simp]theorem Zv:type_of%@HH.E20:=@HH.E20
@[simp]theorem ace:type_of%@HH.X1:=@HH.X1
@[simp]theorem ack:type_of%@HH.X2:=@HH.X2
@[simp]theorem acr:type_of%@HH.X3:=@HH.X3
@[simp]theorem acg:type_of%@HH.X4:=@HH.X4
@[simp]theorem ab7:type_of%@HH.X5:=@HH.X5
@[simp]theorem abT:type_of%@HH.X6:=@HH.X6
@[simp]theorem abZ:type_of%@HH.X7:=@HH.X7
@[simp]theorem acy:type_of%@HH.X8:=@HH.X8
@[simp]theorem Z3:type_of%@HH.X9:=@HH.X9
@[simp]theorem aay:type_of%@HH.Yk:=@HH.Yk
@[simp]theorem Zt:type_of%@HH.X11:=@HH.X11
@[simp]theorem Y0:type_of%@HH.Xk:=@HH.Xk
@[simp]theorem ZL:type_of%@HH.X13:=@HH.X13
@[simp]theorem aaj:type_of%@HH.iR.eq_1:=@HH.iR.eq_1
@[simp]theorem aaI:type_of%@HH.evs.eq_1:=@HH.evs.eq_1
@[simp]theorem ZS:type_of%@HH.evs.eq_2:=@HH.evs.eq_2
@[simp]theorem aa0:type_of%@HH.vB.eq_1:=@HH.vB.eq_1
@[simp]theorem aag:type_of%@HH.vB.eq_2:=@HH.vB.eq_2
@[simp]theorem aam:type_of%@HH.m8.eq_1:=@HH.m8.eq_1
@[simp]theorem ZF:type_of%@HH.m8.eq_2:=@HH.m8.eq_2
@[simp]theorem aaH:type_of%@HH.uE.eq_1:=@HH.uE.eq_1
@[simp]theorem Vz:type_of%@HH.bA.eq_1:=@HH.bA.eq_1
@[simp]theorem T8:type_of%@HH.bA.eq_2:=@HH.bA.eq_2
@[simp]theorem Vl:type_of%@HH.bA.eq_3:=@HH.bA.eq_3
@[simp]theorem S9:type_of%@HH.bA.eq_4:=@HH.bA.eq_4
@[simp]theorem Tj:type_of%@HH.cB.eq_1:=@HH.cB.eq_1
@[simp]theorem Vn:type_of%@HH.cB.eq_2:=@HH.cB.eq_2
@[simp]theorem UJ:type_of%@HH.aN.eq_1:=@HH.aN.eq_1
@[simp]theorem T4:type_of%@HH.aN.eq_2:=@HH.aN.eq_2
@[simp]theorem TY:type_of%@HH.aN.eq_3:=@HH.aN.eq_3
@[simp]theorem Ut:type_of%@HH.aN.eq_4:=@HH.aN.eq_4
end HH
end
section
namespace HH
open PySem L2 PySem.Spec PyProof.Rows
variable{H:Hp}
section
variable{X:Cx}{c:Call}{a b:Expr}{pa pb:P}{pos:Pos}
theorem jA:∀{e:List D}{ns:List Int},e.mapM dW=some ns->e=ns.map D.int|[],ns,h=>by simp at h;subst h;rfl|d::e,ns,h=>by simp[List.mapM_cons,Option.bind_eq_some_iff]at h;obtain⟨i,f,j,g,rfl⟩:=h;rw[cF f,jA g];rfl
theorem gj{K:PySem.W.Frag}{F:Hp}:∀{ns:List Int}{ys:List V},aB K F ys (ns.map D.int)->ys=ns.map V.int|[],ys,h=>by rw[h.dO];rfl|n::ns,ys,h=>by obtain⟨v,r,rfl,h1,t⟩:=h.bO;rw[Rep]at h1;rw[h1,gj t];rfl
theorem jZ{ns:List Int}{f:List Value}(h:Vals (ns.map V.int) f){i:Nat}{v:Value}(e:f.toArray[i]?=some v):∃t,v=.int (ns.getD i 0) t:=by
 have e:f[i]?=some v:=by simpa using e
 have hi:i<f.length:=(dw e).1;have k:=h.length;rw[length_map]at k;have g:(ns.map V.int)[i]?=some (.int (ns.getD i 0)):=by rw[getElem?_map,getElem?_eq_getElem (by omega)];simp[List.getD,show i<ns.length by omega]
 obtain⟨w,j,l⟩:=h.get g;rw[e]at j;cases j;exact l
theorem walked{h:List (Addr×Obj)}{σ:L2.St}{s:Shared}{p:Addr}{ys:List V}(I:L2.Inv X h σ H s)(hc:X.calm=true)(hq:dJ X.K H p ys\/jg X.K H p ys){Q:Value->Shared->Prop}{E:Value->Shared->Prop}(k:∀(it:Addr)(g:List Value)(e:Shared)(St:Nat->Heap->Prop),Vals ys g->Walks X.prog X.w X.A.in1 it [it,p] [it] g.toArray.size (λi v=>g.toArray[i]?=some v) St->St 0 e.heap->(∀ b ∈[it,p],b<e.heap.objs.size)->(∀h' m,(∀b o,b∉[it]->e.heap.get? b=some o->h'.get? b=some o)->L2.Inv X h σ H {e with heap:=h',toks:=m})->Q (.ref it) e):wpAny (model X.prog X.w) X.A.in1 (pyIter (.ref p)) Q E s:=by
 have r:X.A.in1.handled=none:=I.ok.hd hc;rcases hq with hq|hq
 . obtain⟨g,n,f,hz⟩:=I.list hq;have f:=f.isList;have j:p<s.heap.objs.size:=by obtain⟨o,h1,_⟩:=f;exact lt_size h1
   refine wpAny_pyIter_list f (k s.heap.objs.size g _ _ n (Walks.list r s.heap.objs.size p (ne_of_lt j) g.toArray) ⟨⟨_,get?_push_size _ rfl,rfl,rfl⟩,?_⟩ ?_ λh' m kp=>?_);.obtain⟨o,h1,q⟩:=f;exact⟨o,gb h1,q⟩
   . intro b l;obtain⟨o,h1,_⟩:=f;simp at l;rcases l with rfl|rfl;.exact lt_size (get?_push_size _ rfl)
     .exact lt_size (gb h1)
   .exact I.kept (λb o z=>kp b o (by simp;exact ne_of_lt (lt_size z)) (gb z))
 . obtain⟨g,n,f,hz⟩:=I.tuple hq;have j:p<s.heap.objs.size:=by obtain⟨o,h1,_⟩:=f;exact lt_size h1
   refine wpAny_pyIter_tuple f (k s.heap.objs.size g _ _ n (Walks.tuple r s.heap.objs.size p (ne_of_lt j) g.toArray) ⟨⟨_,get?_push_size _ rfl,rfl,rfl⟩,?_⟩ ?_ λh' m kp=>?_);.obtain⟨o,h1,q⟩:=f;exact⟨o,gb h1,q⟩
   . intro b l;obtain⟨o,h1,_⟩:=f;simp at l;rcases l with rfl|rfl;.exact lt_size (get?_push_size _ rfl)
     .exact lt_size (gb h1)
   .exact I.kept (λb o z=>kp b o (by simp;exact ne_of_lt (lt_size z)) (gb z))
theorem lK(ns:List Int):∀k,k<=ns.length->preSum (λi=>ns.getD i 0) k=(ns.take k).sum|0,_=>by simp[preSum]|k+1,h=>by rw[preSum,lK ns k (by omega),List.take_succ,List.sum_append];simp[List.getD,show k<ns.length by omega]
theorem UG(hc:X.calm=true):dj X (.builtin "sum") (J6 X.K λx=>blt .sum [x]):=by
 rintro g s σ H xs h Q I r⟨x,o,F,d,q,sm,t,he,k⟩;obtain⟨ns,w,he⟩:=map_some (show((items d).bind λj=>j.mapM dW).map _=some q from he);subst he;obtain⟨j,y,z⟩:=bB w;obtain⟨p,ys,rfl,A,l⟩:=t.items sm y;rw[jA z]at l;have B:=gj l;subst o;obtain⟨u,rfl,C⟩:=r.one;cases C;refine call_sum_walkG (walked I hc A λit h m St n W h0 E kp=>?_);subst B;have f:h.toArray.size=ns.length:=by rw[size_toArray,<-n.length,length_map]
 refine⟨it,_,_,_,_,St,λi=>ns.getD i 0,rfl,W,h0,E,λi v e=>jZ n e,λh' G t' J=>?_⟩;rw[f,lK ns _ (cL),List.take_length];exact⟨.int _,H,kp h' G J,⟨t',rfl⟩,bG.cj sm (bC _) k⟩
theorem Bk{ns:List Int}{m:Int}(k:ns.min?=some m):ns.getD (argBest (λi j=>decide (ns.getD i 0<ns.getD j 0)) (ns.length-1)) 0=m:=by
 have h:ns≠[]:=by rintro rfl;simp at k
 have r:0<ns.length:=List.length_pos_iff.mpr h;obtain⟨h1,n⟩:=argBest_lt (λi=>ns.getD i 0) (ns.length-1);have l:=List.min?_eq_some_iff.mp k;generalize argBest (λi j=>decide (ns.getD i 0<ns.getD j 0)) (ns.length-1)=j at*;have o:j<ns.length:=by omega
 have f:ns.getD j 0∈ns:=by simp[List.getD,o]
 obtain⟨q,p,e⟩:=List.getElem_of_mem l.1;have g:=n q (by omega);simp only[List.getD,getElem?_eq_getElem p,getD_some]at g;rw[e]at g;have s:=l.2 _ f;have g:ns.getD j 0<=m:=g;omega
theorem Eo{ns:List Int}{m:Int}(k:ns.max?=some m):ns.getD (argBest (λi j=>decide (ns.getD i 0>ns.getD j 0)) (ns.length-1)) 0=m:=by
 have h:ns≠[]:=by rintro rfl;simp at k
 have r:0<ns.length:=List.length_pos_iff.mpr h;obtain⟨h1,n⟩:=argBest_gt (λi=>ns.getD i 0) (ns.length-1);have l:=List.max?_eq_some_iff.mp k;generalize argBest (λi j=>decide (ns.getD i 0>ns.getD j 0)) (ns.length-1)=j at*;have o:j<ns.length:=by omega
 have f:ns.getD j 0∈ns:=by simp[List.getD,o]
 obtain⟨q,p,e⟩:=List.getElem_of_mem l.1;have g:=n q (by omega);simp only[List.getD,getElem?_eq_getElem p,getD_some]at g;rw[e]at g;have s:=l.2 _ f;have g:m<=ns.getD j 0:=g;omega
theorem Nm(hc:X.calm=true):dj X (.builtin "min") (J6 X.K λx=>blt .xg [x]):=by
 rintro j s σ H xs l Q I r⟨x,z,F,d,A,sm,B,he,k⟩;obtain⟨ns,C,he⟩:=bB (show((items d).bind λn=>n.mapM dW).bind _=some A from he);obtain⟨m,o,he⟩:=map_some he;subst he;obtain⟨n,E,G⟩:=bB C;obtain⟨p,ys,rfl,J,q⟩:=B.items sm E;rw[jA G]at q;have L:=gj q;subst z;obtain⟨u,rfl,M⟩:=r.one;cases M;refine call_min_walk (walked I hc J λit l w St h W h0 N kp=>?_);subst L;have f:l.toArray.size=ns.length:=by rw[size_toArray,<-h.length,length_map]
 have g:0<ns.length:=by cases ns with|nil=>simp at o|cons _ _=>simp
 refine⟨it,_,_,_,_,St,_,rfl,W,h0,N,by rw[f];exact g,CmpOf.ints_lt (λi=>ns.getD i 0) (λi v e=>jZ h e),λv h' O y U=>?_⟩;rw[f]at y;obtain⟨t,rfl⟩:=jZ h y;rw[Bk o];exact⟨.int _,H,kp h' O U,⟨t,rfl⟩,bG.cj sm (bC _) k⟩
theorem Mg(hc:X.calm=true):dj X (.builtin "max") (J6 X.K λx=>blt .Gd [x]):=by
 rintro j s σ H xs l Q I r⟨x,z,F,d,A,sm,B,he,k⟩;obtain⟨ns,C,he⟩:=bB (show((items d).bind λn=>n.mapM dW).bind _=some A from he);obtain⟨m,o,he⟩:=map_some he;subst he;obtain⟨n,E,G⟩:=bB C;obtain⟨p,ys,rfl,J,q⟩:=B.items sm E;rw[jA G]at q;have L:=gj q;subst z;obtain⟨u,rfl,M⟩:=r.one;cases M;refine call_max_walk (walked I hc J λit l w St h W h0 N kp=>?_);subst L;have f:l.toArray.size=ns.length:=by rw[size_toArray,<-h.length,length_map]
 have g:0<ns.length:=by cases ns with|nil=>simp at o|cons _ _=>simp
 refine⟨it,_,_,_,_,St,_,rfl,W,h0,N,by rw[f];exact g,CmpOf.ints_gt (λi=>ns.getD i 0) (λi v e=>jZ h e),λv h' O y U=>?_⟩;rw[f]at y;obtain⟨t,rfl⟩:=jZ h y;rw[Eo o];exact⟨.int _,H,kp h' O U,⟨t,rfl⟩,bG.cj sm (bC _) k⟩
theorem boot_sum:bootBuiltins "sum"=some (.builtin "sum"):=by decide+kernel
theorem Du{x:Str}{e:Pos}(f:x="sum")(hc:X.calm=true)(g:Gl X x)(i:X.mg x=none)(j:SX X c a pa)(hs:starEach [a] X.env=(false,eval a X.env)::starEach [] X.env:=by rfl):SX X c (.Call (.Name x e) [a] [] pos) (.blt .sum [pa]):=by subst f;exact oZ (λh=>dC (UG hc) g i boot_sum h (he:=hs)) j (λρ=>rfl) rfl hs
theorem yg{x:Str}{e:Pos}(f:x="min")(hc:X.calm=true)(g:Gl X x)(i:X.mg x=none)(j:SX X c a pa)(hs:starEach [a] X.env=(false,eval a X.env)::starEach [] X.env:=by rfl):SX X c (.Call (.Name x e) [a] [] pos) (.blt .xg [pa]):=by subst f;exact oZ (λh=>dC (Nm hc) g i boot_min h (he:=hs)) j (λρ=>rfl) rfl hs
theorem Jd{x:Str}{e:Pos}(f:x="max")(hc:X.calm=true)(g:Gl X x)(i:X.mg x=none)(j:SX X c a pa)(hs:starEach [a] X.env=(false,eval a X.env)::starEach [] X.env:=by rfl):SX X c (.Call (.Name x e) [a] [] pos) (.blt .Gd [pa]):=by subst f;exact oZ (λh=>dC (Mg hc) g i boot_max h (he:=hs)) j (λρ=>rfl) rfl hs
theorem vY{K:PySem.W.Frag}{F H:Hp}{v:V}{d:D}(h:cg K F H v d)(f:flat d=true):ji v=true:=by cases d with|non=>rw[h.non];rfl|bl _=>rw[h.bl];rfl|int _=>rw[h.int];rfl|str _=>rw[h.str];rfl|tup _=>cases f|lst _=>cases f|cH _=>cases f|dv _ _=>cases f
theorem ZC{K:PySem.W.Frag}{F H:Hp}{v u:V}{d e:D}(h:cg K F H v d)(h':cg K F H u e)(f:flat d=true)(g:flat e=true):G8 v u=jd d e:=by cases d with
 |tup _=>cases f|lst _=>cases f|cH _=>cases f|dv _ _=>cases f|non=>rw[h.non];cases e with|tup _=>cases g|lst _=>cases g|cH _=>cases g|dv _ _=>cases g|non=>rw[h'.non];rfl|bl _=>rw[h'.bl];rfl|int _=>rw[h'.int];rfl|str _=>rw[h'.str];rfl
 |bl _=>rw[h.bl];cases e with|tup _=>cases g|lst _=>cases g|cH _=>cases g|dv _ _=>cases g|non=>rw[h'.non];rfl|bl _=>rw[h'.bl];rfl|int _=>rw[h'.int];rfl|str _=>rw[h'.str];rfl
 |int _=>rw[h.int];cases e with|tup _=>cases g|lst _=>cases g|cH _=>cases g|dv _ _=>cases g|non=>rw[h'.non];rfl|bl _=>rw[h'.bl];rfl|int _=>rw[h'.int];rfl|str _=>rw[h'.str];rfl
 |str _=>rw[h.str];cases e with|tup _=>cases g|lst _=>cases g|cH _=>cases g|dv _ _=>cases g|non=>rw[h'.non];rfl|bl _=>rw[h'.bl];rfl|int _=>rw[h'.int];rfl|str _=>rw[h'.str];rfl
theorem Mr{K:PySem.W.Frag}{F H:Hp}{v:V}{d:D}(h:cg K F H v d)(f:flat d=true):∀{i:List D}{vs:List V},aB K F vs i->i.all flat=true->vs.all ji=true/\inV v vs=i.any λy=>jd y d|[],vs,r,_=>by rw[r.dO];exact⟨rfl,rfl⟩|e::i,vs,r,g=>by obtain⟨w,ws,rfl,h1,t⟩:=r.bO;rw[all_cons,and_eq_true]at g;obtain⟨k,j⟩:=Mr h f t g.2;have q:cg K F H w e:=.inl h1;refine⟨by rw[all_cons,vY q g.1,k];rfl,?_⟩;unfold inV at j ⊢;rw[any_cons,any_cons,j,ZC q h g.1 f]
theorem yp:fH X (compareOp .In) (rD X.K (uE .inn)):=by rintro f s σ H x y v u Q I i j⟨F,d,e,r,sm,h,l,he,k⟩;obtain⟨t,m,n⟩:=map_some (show(uI false d e).map _=some r from he);subst n;obtain⟨E,o,q⟩:=bB m;obtain⟨g,w⟩:=aO q;rw[and_eq_true]at g;obtain⟨p,xs,rfl,z,A⟩:=l.items sm o;obtain⟨B,C⟩:=Mr h g.1 A g.2;subst w;refine Aq f s σ H x _ v u Q I i j ⟨p,xs,rfl,z,vY h g.1,B,?_⟩;rw[C];exact bG.cj sm (fO _) k
theorem Ar:fH X (compareOp .NotIn) (rD X.K (uE .zu)):=by rintro f s σ H x y v u Q I i j⟨F,d,e,r,sm,h,l,he,k⟩;obtain⟨t,m,n⟩:=map_some (show(uI true d e).map _=some r from he);subst n;obtain⟨E,o,q⟩:=bB m;obtain⟨g,w⟩:=aO q;rw[and_eq_true]at g;obtain⟨p,xs,rfl,z,A⟩:=l.items sm o;obtain⟨B,C⟩:=Mr h g.1 A g.2;subst w;refine sH f s σ H x _ v u Q I i j ⟨p,xs,rfl,z,vY h g.1,B,?_⟩;rw[C];exact bG.cj sm (fO _) k
end
end HH
end
section
namespace HH
open PySem
section
variable{i j:Int}{ds es:List D}{d:D}{b b':Bool}
@[simp]theorem W0:pD .shl=CK:=rfl
@[simp]theorem Wm:pD .shr=Bq:=rfl
@[simp]theorem Uo:pD .band=wM:=rfl
@[simp]theorem Rg:CK (.int i) (.int j)=if 0<=j/\j<=1000/\i.natAbs<18446744073709551616 then some (.val (.int (i*2^j.toNat)))else none:=rfl
@[simp]theorem RB:Bq (.int i) (.int j)=if 0<=j then some (.val (.int (i/2^j.toNat)))else none:=rfl
@[simp]theorem Nr:wM (.int i) (.int j)=some (.val (.int (Builtin.bitAnd i j))):=rfl
@[simp]theorem QJ:jU (.lst ds) (.int i)=if 0<=i/\0<ds.length/\ds.length*i.toNat<=lim then some (.own (replicate i.toNat ds).flatten)else none:=rfl
@[simp]theorem Q4:jU (.tup ds) (.int i)=if 0<=i/\0<ds.length/\ds.length*i.toNat<=lim then some (.val (.tup (replicate i.toNat ds).flatten))else none:=rfl
@[simp]theorem YW:cm .isT (.bl b) (.bl true)=some b:=rfl
@[simp]theorem Yg:cm .VP (.bl b) (.bl true)=some (!b):=rfl
@[simp]theorem Xv:blt .sum [.lst ds]=(ds.mapM dW).map λns=>.val (.int ns.sum):=rfl
@[simp]theorem Uj:blt .xg [.lst ds]=(ds.mapM dW).bind λns=>ns.min?.map λi=>.val (.int i):=rfl
@[simp]theorem Uy:blt .Gd [.lst ds]=(ds.mapM dW).bind λns=>ns.max?.map λi=>.val (.int i):=rfl
end
@[simp]theorem Zw:type_of%@HH.Zh:=@HH.Zh
@[simp]theorem Z0:type_of%@HH.X16:=@HH.X16
theorem eX{ns:List Int}:(ns.map D.int).mapM dW=some ns:=by induction ns with|nil=>rfl|cons n ns a=>simp[a]
@[simp]theorem Rz{ns:List Int}:ns.mapM (dW ∘ D.int)=some ns:=by rw[<-eX (ns:=ns),List.mapM_map]
@[simp]theorem Up{bs:List Bool}:bs.mapM (RQ ∘ D.bl)=some bs:=by induction bs with|nil=>rfl|cons b bs a=>simp[a]
theorem xW{S:List Int}{i:Int}:((S.map D.int).any λy=>jd y (.int i))=S.contains i:=by induction S with|nil=>rfl|cons s S a=>rw[map_cons,any_cons,List.contains_cons,a,pqi];rw[show(s==i)=(i==s)from Bool.eq_iff_iff.mpr ⟨λh=>by simp at h ⊢;exact h.symm,λh=>by simp at h ⊢;exact h.symm⟩]
theorem u6{S:List Int}:(S.map D.int).all flat=true:=by rw[all_eq_true];intro d hd;obtain⟨i,_,rfl⟩:=mem_map.mp hd;rfl
theorem Er{S:List Int}{i:Int}:cm .inn (.int i) (.tup (S.map D.int))=some (S.contains i):=by show uI false _ _=_;unfold uI;simp only[pX,bind_some,tR,u6,Bool.and_true,xW];rfl
theorem Ag{S:List Int}{i:Int}:cm .zu (.int i) (.tup (S.map D.int))=some (!S.contains i):=by show uI true _ _=_;unfold uI;simp only[pX,bind_some,tR,u6,Bool.and_true,xW];rfl
theorem mW{n:Nat}{S:List Int}:dh (n+1) (.lst (S.map D.int))=true:=by rw[dh,all_eq_true];intro d hd;obtain⟨i,_,rfl⟩:=mem_map.mp hd;cases n<;>rfl
theorem o7:∀{S T:List Int},fu (S.map D.int) (T.map D.int)=(S==T)|[],[]=>by simp[fu]|[],_::_=>by simp[fu]|_::_,[]=>by simp[fu]|s::S,t::T=>by rw[map_cons,map_cons,fu,o7,pqi];rfl
theorem WD{S T:List Int}:cm .eq (.lst (S.map D.int)) (.lst (T.map D.int))=some (S==T):=by show BR _ _=_;unfold BR;rw[mW,mW,Wr,o7];rfl
theorem Xl{S T:List Int}:cm .ne (.lst (S.map D.int)) (.lst (T.map D.int))=some (!(S==T)):=by show Ck _ _=_;unfold Ck;rw[mW,mW,Wr,o7];rfl
theorem gW{a:Type}{l:List a}{f:a->D}{k:Nat}{x:a}(h:l[k]?=some x):at' (l.map f) (k:Int)=some (f x):=by have b:=(dw h).1;rw[Es (by simpa using b),getElem?_map,h];rfl
theorem Oq{n k:Nat}(h:k<n):gQ n (k:Int)=some k:=by unfold gQ;rw[if_pos (by omega),if_pos (by omega)];simp
theorem iC{is:List Nat}{one:Bool}{body:List Sl->Res Fl}{g:Nat->D}{N:Nat}(J:Nat->List Sl->Prop){Q:Fl->List Sl->Prop}(c:∀i ρ,i<N->J i ρ->∃a,bV ρ is one (g i)=some a/\(body a).sat (fQ (J (i+1)) Q))(f:∀ρ,J N ρ->Q .next ρ){ρ:List Sl}(h0:J 0 ρ):(fU is one body ((List.range N).map g) ρ).sat Q:=by
 refine bM (λr ρ=>∃i,i<=N/\r=((List.range N).map g).drop i/\J i ρ) ?_ ?_ ⟨0,rK,rfl,h0⟩
 . rintro d r ρ⟨i,hi,e,j⟩;have b:i<N:=by
    rcases Nat.lt_or_ge i N with h|h;.exact h
    .rw[List.drop_eq_nil_of_le (by simpa using h)]at e;cases e
   rw[drop_eq_getElem_cons (by simpa using b)]at e;injection e with e1 e2;simp at e1;subst e1;obtain⟨a,h1,k⟩:=c i ρ b j;refine⟨a,h1,k.imp λfl l q=>?_⟩;cases fl with|next=>exact⟨i+1,b,e2,q⟩|cont=>exact⟨i+1,b,e2,q⟩|brk=>exact q|ret v=>exact q
 . rintro ρ⟨i,hi,e,j⟩;have:i=N:=by have m:=congrArg List.length e;simp at m;omega
   subst this;exact f ρ j
theorem zG{c:Call}{is:List Nat}{one:Bool}{m:P}{t:Option P}(J:List Sl->Prop)(P:D->Prop){Q:List D->List Sl->Prop}{l:List D}{ρ:List Sl}(j:J ρ)(h:∀d,d∈l->∀ρ,J ρ->∃a,bV ρ is one d=some a/\(m8 c t a).sat λb f=>if b=true then(ev c m f).sat λr i=>P r.d/\J i else J f)(k:∀xs ρ,J ρ->xs.length<=l.length->(∀x∈xs,P x)->Q xs ρ):(lL c is one t m l ρ).sat Q:=by suffices hh:∀(l:List D)(g:List D)(ρ:List Sl),J ρ->(∀x∈g,P x)->(∀d,d∈l->∀ρ,J ρ->∃a,bV ρ is one d=some a/\(m8 c t a).sat λb f=>if b=true then(ev c m f).sat λr i=>P r.d/\J i else J f)->(turns is one (m8 c t) (ev c m) l g ρ).sat λxs ρ=>J ρ/\(∀x∈xs,P x)/\xs.length<=g.length+l.length from(hh l [] ρ j (by simp) h).imp λxs ρ⟨o,q2,q3⟩=>k xs ρ o (by simpa using q3) q2;intro l;induction l with|nil=>intro g ρ j s _;rw[turns];exact⟨j,s,by simp⟩|cons d r u=>
   intro g ρ j s h;obtain⟨a,e,h1⟩:=h d (by simp) ρ j;rw[turns,e];show((m8 c t a).bind _).sat _;rw[bz];refine h1.imp λb f q=>?_
   cases b with|true=>
     rw[if_pos rfl]at q;rw[if_pos rfl,bz];refine q.imp λx i⟨p,j3⟩=>?_;refine(u (g++[x.d]) i j3 (λy hy=>?_) λd' n=>h d' (by simp[n])).imp λxs ρ⟨o,q2,q3⟩=>⟨o,q2,by simp at q3 ⊢;omega⟩;rcases mem_append.mp hy with hy|hy;.exact s y hy
     .rw[mem_singleton.mp hy];exact p|false=>rw[if_neg (by simp)]at q;rw[if_neg (by simp)];exact(u g f q s λd' n=>h d' (by simp[n])).imp λxs ρ⟨o,q2,q3⟩=>⟨o,q2,by simp at q3 ⊢;omega⟩
inductive A3(a b c:Prop):Prop where|mk(ha:a)(hb:b)(hc:c)
inductive A4(a b c d:Prop):Prop where|mk(ha:a)(hb:b)(hc:c)(hd:d)
inductive A5(a b c d e:Prop):Prop where|mk(ha:a)(hb:b)(hc:c)(hd:d)(he:e)
inductive A6(a b c d e f:Prop):Prop where|mk(ha:a)(hb:b)(hc:c)(hd:d)(he:e)(hf:f)
inductive A7(a b c d e f g:Prop):Prop where|mk(ha:a)(hb:b)(hc:c)(hd:d)(he:e)(hf:f)(hg:g)
inductive A8(a b c d e f g h:Prop):Prop where|mk(ha:a)(hb:b)(hc:c)(hd:d)(he:e)(hf:f)(hg:g)(hh:h)
inductive A9(a b c d e f g h i:Prop):Prop where|mk(ha:a)(hb:b)(hc:c)(hd:d)(he:e)(hf:f)(hg:g)(hh:h)(hi:i)
end HH
end
section
namespace HT
open PySem PySem.Spec PyProof.Rows
section
variable{prog:Program}{w:World}{A:Around}{E:Value->Shared->Prop}{s:Shared}
theorem tG{t sl:Addr}{a:Array Value}{f g:Value}{lo hi:Option Int}{Q:Value->Shared->Prop}(ht:IsTup s.heap t a)(hs:s.heap.IsSliceOf sl f g .none)(i:IsPart f lo)(j:IsPart g hi)(h1:cI a.size 0 lo=0)(k:cI a.size a.size hi=a.size)(h:Q (.ref t) s):wpAny (model prog w) A (getItem (.ref t) (.ref sl)) Q E s:=by
 obtain⟨os,b,c,l⟩:=id hs;have m:s.TypeIs (.ref sl) "slice":=⟨os,b,c⟩;unfold getItem;try with_reducible refine wpAny_holding ?_
 first|refine wpAny_bind (wpAny_pure ?_)|skip
 refine wpAny_bind (wpAny_sequenceKey ht.typeIs (by decide) (wpAny_bind (wpAny_callSpecial?_slot (name:=Str.ofString "__getitem__") ht.typeIs slot_tuple_getitem (wpAny_call_entry slot_tuple_getitem ht.typeIs entry_tuple_getitem ?_ (args_tuple_getitem _ _)))));show wpAny _ _ (tupleItemsOf (.ref t)>>=_) _ _ s;refine wpAny_bind (tupleItemsOf_ ht (wpAny_bind (wpAny_typeOf m ?_)));rw[if_pos (by decide)];refine wpAny_bind (gf hs i j ?_);have e:((((cI a.size 0 lo:Nat):Int)==0&&(1:Int)==1&&(cI a.size a.size hi-cI a.size 0 lo)==a.size)=true):=by rw[h1,k];simp
 show wpAny _ _ (if(((cI a.size 0 lo:Nat):Int)==0&&(1:Int)==1&&(cI a.size a.size hi-cI a.size 0 lo)==a.size)=true then _ else _) _ _ s;rw[if_pos e];unfold Builtin.Tuple.tupleIsExact;refine wpAny_bind (wpAny_bind (wpAny_typeOf ht.typeIs (wpAny_pure ?_)));rw[if_pos (by decide)];exact wpAny_bind (wpAny_rule (wpAny_pure ⟨_,rfl,wpAny_pure h⟩))
end
end HT
namespace HH
open PySem L2 PySem.Spec PyProof.Rows
noncomputable def ZR:Expr->Bool|.Starred _ _=>false|_=>true
theorem gG{e:Expr}{es:List Expr}{env:Env}(h:ZR e=true):starEach (e::es) env=(false,eval e env)::starEach es env:=by cases e with|Starred a b=>cases h|_=>rw[starEach];(intro e p z;cases z)
noncomputable def oU:List Int->List Expr->Option (List Expr)|[],es=>some es|i::is,.Constant (.int j) _ _::es=>if i=j then oU is es else none|_,_=>none
theorem mU{X:L2.Cx}{c:Call}:∀(is:List Int){es a:List Expr}{b:List P},oU is es=some a->SA X c a b->SA X c es (is.map (λi=>P.con (.int i))++b)|[],es,a,b,h,r=>by cases h;exact r|i::is,[],a,b,h,r=>by cases h|i::is,e::es,a,b,h,r=>by cases e with
   |Constant v k p=>cases v with
     |int j=>
       replace h:(if i=j then oU is es else none)=some a:=h;split at h;.rename_i f;subst f;exact za aj (mU is h r) (gG rfl)
       .cases h|_=>cases h
   |_=>cases h
theorem qX{n d:Nat}{o:Option Int}:HT.cI n d o=HH.cI n d o:=by cases o with|none=>rfl|some v=>
   show(if v<0 then(v+(n:Int)).toNat else min v.toNat n)=(if 0<=v then min v.toNat n else(v+n).toNat);by_cases h:0<=v;.rw[if_pos h,if_neg (by omega)]
   .rw[if_neg h,if_pos (by omega)]
theorem CG{xs:List V}{lo hi:Option Int}:tU xs lo hi=HH.cut xs lo hi:=by unfold tU HH.cut;rw[qX,qX]
theorem aB.cut{K:PySem.W.Frag}{F:Hp}{a:List D}{vs:List V}{lo hi:Option Int}(h:aB K F vs a):aB K F (HH.cut vs lo hi) (HH.cut a lo hi):=by unfold HH.cut;rw[h.length];exact(h.drop _).take _
section
variable{X:Cx}{c:Call}{n:Nat}{e a b:Expr}{p pa pb pl ph:P}{pos p2:Pos}{lo hi:Option Expr}
def Zr(K:PySem.W.Frag):V->Option Int->Option Int->Hp->VK->Prop:=λx lo hi H Q=>∃F d r,aF F H/\cg K F H x d/\JQ d (some lo) (some hi)=some r/\∀v g f,Ext F H g f->bG K g f H v r->Q v f
theorem T3:W5 X (Zr X.K):=by rintro f s σ H x v u w lo hi sl Q I l hs pl m⟨F,d,r,sm,y,he,k⟩;cases d with|lst o=>cases he;obtain⟨a,xs,rfl,j,h⟩:=y.lst sm;refine Ib f s σ H _ v u w lo hi sl Q I l hs pl m ⟨a,xs,rfl,j,λp q=>?_⟩;rw[CG];exact um sm h.cut q k|tup o=>
   cases he;obtain⟨a,xs,rfl,j,h,rt⟩:=y.tup sm;by_cases i:HT.cI xs.length 0 lo=0/\HT.cI xs.length xs.length hi=xs.length
   . cases l;obtain⟨t,z,ht,hz⟩:=I.tuple j;have g:t.toArray.size=xs.length:=by rw[size_toArray];exact z.length.symm
     refine⟨"tuple",_,slot_tuple_getitem.lookup,ht.typeIs,HT.tG ht hs pl m (by rw[g];exact i.1) (by rw[g];exact i.2) ⟨.ref a,H,I,rfl,?_⟩⟩;have hc:HH.cut o lo hi=o:=by unfold HH.cut;rw[<-h.length,<-qX,<-qX,i.1,i.2];simp[h.length]
     rw[hc]at k;exact bG.cj sm rt k
   .refine Qm f s σ H _ v u w lo hi sl Q I l hs pl m ⟨a,xs,rfl,j,i,λp q=>?_⟩;rw[CG];exact zR sm h.cut q k|_=>cases he
def SO(X:Cx)(c:Call)(o:Option Expr)(p:P):Prop:=∃t,PO X o t/\∀{σ:L2.St}{H F:Hp}{ρ f:List Sl}{d:D}{i:Option Int}{Q:Option Int->Hp->Prop},GS X.K F ρ σ H->bK (isVar p) (HH.ev c p) ρ=.ok d f->part p d=some i->(∀h g,aq X.K F ρ σ H h f σ g->Q i g)->t σ H Q
theorem xZ:SO X c none (.con .non):=by refine⟨_,Ja,λ{σ H F ρ f d i Q}g e h k=>?_⟩;cases(show some none=some i from h);have j:(HH.ev c (.con .non) ρ).bind (λr ρ=>.ok r.d ρ)=.ok d f:=e;clear e;rw[HH.E2]at j;cases j;exact k F H (.refl g)
theorem zj(h:SX X c e p)(l:Tf p=false:=by rfl):SO X c (some e) p:=by obtain⟨t,h1,m⟩:=h.bK;refine⟨_,Jv h1,λ{σ H F ρ o d i Q}g e f k=>?_⟩;unfold part at f;rw[l,if_neg (by decide)]at f;obtain⟨j,q,r⟩:=map_some f;cases cF q;subst r;exact m g e λv u w s x=>⟨j,x.int,k u w s⟩
theorem uU{d:D}{x y:Option (Option Int)}{r:R}(h:JQ d x y=some r):∃lo hi,x=some lo/\y=some hi:=by cases x with|none=>cases d<;>cases h|some lo=>cases y with|none=>cases d<;>cases h|some hi=>exact⟨lo,hi,rfl,rfl⟩
theorem uA(Z:SX X c a pa)(hl:SO X c lo pl)(hh:SO X c hi ph):SX X c (.Subscript a (.Slice lo hi none p2) pos) (.slice pa pl ph):=by obtain⟨tl,l1,l2⟩:=hl;obtain⟨th,h1,h2⟩:=hh;cases hv:isVar pa with|none=>refine⟨cR (uf T3 Z.ev l1 h1) ?_,λi h=>by cases h⟩;rintro σ H Q⟨F,ρ,r,A,g,e,k⟩;rw[HH.E13,hv]at e;obtain⟨x,B,f,j⟩:=aa e;clear e;have V4:(HH.ev c pa ρ).bind (λr ρ=>.ok r.d ρ)=.ok x B:=f;clear f;obtain⟨rx,ac,e1,C⟩:=aa V4;clear V4;cases C;obtain⟨y,E,G,l⟩:=aa j;clear j;obtain⟨z,I,J,m⟩:=aa l;clear l;obtain⟨e,L⟩:=aA m;clear m;subst L;obtain⟨M,N,o,q⟩:=uU e;rw[o,q]at e;refine⟨F,ρ,rx,_,g,e1,λv F1 H1 s1 rr=>?_⟩;obtain⟨F2,s2,_,rp⟩:=s1.cG rr;refine l2 s2.gs G o λF3 H3 s3=>h2 s3.gs J q λO H4 s4=>?_;have s5:=s2.trans (s3.trans s4);refine⟨O,_,r,s4.gs.sub,.inl ((rp.mono s3.cz).mono s4.cz),e,λv U W x Y=>?_⟩;exact k v U W (s5.trans (x.stp s5.gs)) (.later s5 (Y.lZ s5.gs))|some i=>refine⟨cR (uf T3 (Z.var i hv) l1 h1) ?_,λi h=>by cases h⟩;rintro σ H Q⟨F,ρ,r,A,g,e,k⟩;rw[HH.E13,hv]at e;obtain⟨x0,ae,s,j⟩:=aa e;clear e;obtain⟨C,xm⟩:=aA s;clear s;subst xm;obtain⟨y,E,G,l⟩:=aa j;clear j;obtain⟨z,I,J,m⟩:=aa l;clear l;obtain⟨x,af,t,ed⟩:=aa m;clear m;obtain⟨e5,e6⟩:=aA t;clear t;subst e6;obtain⟨e,L⟩:=aA ed;clear ed;subst L;obtain⟨M,N,o,q⟩:=uU e;rw[o,q]at e;obtain⟨v,u,_⟩:=g.pk C;refine⟨v,u,l2 g G o λF3 H3 s3=>h2 s3.gs J q λO H4 s4=>?_⟩;have s5:=s3.trans s4;obtain⟨v',w,pv⟩:=s5.gs.pk e5;rw[u]at w;cases w;refine⟨O,_,r,s4.gs.sub,pv,e,λv U W x Y=>?_⟩;exact k v U W (s5.trans (x.stp s5.gs)) (.later s5 (Y.lZ s5.gs))
theorem Je:WR X .Add (ipI λi j=>if false then i-j else i+j):=MJ
theorem Oz{x:Str}{k:Nat}{l h f:Pos}(E:X.N[k]?=some x)(G:tD X.env.scope x)(he:SX X c e p)(i:(h.endLine==f.line)=true:=by rfl)(hs:starEach [e] X.env=(false,eval e X.env)::starEach [] X.env:=by rfl)(j:attributeBase (.Name x l) "extend" X.env (eval (.Name x l) X.env)=eval (.Name x l) X.env:=by rfl)(m:((backTo f (starEach [e] X.env)).all (λx=>!x.1)&&(backToKw f (keywordEach [] X.env)).all (λx=>x.1.isSome)&&decide ([e].length+([]:List Keyword).length+(if([]:List Keyword).isEmpty then 0 else 1)<30))=true:=by rfl)(t:swapsWith (.Call (.Attribute (.Name x l) "extend" h) [e] [] f) none pos.line X.env=pure false:=by rfl)(hd:(x==("__debug__":Str))=false:=by decide)(u:(x==("__classdict__":Str))=false:=by decide):SS X c n (.Expr (.Call (.Attribute (.Name x l) "extend" h) [e] [] f) pos) (.Gg k p):=by
 refine dm (qY (yZ plainAttrs_list PySem.F.slot_list_extend PySem.F.type_list_extend Av (cT E G hd u) (bF he.ev cY hs) j m i hs) t) ?_;rintro D σ H⟨F,ρ,fl,I,g,e,J⟩;rw[HH.X16]at e;obtain⟨d0,L,o,z⟩:=aa e;clear e;obtain⟨M,O⟩:=aA o;clear o;subst O;obtain⟨r,w,Q,s⟩:=aa z;clear z;obtain⟨a,xs,h1,U⟩:=rB g M;refine⟨.ref a,h1,.inl ⟨rfl,xs,U⟩,F,ρ,r,w,g,Q,λv F1 H1 s1 W=>?_⟩;split at s
 . rename_i bb Y es q;split at s;.rename_i y;cases s;obtain⟨b1,ys,rfl,Z,w3,A,w5,w6⟩:=W;obtain⟨ad,zs,B,q2,q3,C⟩:=s1.gs.oA k _ Y q rfl;rw[h1]at B;cases B;exact⟨_,b1,zs,ys,rfl,rfl,q2,Z,by rw[C.length,A.length];exact y,J F1 σ _ (s1.trans (s1.gs.mut q h1 (C.append A)))⟩
   .cases s
 .cases s
end
end HH
end
section
namespace L2
open PySem PySem.Spec PyProof.Rows
section
variable{X:Cx}{tg:Expr}
theorem tV:bootBuiltins "tuple"=some (.type "tuple"):=by decide+kernel
theorem ou:bootBuiltins "reversed"=some (.type "reversed"):=by decide+kernel
end
end L2
namespace HH
open PySem L2 PySem.Spec PyProof.Rows
section
variable{K:PySem.W.Frag}{F F1 H H1:Hp}{ρ ρ1:List Sl}{σ:L2.St}{ds:List D}{a:Addr}
theorem aB.rev:∀{ds:List D}{xs:List V},aB K F xs ds->aB K F xs.reverse ds.reverse|[],_,h=>by rw[h.dO];exact .nil|d::ds,_,h=>by obtain⟨v,r,rfl,h1,b⟩:=h.bO;rw[reverse_cons,reverse_cons];exact(aB.rev b).append (.cons h1 .nil)
end
end HH
end
section
namespace L2
open PySem PySem.Spec PyProof.Rows
theorem vm:bootBuiltins "list"=some (.type "list"):=by decide+kernel
noncomputable def Ng(i:Int)(n:Nat):List V:=(List.range n).map λ(k:Nat)=>V.int (i+(k:Int))
theorem vP{i:Int}{n:Nat}{a:Array Value}(h:ItemsOf (λk v=>∃t,v=Value.int (i+(k:Int)*1) t) a n):Vals (Ng i n) a.toList:=by
 obtain⟨h1,g⟩:=h;have key:∀(m:Nat)(l:List Value),l.length=m->∀(f:Nat->Int),(∀(j:Nat)(v:Value),l[j]?=some v->∃t,v=Value.int (f j) t)->Vals ((List.range m).map λk=>V.int (f k)) l:=by intro m;induction m with
  |zero=>intro l b f _;cases l with|nil=>exact .nil|cons _ _=>cases b
  |succ m o=>intro l b f c;cases l with|nil=>cases b|cons v l=>rw[List.range_succ_eq_map,map_cons,map_map];obtain⟨t,rfl⟩:=c 0 v rfl;exact .cons ⟨t,rfl⟩ (o l (by simpa using b) (λk=>f (k+1)) λj v q=>c (j+1) v (by simpa using q))
 refine key n a.toList (by simpa using h1) (λk=>i+(k:Int)) λj v q=>?_;obtain⟨t,e⟩:=g j v (by simpa using q);exact⟨t,by rw[e,mul_one]⟩
section
variable{X:Cx}{pins:List (Addr×Obj)}{σ:St}{H:Hp}{s:Shared}{E:Value->Shared->Prop}
theorem Ey{lo hi:Int}{t u v:Tok}{h:Nat}{Q:VK}(hc:X.calm=true)(I:Inv X pins σ H s)(h1:-(2^62)<=lo)(m:lo<2^62)(p:-(2^62)<=hi)(r:hi<2^62)(i:(hi-lo).toNat<=sizeLine)(q:∀l,H l=none->Q (.ref l) (upd H l (.lst (Ng lo (hi-lo).toNat)))):wpAny (model X.prog X.w) X.A (call (.type "list") [.ref s.heap.objs.size]) (EP X pins σ Q) E {s with heap:=s.heap.push {cls:=.type "range",data:=.fields #[.int lo t,.int hi u,.int 1 v]},toks:=h}:=by have j:Inv X pins σ H {s with heap:=s.heap.push {cls:=.type "range",data:=.fields #[.int lo t,.int hi u,.int 1 v]},toks:=h}:=I.kept λb o e=>gb e;refine call_list_range (I.ok.hd hc) (IsRange.new ..) (small_one h1 m p r) (n:=(hi-lo).toNat) (by rw[rangeSize_one];split<;>omega) (le_trans i (by decide)) λh' f a x y g c=>?_;generalize B:(s.heap.push {cls:=.type "range",data:=.fields #[.int lo t,.int hi u,.int 1 v]}:Heap)=k at*;have z:H k.objs.size=none:=j.hok.fresh (cL);refine⟨.ref k.objs.size,_,j.laid (t':=f) (o:=.lst (Ng lo (hi-lo).toNat)) (h':=h') y (cL) ?_,rfl,q _ z⟩;exact⟨by simpa[Ng]using i,a.toList,x,vP c,by simpa using g⟩
theorem zP{a:Expr}{g:TA}{p pos i b:Pos}(hc:X.calm=true)(k:Gl X "list")(m:X.mg "list"=none)(n:Gl X "range")(o:X.mg "range"=none)(u:PA X [a] g)(hs:starEach [a] X.env=[(false,eval a X.env)]:=by rfl)(c:starEach [.Call (.Name "range" p) [a] [] pos] X.env=[(false,eval (.Call (.Name "range" p) [a] [] pos) X.env)]:=by rfl):PE X (.Call (.Name "list" i) [.Call (.Name "range" p) [a] [] pos] [] b) (λσ H Q=>g σ H λvs f=>∃j:Int,vs=[.int j]/\(-(2^62)<=j/\j<2^62/\(j-0).toNat<=sizeLine)/\∀l,f l=none->Q (.ref l) (upd f l (.lst (Ng 0 (j-0).toNat)))):=by intro pins s σ H Q I h;refine Call_ (iz I k m vm (PyProof.Rows.callWith_type1 ?_ c rfl));rw[c];show wpAny _ _ (spliced ((false,eval (.Call (.Name "range" p) [a] [] pos) X.env)::[])) _ _ _;refine Calls.spliced_cons (Call_ (iz I n o boot_range (PyProof.Rows.callWith_type1 (bH (u pos pins s σ H _ I h) ?_) hs rfl)));rintro y s1⟨vs,f,v,r1,w⟩;obtain⟨j,e,⟨b1,b2,b3⟩,q⟩:=w;subst e;cases r1 with|cons r x=>cases x;obtain⟨t,rfl⟩:=r;exact call_range_1 (Calls.spliced_nil (Ey hc v (by omega) (by omega) b1 b2 b3 q))
end
end L2
namespace HH
open PySem L2 PySem.Spec PyProof.Rows
theorem Lb{K:PySem.W.Frag}{F:Hp}(i:Int)(n:Nat):aB K F (Ng i n) ((List.range n).map λ(k:Nat)=>D.int (i+(k:Int))):=by unfold Ng;generalize List.range n=l;induction l with|nil=>exact .nil|cons k l a=>exact .cons (show Rep K F (.int _) (.int _)from bC _) a
section
variable{X:Cx}{c:Call}{a b:Expr}{pa pb:P}{pos:Pos}
theorem zX{x y:Str}{p z n:Pos}(A:y="list")(B:x="range")(hc:X.calm=true)(C:Gl X y)(E:X.mg y=none)(G:Gl X x)(I:X.mg x=none)(J:SX X c a pa)(hs:starEach [a] X.env=[(false,eval a X.env)]:=by rfl)(q:starEach [.Call (.Name x p) [a] [] pos] X.env=[(false,eval (.Call (.Name x p) [a] [] pos) X.env)]:=by rfl):SX X c (.Call (.Name y z) [.Call (.Name x p) [a] [] pos] [] n) (.blt .zx [.qG (.con (.int 0)) pa]):=by
 subst B A;obtain⟨ta,h1,L⟩:=J.bK;refine⟨cR (zP hc C E G I (bF h1 cY hs) hs q) ?_,λi h=>by cases h⟩;rintro σ H Q⟨F,ρ,r,M,g,e,k⟩;rw[E15]at e;obtain⟨x,N,O,m⟩:=aa e;have t:=aA m;clear m;obtain⟨m,o⟩:=t;subst o;obtain⟨r1,U,o,u⟩:=aa O;cases u;rw[E19]at o;obtain⟨xy,W,u,f⟩:=aa o;have t:=aA f;clear f;obtain⟨f,Y⟩:=t;subst Y;obtain⟨y0,Z,e9,w⟩:=aa u;cases w;obtain⟨i,f1,f⟩:=bB f;obtain⟨j,f2,f⟩:=bB f;obtain⟨⟨b1,b2,b3,b4⟩,f⟩:=aO f;have f1:i=0:=by cases f1;rfl
 subst f1;subst f;obtain⟨b5,m⟩:=aO (show(if((List.range (j-0).toNat).map λ(k:Nat)=>D.int (0+(k:Int))).length<=16777216 then some (R.own ((List.range (j-0).toNat).map λ(k:Nat)=>D.int (0+(k:Int))))else none)=some r from m);subst m;cases cF f2;refine L g e9 λv F' H' s pv=>⟨j,by rw[pv.int],⟨by omega,by omega,?_⟩,λl hl=>um s.gs.sub (Lb 0 (j-0).toNat) hl λv F2 H2 xt rn=>k v F2 H2 (s.trans (xt.stp s.gs)) (.later s (rn.lZ s.gs))⟩;rw[length_map,length_range]at b5;exact b5
end
end HH
end
section
namespace PySem
namespace F
theorem Fo:typeLookup (.type "list_reverseiterator") "__len__"=pure none:=by rw[typeLookup_type,builtinLookup_eq_fast];kernel_rfl
theorem HY:typeLookup (.type "list_reverseiterator") "__length_hint__"=pure (some (.builtin "list_reverseiterator.__length_hint__")):=by rw[typeLookup_type,builtinLookup_eq_fast];kernel_rfl
end F
section
variable{prog:Program}{w:World}{A:Around}{E:Value->Shared->Prop}{s:Shared}
theorem lX{it l:Addr}{items:Array Value}{Q:Bool->Shared->Prop}(e:s.heap.IsRevIter it l ((items.size:Int)-1))(m:s.heap.IsList l items)(i:items.size<=2^24)(h:∀b j,s.toks<=j->Q b {s with toks:=j}):wpAny (model prog w) A (listLengthHint (.ref it)) Q E s:=by
 have f:=e.typeIs;unfold listLengthHint;refine wpAny_bind (wpAny_specialOf f F.Fo ?_);show wpAny _ _ (specialOf (Value.ref it) (Str.ofString "__length_hint__")>>=_) _ _ _;refine wpAny_bind (wpAny_specialOf f F.HY ?_);generalize a:("list_reverseiterator.__length_hint__":String)=c;(fail_if_success(clear a c));wp_delta;rw[show splitId c=some ("list_reverseiterator","__length_hint__")from by subst a;decide+kernel];subst a;refine wpAny_bind (wpAny_isInstance (b:=true) f (by rw[isSubtype_type];kernel_rfl) ?_);rw[if_neg (by decide)];dsimp only;split;.refine wpAny_ite_split (λg=>absurd g (by decide+kernel)) (λ_=>?_);exact wpAny_pure (h _ s.toks (cL))
 .rename_i k;exact absurd (by decide+kernel) k
theorem jY{R:Result->Shared->Prop}{I l:Addr}{items:Array Value}(O:A.handled=none)(j:s.heap.IsRevIter I l ((items.size:Int)-1))(C:s.heap.IsList l items)(G:l≠I)(t:items.size<=2^24)(S:Addr)(m:S≠I)(u:S≠l)(res:Value)(k:Nat)(H:s.heap.get? S=some {cls:=.type "list",data:=.seq #[] k})(Q:∀ h' x a r,(∀ b o,b ≠ S->b ≠ I->s.heap.get? b=some o->h'.get? b=some o)->h'.get? S=some {cls:=.type "list",dict:=none,data:=.seq a r,slots:=#[]}->ItemsOf (λi v=>items[items.size-1-i]?=some v) a items.size->R (.ok (.ret res)) {s with heap:=h',toks:=x}):wpAny (model prog w) A.in1 (listExtendWith (.ref S) (.ref I) res) (λfin n=>match fin with|.done f=>R (.ok f) n|.again r=>r.quiet=true/\codeAny (model prog w) A r R n) (λe n=>R (.error e) n) s:=by
 have J:S∉[I,l]:=λhm=>by
  rcases mem_cons.mp hm with e|hm;.exact m e
  .exact u (mem_singleton.mp hm)
 have W:=(Walks.listRev (prog:=prog) (w:=w) (A:=A.in1) O I l G items).toS;have U:s.TypeIs (.ref I) "list_reverseiterator":=j.typeIs;have key:∀(h:Heap)(c x:Nat),h.IsRevIter I l ((items.size:Int)-1-((0:Nat):Int))->h.IsList l items->(∀b o,b≠S->s.heap.get? b=some o->h.get? b=some o)->h.get? S=some {cls:=.type "list",data:=.seq #[] c}->codeAny (model prog w) A (.builtin "list.extend.loop" ⟨[.ref S,.ref I,res],[]⟩) R {s with heap:=h,toks:=x}:=by
  intro h c x hi L X p;refine codeAny_extend_loopS W (by rw[sizeLine_eq];omega) S J res items.size 0 _ #[] c rfl (rK) ⟨rK,hi,L⟩ p (ItemsOf.nil _) λn a r hm M y=>?_;rw[Moved.eq_with hm];refine Q n.heap n.toks a r (λb o z N e=>hm.heap b o (λhmem=>?_) (X b o z e)) M y;rcases mem_cons.mp hmem with Y|hmem;.exact z Y
  .exact N (mem_singleton.mp hmem)
 unfold listExtendWith;refine wpAny_bind (wpAny_typeOf U ?_);have h1:listSameRef (.ref S) (.ref I)=false:=by simp[listSameRef,m]
 have Z:(Value.type "list_reverseiterator"==Value.type "list")=false:=by decide
 have h3:(Value.type "list_reverseiterator"==Value.type "tuple")=false:=by decide
 simp only[h1,Z,h3,Bool.or_false,false_eq_true,if_false];refine wpAny_bind (wpAny_pyIter_revIter j ?_);refine wpAny_bind (wpAny_holding (lX j C t λbb x ac=>?_));have B:s.heap.IsRevIter I l ((items.size:Int)-1-((0:Nat):Int)):=by simpa using j
 refine wpAny_ite_split (λ_=>?_) (λ_=>wpAny_pure ⟨plainId_quiet F.plain_extend_loop _,key _ k _ B C (λb o _ e=>e) H⟩);refine wpAny_bind (wpAny_rule ?_);refine wpAny_bind ?_;show wpAny _ _ (updateSeq S (·.push .none)>>=λ_=>updateSeq S (·.pop)) _ _ _;refine wpAny_bind (wpAny_updateSeq H rfl ?_);have g:=Heap.get?_update_self (Obj.mapSeq (·.push Value.none)) H rfl;refine wpAny_updateSeq (hz:=by seq_fits) g rfl ?_;have q:=Heap.get?_update_self (Obj.mapSeq (·.pop)) g rfl;have oth:∀b o,b≠S->s.heap.get? b=some o->((s.heap.update S (Obj.mapSeq (·.push Value.none))).update S (Obj.mapSeq (·.pop))).get? b=some o:=λb o z e=>(get?_update_other _ _ (Ne.symm z)).trans ((get?_update_other _ _ (Ne.symm z)).trans e);exact wpAny_pure ⟨plainId_quiet F.plain_extend_loop _,key _ _ _ (B.at λo e=>oth I o (Ne.symm m) e) (C.at λo e=>oth l o (Ne.symm u) e) oth q⟩
end
end PySem
namespace L2
open PySem PySem.Spec PyProof.Rows
end L2
namespace HH
open PySem L2 PySem.Spec PyProof.Rows
end HH
end
section
namespace HH
open PySem
theorem jP:∀a b:List Int,aY a b=true->aY b a=false
 |[],[],h=>by simp[aY]at h|[],_::_,_=>by simp[aY]|_::_,[],h=>by simp[aY]at h|x::a,y::b,h=>by
   simp only[aY,or_eq_true,decide_eq_true_eq,and_eq_true]at h;simp only[aY,Bool.or_eq_false_iff,decide_eq_false_iff_not,Bool.and_eq_false_iff];rcases h with h|⟨h,h'⟩;.exact⟨by omega,.inl (by omega)⟩
   .exact⟨by omega,.inr (jP a b h')⟩
theorem wA:∀a b c:List Int,aY b a=false->aY c b=false->aY c a=false
 |[],_,c,_,_=>by cases c<;>simp[aY]|_::_,[],_,h,_=>by simp[aY]at h|_::_,_::_,[],_,h=>by simp[aY]at h|x::a,y::b,z::c,h1,f=>by
   simp only[aY,Bool.or_eq_false_iff,decide_eq_false_iff_not,Bool.and_eq_false_iff]at h1 f ⊢;refine⟨by omega,?_⟩;by_cases e:z=x;.right;exact wA a b c (h1.2.resolve_left (by omega)) (f.2.resolve_left (by omega))
   .exact .inl e
theorem uh:∀a b:List Int,aY a b=false->aY b a=false->a=b
 |[],[],_,_=>rfl|[],_::_,h,_=>by simp[aY]at h|_::_,[],_,h=>by simp[aY]at h|x::a,y::b,h1,c=>by
   simp only[aY,Bool.or_eq_false_iff,decide_eq_false_iff_not,Bool.and_eq_false_iff]at h1 c;have e:x=y:=by omega
   subst e;rw[uh a b (h1.2.resolve_left (by simp)) (c.2.resolve_left (by simp))]
theorem uW:∀{xs ys:List D},xs.all fB=true->ys.all fB=true->xs.map lY=ys.map lY->xs=ys
 |[],[],_,_,_=>rfl|[],_::_,_,_,h=>by simp at h|_::_,[],_,_,h=>by simp at h|x::xs,y::ys,h1,a,h=>by
   simp only[all_cons,and_eq_true]at h1 a;simp only[map_cons,List.cons.injEq]at h;obtain⟨i,rfl⟩:∃i,x=.int i:=by cases x<;>first|exact⟨_,rfl⟩|(have q:=h1.1;simp[fB]at q;done)
   obtain⟨j,rfl⟩:∃j,y=.int j:=by cases y<;>first|exact⟨_,rfl⟩|(have q:=a.1;simp[fB]at q;done)
   rw[uW h1.2 a.2 h.2,show i=j from h.1]
theorem yC{x y:D}(h:(fB x=true/\fB y=true)\/(uq x=true/\uq y=true))(e:bY x=bY y):x=y:=by
 rcases h with⟨h1,a⟩|⟨h1,a⟩
 . cases x<;>first|(simp[fB]at h1;done)|skip
   cases y<;>first|(simp[fB]at a;done)|skip
   simpa[bY]using e
 . cases x<;>first|(simp[uq]at h1;done)|skip
   cases y<;>first|(simp[uq]at a;done)|skip
   rename_i xs ys;cases xs<;>first|(simp[uq]at h1;done)|skip
   cases ys<;>first|(simp[uq]at a;done)|skip
   rw[uW h1 a e]
noncomputable def jR(a b:D):Bool:=!aY (bY b) (bY a)
theorem uO(a:List D):(Ks a).Perm a:=List.mergeSort_perm ..
theorem GD(a b c:D)(h1:jR a b=true)(e:jR b c=true):jR a c=true:=by simp only[jR,not_eq_true']at*;exact wA _ _ _ h1 e
theorem Fv(a b:D):(jR a b||jR b a)=true:=by simp only[jR,or_eq_true,not_eq_true'];cases h:aY (bY b) (bY a)with|false=>exact .inl rfl|true=>exact .inr (jP _ _ h)
theorem vN(c:List D):(Ks c).Pairwise λa b=>jR a b=true:=List.pairwise_mergeSort GD Fv c
theorem rJ{a:List D}(h:sortable a=true):∀x∈a,∀y∈a,bY x=bY y->x=y:=by
 simp only[sortable,and_eq_true,or_eq_true,all_eq_true]at h;intro x b y c e;rcases h.2 with h|h;.exact yC (.inl ⟨h x b,h y c⟩) e
 .exact yC (.inr ⟨h x b,h y c⟩) e
theorem oK{c l:List D}(h:sortable c=true)(p:l.Perm c)(s:l.Pairwise λa b=>jR a b=true):l=Ks c:=by refine List.Perm.eq_of_pairwise (le:=λa b=>jR a b=true) (λa b f g h1 e=>?_) s (vN c) (p.trans (uO c).symm);simp only[jR,not_eq_true']at h1 e;exact rJ h a (p.mem_iff.mp f) b ((uO c).mem_iff.mp g) (uh _ _ e h1)
end HH
end
section
namespace HH
open PySem PyProof.Rows
variable{xs:Array Keyed}{i:Nat}
structure Rk(M:Model)(A:Around)(E:Value->Shared->Prop)(s:Shared)(κ:SortKind)(ok:Keyed->Prop)(K:Keyed->Int):Prop where lt:∀{x y:Keyed}{Q:Option Bool->SortSt->Prop}{st:SortSt},ok x->ok y->kindOf st=κ->Q (some (decide (K x<K y))) st->wpS M A E s (lt' x y) Q st
section
variable{M:Model}{A:Around}{E:Value->Shared->Prop}{s:Shared}{κ:SortKind}{ok:Keyed->Prop}{K:Keyed->Int}
noncomputable def it(xs:Array Keyed)(i:Nat):Keyed:=xs.getD i (Value.none,Value.none)
theorem IW(h:i<xs.size):xs[i]?=some (it xs i):=by unfold it;simp[Array.getD,h]
theorem Ds(h:i<xs.size):it xs i∈xs.toList:=by
 have:it xs i=xs[i]:=by unfold it;simp[Array.getD,h]
 rw[this];simp
theorem yf{Q:Keyed->SortSt->Prop}{st:SortSt}(h:i<xs.size)(q:Q (it xs i) st):wpS M A E s (elem' xs i) Q st:=by rw[elem'_eq,IW h];exact wpS_pure q
end
section
variable{K:Keyed->Int}
def Seg(K:Keyed->Int)(xs:Array Keyed)(lo hi:Nat):Prop:=∀i j,lo<=i->i<=j->j<hi->K (it xs i)<=K (it xs j)
theorem Ip:it xs i=xs.toList.getD i (Value.none,Value.none):=by
 unfold it;by_cases h:i<xs.size;.simp[Array.getD,h]
 .simp[Array.getD,h]
end
section
variable{M:Model}{A:Around}{E:Value->Shared->Prop}{s:Shared}{κ:SortKind}{ok:Keyed->Prop}{K:Keyed->Int}
structure Sx(κ:SortKind)(ok:Keyed->Prop)(st:SortSt)(xs:Array Keyed)(st':SortSt):Prop where
 kind:kindOf st'=κ
 arr:arrOf st'=xs
 pend:pendingOf st'=pendingOf st
 fail:failedOf st'=none
 ok:∀x∈xs.toList,ok x
theorem GZ(R:Rk M A E s κ ok K){st a:SortSt}{j:Nat}{Q:Option Bool->SortSt->Prop}(h:Sx κ ok st xs a)(hi:i<xs.size)(b:j<xs.size)(q:Q (some (decide (K (it xs i)<K (it xs j)))) a):wpS M A E s (ltAt' i j) Q a:=by rw[ltAt'_eq];refine wpS_bind (wpS_get ?_);show wpS M A E s (elem' (arrOf a) i>>=λx=>elem' (arrOf a) j>>=λy=>lt' x y) Q a;rw[h.arr];exact wpS_bind (yf hi (wpS_bind (yf b (R.lt (h.ok _ (Ds hi)) (h.ok _ (Ds b)) h.kind q))))
theorem Qq(R:Rk M A E s κ ok K){st g:SortSt}{lo a n:Nat}{Q:Option (Option Nat)×Nat->SortSt->Prop}(h:Sx κ ok st xs g)(u:lo+n<=xs.size)(v:1<=a)(l:a<=n)(hs:Seg K xs lo (lo+a))(q:∀m,a<=m->m<=n->Seg K xs lo (lo+m)->(m=n\/K (it xs (lo+m))<K (it xs (lo+m-1)))->Q (none,m) g):wpS M A E s (forIn [a:n] ((none,a):Option (Option Nat)×Nat) λ_ c=>ltAt' (lo+c.2) (lo+c.2-1)>>=λo=>match o with|some b=>if b=true then pure (.done (none,c.2))else pure (.yield (none,c.2+1))|_=>pure (.done (some none,c.2))) Q g:=by
 refine wpS_forRange (I:=λx c k=>k=g/\c=(none,x)/\Seg K xs lo (lo+x)) ?_ ?_ ⟨rfl,rfl,hs⟩
 . rintro x c k h1 w⟨rfl,rfl,f⟩;try dsimp only
   refine wpS_bind (GZ R h (by omega) (by omega) ?_);by_cases c:K (it xs (lo+x))<K (it xs (lo+x-1))
   . rw[decide_eq_true c];try dsimp only
     rw[if_pos rfl];exact wpS_pure (q x h1 (by omega) f (.inr c))
   . rw[decide_eq_false c];try dsimp only
     rw[if_neg (by simp)];refine wpS_pure ⟨rfl,rfl,λi j p r y=>?_⟩;by_cases t:j<lo+x;.exact f i j p r t
     . have:j=lo+x:=by omega
       subst this;by_cases e:i=lo+x;.rw[e];exact Int.le_refl _
       .have:=f i (lo+x-1) p (by omega) (by omega);omega
 .rintro c k⟨rfl,rfl,f⟩;rw[show max a n=n by omega]at f ⊢;exact q n l (cL) f (.inl rfl)
end
noncomputable abbrev Rn:=Nat×Nat×Nat
section
variable{K:Keyed->Int}{xs ys:Array Keyed}
def VB(K:Keyed->Int)(xs:Array Keyed):Nat->List Rn->Nat->Prop|a,[],b=>a=b|a,r::l,b=>r.1=a/\1<=r.2.1/\Seg K xs a (a+r.2.1)/\VB K xs (a+r.2.1) l b
theorem sI:∀{l k:List Rn}{a b:Nat},VB K xs a (l++k) b↔∃m,VB K xs a l m/\VB K xs m k b
 |[],k,a,b=>⟨λh=>⟨a,rfl,h⟩,λ⟨m,h1,c⟩=>by cases(show a=m from h1);exact c⟩|r::l,k,a,b=>by
   rw[cons_append];constructor;.rintro⟨h1,c,e,f⟩;obtain⟨m,g,j⟩:=sI.mp f;exact⟨m,⟨h1,c,e,g⟩,j⟩
   .rintro⟨m,⟨h1,c,e,f⟩,g⟩;exact⟨h1,c,e,sI.mpr ⟨m,f,g⟩⟩
end
section
variable{M:Model}{A:Around}{E:Value->Shared->Prop}{s:Shared}{κ:SortKind}{ok:Keyed->Prop}{K:Keyed->Int}
structure SR(κ:SortKind)(ok:Keyed->Prop)(K:Keyed->Int)(x0 ys:Array Keyed)(l:List Rn)(lo:Nat)(st:SortSt):Prop where
 kind:kindOf st=κ
 arr:arrOf st=ys
 fail:failedOf st=none
 pend:(pendingOf st).toList=l
 perm:ys.toList.Perm x0.toList
 ok:∀x∈ys.toList,ok x
 rns:VB K ys 0 l lo
 le:lo<=ys.size
theorem SR.sx{x0 ys:Array Keyed}{l:List Rn}{lo:Nat}{st:SortSt}(h:SR κ ok K x0 ys l lo st):Sx κ ok st ys st:=⟨h.kind,h.arr,rfl,h.fail,h.ok⟩
end
end HH
end
section
namespace HH
open PySem PySem.W PyProof.Rows PySem.Calls L2 PySem.Spec
theorem Ho(a:List Int):aY a a=false:=by cases h:aY a a with|false=>rfl|true=>rw[jP _ _ h]at h;cases h
theorem Ed{a b x:List Int}(h:aY b a=false)(c:aY x a=true):aY x b=true:=by cases e:aY x b with|true=>rfl|false=>rw[wA _ _ _ h e]at c;cases c
theorem pR{a:Type}{p q:a->Bool}(h:∀x,p x=true->q x=true):∀{l:List a},(∃x,x∈l/\q x=true/\p x=false)->l.countP p<l.countP q
 |[],⟨x,hx,_⟩=>by cases hx|y::l,⟨x,hx,h1,b⟩=>by
   rw[List.countP_cons,List.countP_cons];have m:=List.countP_mono_left (l:=l) (p:=p) (q:=q) λx _=>h x;rcases mem_cons.mp hx with rfl|hx;.rw[h1,b,if_pos rfl,if_neg (by simp)];omega
   .have:=pR h ⟨x,hx,h1,b⟩;cases hp:p y with|true=>rw[h y hp];omega|false=>rw[if_neg (by simp)];omega
noncomputable def MK(a:List D)(d:D):Nat:=a.countP λe=>aY (bY e) (bY d)
theorem Df{a:List D}{d e:D}(hd:d∈a):decide ((MK a d:Int)<MK a e)=aY (bY d) (bY e):=by cases h:aY (bY d) (bY e)with|true=>have:=pR (l:=a) (p:=λx=>aY (bY x) (bY d)) (q:=λx=>aY (bY x) (bY e)) (λx b=>Ed (jP _ _ h) b) ⟨d,hd,h,Ho _⟩;rw[decide_eq_true_iff];unfold MK;omega|false=>have:=List.countP_mono_left (l:=a) (p:=λx=>aY (bY x) (bY e)) (q:=λx=>aY (bY x) (bY d)) λx _ b=>Ed h b;rw[decide_eq_false_iff_not];unfold MK;omega
open Classical in
noncomputable def Yj(P:Value->D->Prop)(a:List D)(x:Keyed):Int:=if h:∃d,d∈a/\P x.1 d then(MK a h.choose:Int)else 0
theorem xJ{P:Value->D->Prop}{a:List D}{x:Keyed}{d:D}(fn:∀u d e,P u d->P u e->bY d=bY e)(hd:d∈a)(b:P x.1 d):Yj P a x=MK a d:=by have h:∃d,d∈a/\P x.1 d:=⟨d,hd,b⟩;unfold Yj;rw[dif_pos h];unfold MK;rw[fn _ _ _ h.choose_spec.2 b]
noncomputable def pick{a:Type}(d:a)(p:List Nat)(l:List a):List a:=p.map λi=>l.getD i d
theorem jN{a:Type}(d:a)(l:List a):pick d (List.range l.length) l=l:=by refine List.ext_getElem (by simp[pick]) λi h1 b=>?_;simp[pick,b]
theorem o5{a:Type}{d:a}{p:List Nat}{l:List a}{n:Nat}(h:p.Perm (List.range n)):(pick d p l).length=n:=by rw[pick,length_map,h.length_eq,length_range]
theorem iT{P:Value->D->Prop}:∀{b:List Value}{a:List D},Paired P b a->∀i,i<b.length->P (b.getD i .none) (a.getD i .non)/\a.getD i .non∈a|_,_,.cons r _,0,_=>⟨by simpa using r,by simp⟩|_,_,.cons _ t,i+1,hi=>by have:=iT t i (by simpa using hi);exact⟨by simpa using this.1,by simpa using Or.inr this.2⟩
end HH
end
section
namespace HH
open PySem L2 PySem.Spec PyProof.Rows PySem.Calls PySem.W
section
variable{prog:Program}{w:World}{A:Around}{E:Value->Shared->Prop}{s:Shared}{vs:List Value}{κ:SortKind}{P:Value->D->Prop}{ds:List D}
theorem lF{b fin:Bool}{Q:Bool->Shared->Prop}:∀{xs ys:List Value}{is js:List Int}{i:Nat},IntsAre xs is->IntsAre ys js->fin=decide (is.length<js.length)->Q (aY is js) s->KatLex prog w A b fin Q (xs.zip ys) i s
 |_,_,_,_,_,.nil,.nil,e,h=>by subst e;exact kat_nil (by simpa[aY]using h)|_,_,_,_,_,.nil,.cons _ _ _,e,h=>by subst e;exact kat_nil (by simpa[aY]using h)|_,_,_,_,_,.cons _ _ _,.nil,e,h=>by subst e;exact kat_nil (by simpa[aY]using h)|_,_,_,_,i,.cons (ns:=is) x t r,.cons (ns:=js) y u r',e,h=>by
   refine kat_cons (wpAny_eqBool_int ?_);by_cases q:x=y;.subst q;rw[beq_self_eq_true];refine kat_yes (lF r r' (by rw[e];simp) ?_);simpa[aY]using h
   . rw[beq_eq_false_iff_ne.mpr q];refine kat_no ?_;have a:Q (decide (x<y)) s:=by simpa[aY,q]using h
     cases(b&&i==0)with|true=>exact oneLt_int a|false=>exact kat_one _ _ (wpAny_lt_int a)
def lR(h:Heap)(u:Value)(d:D):Prop:=∃a b is,u=.ref a/\IsTup h a (toArray b)/\IntsAre b is/\is≠[]/\bY d=is
theorem j8{h h':Heap}(k:∀b o,h.get? b=some o->h'.get? b=some o){u:Value}{d:D}(t:lR h u d):lR h' u d:=by obtain⟨a,c,is,e,⟨o,h1,f⟩,g⟩:=t;exact⟨a,c,is,e,⟨o,k _ _ h1,f⟩,g⟩
theorem p8{h h':Heap}(k:∀b o,h.get? b=some o->h'.get? b=some o):∀{a:List Value}{ds:List D},Paired (lR h) a ds->Paired (lR h') a ds|_,_,.nil=>.nil|_,_,.cons r t=>.cons (j8 k r) (p8 k t)
theorem lG{h:Heap}:∀{b:List Value}{ds:List D},Paired (lR h) b ds->∃fs,KatTups h b fs/\fs.length=b.length/\∀f∈fs,∃n t,f=Value.int n t|_,_,.nil=>⟨[],trivial,rfl,by simp⟩|_,_,.cons r t=>by obtain⟨fs,h1,e,g⟩:=lG t;obtain⟨a,i,is,rfl,⟨o,j,k,n,l⟩,hi,c,_⟩:=r;cases hi with|nil=>exact absurd rfl c|cons x m p=>
     refine⟨.int x m::fs,KatTups.cons j k l (by simp) h1,by simp[e],λf hf=>?_⟩;rcases mem_cons.mp hf with rfl|hf;.exact⟨_,_,rfl⟩
     .exact g f hf
theorem zJ{ds:List D}(t:Paired (lR s.heap) vs ds)(e:2<=vs.length){C:SortKind->Shared->Prop}(a:C (tuples' (Value.type "int"!=Value.type "tuple")) s):wpAny (model prog w) A (keyKind' vs.toArray) C E s:=by obtain⟨fs,h1,f,b⟩:=lG t;refine kat_kind (T:=.type "int") h1 (by omega) (λv c=>?_) rfl a;obtain⟨n,t,rfl⟩:=b v c;exact Looks.now
theorem Hg{x y:Value}{d e:D}(h:lR s.heap x d)(i:lR s.heap y e){b:Bool}{C:Bool->Shared->Prop}(c:C (aY (bY d) (bY e)) s):wpAny (model prog w) A (keyLt' (tuples' b) x y) C E s:=by obtain⟨a,j,is,rfl,⟨o,k,u,n,l⟩,hi,m,p⟩:=h;obtain⟨v,its',js,rfl,⟨z,q,B,G,r⟩,f,g,t⟩:=i;refine kat_lt k l q r ?_;rw[p,t]at c;refine lF (is:=is) (js:=js) (by simpa using hi) (by simpa using f) ?_ c;rw[size_toArray,size_toArray,IntsAre.length hi,IntsAre.length f]
end
theorem Aw{xs:List V}{a:List Value}(h:Vals xs a)(i:Nat):RelV (xs.getD i .non) (a.getD i .none):=by
 have f:=h.length;by_cases hi:i<xs.length
 . obtain⟨u,e,r⟩:=h.get (i:=i) (x:=xs[i]) (getElem?_eq_getElem hi);have b:xs.getD i .non=xs[i]:=by simp[hi]
   have c:a.getD i .none=u:=by simp[e]
   rw[b,c];exact r
 . have b:xs.getD i .non=.non:=by simp[Nat.le_of_not_lt hi]
   have c:a.getD i .none=.none:=by simp[show a.length<=i by omega]
   rw[b,c];rfl
theorem uz{f:Nat->V}{g:Nat->Value}(h:∀i,RelV (f i) (g i)):∀l:List Nat,Vals (l.map f) (l.map g)|[]=>.nil|i::l=>.cons (h i) (uz h l)
theorem Br{p:List Nat}{xs:List V}{a:List Value}(h:Vals xs a):Vals (pick .non p xs) (pick .none p a):=uz (Aw h) _
theorem u9{K:PySem.W.Frag}{F:Hp}{f:Nat->V}{g:Nat->D}(h:∀i,Rep K F (f i) (g i)):∀l:List Nat,aB K F (l.map f) (l.map g)|[]=>.nil|i::l=>.cons (h i) (u9 h l)
theorem Ec{K:PySem.W.Frag}{F:Hp}{p:List Nat}{xs:List V}{a:List D}(h:aB K F xs a):aB K F (pick .non p xs) (pick .non p a):=u9 (λi=>by
 have f:=h.length;by_cases hi:i<a.length
 . obtain⟨u,e,r⟩:=h.get (i:=i) (d:=a[i]) (getElem?_eq_getElem hi);have b:a.getD i .non=a[i]:=by simp[hi]
   have c:xs.getD i .non=u:=by simp[e]
   rw[b,c];exact r
 . have b:a.getD i .non=.non:=by simp[Nat.le_of_not_lt hi]
   have c:xs.getD i .non=.non:=by simp[show xs.length<=i by omega]
   rw[b,c,Rep]) _
theorem Ew{a:List Value}:∀{ns b:List Int},IntsAre a ns->IntsAre a b->ns=b:=by induction a with|nil=>intro ns b h1 c;cases h1;cases c;rfl|cons u a e=>intro ns b h1 c;cases h1 with|cons n t r=>cases c with|cons m t' f=>rw[e r f]
theorem Ie{h:Heap}(u:Value)(d e:D):lR h u d->lR h u e->bY d=bY e:=λ⟨a,i,is,h1,⟨o,j,t,n,k⟩,l,_,p⟩⟨b,q,js,c,⟨v,f,w,m,g⟩,r,_,s⟩=>by rw[h1]at c;cases c;rw[j]at f;cases f;rw[k]at g;cases g;rw[p,s,Ew l r]
theorem all_ints:∀{a:List D},a.all fB=true->a=(a.map lY).map D.int
 |[],_=>rfl|d::a,h=>by
   simp only[all_cons,and_eq_true]at h;cases d<;>first|(have q:=h.1;simp[fB]at q;done)|skip
   rw[map_cons,map_cons,<-all_ints h.2];rfl
theorem intsAre_of:∀{ns:List Int}{a:List Value},Vals (ns.map V.int) a->IntsAre a ns|[],_,.nil=>.nil|n::ns,_,.cons r t=>by obtain⟨b,rfl⟩:=r;exact .cons n b (intsAre_of t)
section
variable{X:Cx}{c:Call}{a:Expr}{pa:P}{pos:Pos}
theorem boot_sorted:bootBuiltins "sorted"=some (.builtin "sorted"):=by decide+kernel
end
end HH
end
section
namespace HH
open PySem L2 PySem.Spec PyProof.Rows PySem.Calls
theorem vX(l b:Addr)(items a:List Value)(n H:Nat)(I o:Option Addr)(sl r:Array (Option Value))(is js:List Int)(hi:IntsAre items is)(G:IntsAre a js):Meets (Builtin.«tuple.__lt__» ⟨[.ref l,.ref b],[]⟩) (λA R s=>s.heap.get? l=some {cls:=.type "tuple",dict:=I,data:=.seq items.toArray n,slots:=sl}/\s.heap.get? b=some {cls:=.type "tuple",dict:=o,data:=.seq a.toArray H,slots:=r}/\R (.ok (.ret (.bool (aY is js)))) s):=.of_wp λprog w A R s h=>by
  obtain⟨v,g,d,z,os⟩:=s;obtain⟨J,L,h⟩:=h;have f2:=AutoSeq1.sub_tuple_tuple;wp_walk using wpAny_loadPart' J,wpAny_loadPart' L,wpAny_forIn_list _ (λf b B=>b.1=none/\B=⟨v,g,d,z,os⟩/\∃xs ys c j,f=xs.zip ys/\IntsAre xs c/\IntsAre ys j/\decide (items.length<a.length)=decide (c.length<j.length)/\R (.ok (.ret (.bool (aY c j)))) ⟨v,g,d,z,os⟩) _;case turn=>rintro⟨y,x⟩f b B⟨i,rfl,xs,ys,c,j,hz,h1,k,C,m⟩;cases h1 with|nil=>cases hz|cons p t h1=>cases k with|nil=>cases hz|cons q u k=>
       injection hz with hyx hrest;cases hyx;refine wpAny_bind (wpAny_eqBool_int ?_);by_cases e:p=q;.subst e;rw[beq_self_eq_true];wp_walk;exact⟨rfl,rfl,_,_,_,_,hrest,h1,k,by rw[C];simp,by simpa[aY]using m⟩
       . rw[beq_eq_false_iff_ne.mpr e];have E:R (.ok (.ret (.bool (decide (p<q))))) ⟨v,g,d,z,os⟩:=by simpa[aY,e]using m
         simp only[Bool.not_false,if_true];refine wpAny_bind (wpAny_rule ?_);refine wpAny_bind (show wpAny (model prog w) A.in1 (compareOp .Lt (Value.int p t) (Value.int q u)) _ _ _ from wpAny_lt_int ?_);refine wpAny_bind (wpAny_pure ?_);exact wpAny_pure (wpAny_pure ⟨_,rfl,E⟩)
  case fin=>
   rintro⟨b1,b2⟩B⟨i,rfl,xs,ys,c,j,hz,h1,k,C,m⟩;simp only at i;subst i;have e:aY c j=decide (items.length<a.length):=by rw[C];cases h1 with|nil=>cases k<;>simp[aY]|cons _ _ _=>cases k with|nil=>simp[aY]|cons _ _ _=>cases hz
   rw[e]at m;wp_walk;exact⟨_,rfl,by simpa[Builtin.Tuple.tupleCompareSizes]using m⟩
  case h=>exact⟨rfl,rfl,items,a,is,js,by simp,hi,G,by rw[IntsAre.length hi,IntsAre.length G],h⟩
section
variable{X:Cx}
theorem Ml(hu:X.A.units+8<cLine):fH X (compareOp .Lt) (rD X.K (uE .lt)):=by rintro f s σ H x y v u Q I G J⟨F,d,e,r,sm,L,M,he,k⟩;obtain⟨t,c,q⟩:=map_some (show(U6 d e).map _=some r from he);subst q;cases d with
 |int i=>cases e with|int j=>exact Li f s σ H x y v u Q I G J ⟨F,.int i,.int j,_,sm,L,M,by have q:Gx (λi j=>decide (i<j)) (.int i) (.int j)=some t:=c;simp only[q];rfl,k⟩|_=>cases c
 |tup xs=>cases e with|tup ys=>obtain⟨hc,c⟩:=aO (show(if(xs.all fB&&ys.all fB)=true then some (aY (xs.map lY) (ys.map lY))else none)=some t from c);rw[and_eq_true]at hc;obtain⟨a,vs,rfl,h1,N,_⟩:=L.tup sm;obtain⟨b,ws,rfl,Y,O,_⟩:=M.tup sm;cases G;cases J;obtain⟨z,U,it,_⟩:=I.tuple h1;obtain⟨g,h,B,_⟩:=I.tuple Y;rw[all_ints hc.1]at N;rw[all_ints hc.2]at O;rw[gj N]at U;rw[gj O]at h;have Z:=intsAre_of U;have i2:=intsAre_of h;obtain⟨⟨cls,dd,data,sl⟩,ho,l,n,hd⟩:=it;obtain⟨⟨W,C,data2,E⟩,m,o,n2,p⟩:=B;simp only at l hd o p;subst l hd o p;refine(show wpAny (model X.prog X.w) X.A (richCompare .Lt (.ref a) (.ref b)) _ _ s from richCompare_meets_room (op:=.Lt) ⟨_,ho,rfl⟩ ⟨_,m,rfl⟩ PySem.F.slot_tuple_lt PySem.F.entry_tuple_lt (PySem.F.args_tuple_lt_2 _ _) (vX a b z g n n2 dd C sl E _ _ Z i2) ⟨ho,m,show Value.bool _≠Value.notImplemented/\_ from⟨(λx=>nomatch x),⟨.bl t,H,I,by rw[<-c];rfl,bG.cj sm (fO _) k⟩⟩⟩ (by omega))|_=>cases c
 |_=>cases c
end
end HH
end
section
namespace L2
open PySem PySem.Spec PyProof.Rows
variable{y:V}{w:World}{H:Hp}{Q:Value->Shared->Prop}{pos:Pos}{X:Cx}
section
variable{κ:Type}[DecidableEq κ]
noncomputable def gR(kvs:List (κ×V))(k:κ):Option V:=(kvs.find? λa=>decide (a.1=k)).map (·.2)
noncomputable def putK(kvs:List (κ×V))(k:κ)(v:V):List (κ×V):=if(kvs.any λa=>decide (a.1=k))=true then kvs.map (λa=>if a.1=k then(a.1,v)else a)else kvs++[(k,v)]
theorem jJ{p:κ×V}{r:List (κ×V)}{k:κ}(e:p.1=k):gR (p::r) k=some p.2:=by simp[gR,find?_cons,e]
theorem j4{p:κ×V}{r:List (κ×V)}{k:κ}(e:¬ p.1=k):gR (p::r) k=gR r k:=by simp[gR,find?_cons,e]
theorem nD(k:κ):∀kvs:List (κ×V),(kvs.any λa=>decide (a.1=k))=(gR kvs k).isSome
 |[]=>rfl|p::r=>by
   rw[any_cons];by_cases e:p.1=k;.simp only[jJ e,decide_eq_true e,Bool.true_or,Option.isSome_some]
   .rw[j4 e,decide_eq_false e,Bool.false_or];exact nD k r
theorem iD(kvs:List (κ×V))(k:κ)(v:V):(putK kvs k v).length<=kvs.length+1:=by
 unfold putK;split;.rw[length_map];omega
 .rw[length_append,length_cons,length_nil];omega
theorem lU.gk{o:Option V}{u:Option Value}(r:lU o u):o.isSome=u.isSome:=by cases o with
 |none=>cases u with|none=>rfl|some _=>exact(show False from r).elim
 |some _=>cases u with|none=>exact(show False from r).elim|some _=>rfl
theorem lU.getD{o:Option V}{u:Option Value}{d:V}{d':Value}(r:lU o u)(a:RelV d d'):RelV (o.getD d) (u.getD d'):=by cases o with
 |none=>cases u with|none=>exact a|some _=>exact(show False from r).elim
 |some _=>cases u with|none=>exact(show False from r).elim|some _=>exact r
theorem KV.val{kvs:List (κ×V)}{vs:List (κ×Value)}(r:KV kvs vs)(k:κ):lU (gR kvs k) (valueAt vs k):=by unfold KV at r;induction r with|nil=>exact True.intro|@cons p q ps a h t f=>
   obtain⟨h1,g⟩:=h;by_cases e:p.1=k
   . have c:q.1=k:=h1.symm.trans e;have b:valueAt (q::a) k=some q.2:=by simp[valueAt,find?_cons,c]
     rw[jJ e,b];exact g
   . have c:¬ q.1=k:=λz=>e (h1.trans z);have b:valueAt (q::a) k=valueAt a k:=by simp[valueAt,find?_cons,c]
     rw[j4 e,b];exact f
theorem KV.any{kvs:List (κ×V)}{vs:List (κ×Value)}(r:KV kvs vs)(k:κ):(kvs.any λa=>decide (a.1=k))=vs.any λa=>decide (a.1=k):=by unfold KV at r;induction r with|nil=>rfl|cons h t b=>rw[any_cons,any_cons,b,h.1]
theorem KV.repl{kvs:List (κ×V)}{vs:List (κ×Value)}(r:KV kvs vs)(k:κ){u:Value}(b:RelV y u):KV (kvs.map λa=>if a.1=k then(a.1,y)else a) (vs.map λa=>if a.1=k then(a.1,u)else a):=by unfold KV at r ⊢;induction r with|nil=>exact .nil|@cons p q ps g h t c=>
   rw[map_cons,map_cons];refine .cons ?_ c;obtain⟨h1,f⟩:=h;by_cases e:p.1=k;.rw[if_pos e,if_pos (h1.symm.trans e)];exact⟨h1,b⟩
   .rw[if_neg e,if_neg (λz=>e (h1.trans z))];exact⟨h1,f⟩
theorem KV.put{kvs:List (κ×V)}{vs:List (κ×Value)}(r:KV kvs vs)(k:κ){u:Value}(a:RelV y u):KV (putK kvs k y) (stored vs k u):=by
 unfold putK stored;rw[r.any k];by_cases e:(vs.any λb=>decide (b.1=k))=true;.rw[if_pos e,if_pos e];exact r.repl k a
 .rw[if_neg e,if_neg e];exact Paired.snoc r ⟨rfl,a⟩
theorem KV.length{kvs:List (κ×V)}{vs:List (κ×Value)}(r:KV kvs vs):kvs.length=vs.length:=Paired.length r
end
theorem oh{P:Program}{k:Key}{u:Value}(r:RelV (kV k) u):(aQ P w).is k u=true:=by cases k with|inl i=>obtain⟨t,e⟩:=(show ∃t,u=Value.int i t from r);subst e;exact vf P w i t|inr x=>obtain⟨t,e⟩:=(show ∃t,u=Value.str x t from r);subst e;exact uF P w x t
theorem pW{P:Program}{w:World}:∀{ks:List Key}{a:List Value},Vals (ks.map kV) a->ItemsAre (aQ P w) ks a|[],_,r=>by rw[map_nil]at r;cases r;exact .nil|k::ks,_,r=>by rw[map_cons]at r;cases r with|cons h t=>exact .cons (oh h) (pW t)
abbrev KT(H:Hp):List (List Key×V)->List (List Key×Addr×Value)->Prop:=Paired λp q=>p.1=q.1/\H q.2.1=some (.tup (p.1.map kV))/\RelV p.2 q.2.2
theorem KT.val{kvs:List (List Key×V)}{xs:List (List Key×Addr×Value)}(r:KT H kvs xs)(k:List Key):lU (gR kvs k) ((atKey xs k).map (·.2)):=by induction r with|nil=>exact True.intro|@cons p q ps a h t f=>
   obtain⟨h1,_,g⟩:=h;by_cases e:p.1=k
   . have c:q.1=k:=h1.symm.trans e;have b:atKey (q::a) k=some q.2:=by simp[atKey,find?_cons,c]
     rw[jJ e,b];exact g
   . have c:¬ q.1=k:=λz=>e (h1.trans z);have b:atKey (q::a) k=atKey a k:=by simp[atKey,find?_cons,c]
     rw[j4 e,b];exact f
theorem KT.repl{kvs:List (List Key×V)}{xs:List (List Key×Addr×Value)}(r:KT H kvs xs)(k:List Key){u:Value}(c:RelV y u):KT H (kvs.map λa=>if a.1=k then(a.1,y)else a) (xs.map (putAt k u)):=by induction r with|nil=>exact .nil|@cons p q ps i h t f=>
   rw[map_cons,map_cons];refine .cons ?_ f;obtain⟨h1,b,g⟩:=h;unfold putAt;by_cases e:p.1=k;.rw[if_pos e,if_pos (h1.symm.trans e)];exact⟨h1,b,c⟩
   .rw[if_neg e,if_neg (λz=>e (h1.trans z))];exact⟨h1,b,g⟩
theorem KT.put{kvs:List (List Key×V)}{xs:List (List Key×Addr×Value)}(r:KT H kvs xs)(k:List Key){b:Addr}{u:Value}(c:H b=some (.tup (k.map kV)))(a:RelV y u):KT H (putK kvs k y) (storedH xs k b u):=by
 have e:(kvs.any λf=>decide (f.1=k))=(atKey xs k).isSome:=by rw[nD,(r.val k).gk,isSome_map]
 unfold putK storedH;rw[e];by_cases q:(atKey xs k).isSome=true;.rw[if_pos q,if_pos q];exact r.repl k a
 .rw[if_neg q,if_neg q];exact Paired.snoc r ⟨rfl,c,a⟩
theorem KT.keeps{a:Hp}{kvs:List (List Key×V)}{xs:List (List Key×Addr×Value)}(r:KT H kvs xs)(ht:∀b ys,H b=some (.tup ys)->a b=some (.tup ys)):KT a kvs xs:=Paired.Og r λ_ _ z=>⟨z.1,ht _ _ z.2.1,z.2.2⟩
section
variable{P:Program}{w:World}{H:Hp}{h:Heap}{a:Addr}
theorem JX{u:HO}(ok:j6 P w H h)(e:Rd H a u):bj P w H h a u:=e.ok ok
theorem nJ{kvs:List (Key×V)}(ok:j6 P w H h)(e:Rd H a (.dK kvs)):kvs.length<=sizeLine/\(a==sysModules)=false/\∃vs,KV kvs vs/\h.DictOf (aQ P w) a vs:=show bj P w H h a (.dK kvs)from JX ok e
theorem JL{kvs:List (Key×V)}(ok:j6 P w H h)(e:H a=some (.dK kvs)):kvs.length<=sizeLine/\(a==sysModules)=false/\∃vs,KV kvs vs/\h.DictOf (aQ P w) a vs:=nJ ok (.inl e)
theorem lC{ks:List Key}(ok:j6 P w H h)(e:H a=some (.tup (ks.map kV))):(tupleKind (aQ P w)).is h ks a:=by obtain⟨_,b,r,o,h1,c,n,f⟩:=(show bj P w H h a (.tup (ks.map kV))from ok a _ e);exact⟨o,b.toArray,n,h1,c,f,by simpa using pW r⟩
theorem nU{kvs:List (List Key×V)}(ok:j6 P w H h)(e:Rd H a (.dT kvs)):kvs.length<=sizeLine/\(a==sysModules)=false/\∃xs,KT H kvs xs/\h.DictOfH (tupleKind (aQ P w)) a xs:=by
 obtain⟨z,y,xs,r,o,es,ep,h1,c,f,g,i⟩:=(show bj P w H h a (.dT kvs)from JX ok e);refine⟨z,y,xs,r,o,es,ep,h1,c,f,g,λx hx=>?_,i⟩;have all:∀{l:List (List Key×V)}{m:List (List Key×Addr×Value)},KT H l m->∀x∈m,(tupleKind (aQ P w)).is h x.1 x.2.1:=by intro l m q;induction q with|nil=>intro x hx;exact nomatch hx|@cons p q ps k b t j=>
    intro x hx;rcases mem_cons.mp hx with e|hx;.subst e;exact lC ok (by rw[<-b.1];exact b.2.1)
    .exact j x hx
 exact all r x hx
theorem Su{kvs:List (List Key×V)}(ok:j6 P w H h)(e:H a=some (.dT kvs)):kvs.length<=sizeLine/\(a==sysModules)=false/\∃xs,KT H kvs xs/\h.DictOfH (tupleKind (aQ P w)) a xs:=nU ok (.inl e)
end
def kO(H:Hp)(a:Addr)(y:V)(r:Option V):Prop:=(∃kvs k,Rd H a (.dK kvs)/\y=kV k/\r=gR kvs k)\/∃kvs k b,Rd H a (.dT kvs)/\y=.ref b/\H b=some (.tup (k.map kV))/\r=gR kvs k
def Ua(H:Hp)(a:Addr)(y v:V)(c:Hp):Prop:=(∃kvs k,H a=some (.dK kvs)/\y=kV k/\kvs.length<sizeLine/\c=upd H a (.dK (putK kvs k v)))\/∃kvs k b,H a=some (.dT kvs)/\y=.ref b/\H b=some (.tup (k.map kV))/\kvs.length<sizeLine/\c=upd H a (.dT (putK kvs k v))
section
variable{X:Cx}{pins:List (Addr×Obj)}{σ:St}{H:Hp}{s:Shared}{a:Addr}{y v:V}{u r:Value}{o:Option V}{A:Around}{E:Value->Shared->Prop}
theorem Inv.big(I:Inv X pins σ H s):sysModules<s.heap.objs.size:=by have h:mainGlobals<s.heap.objs.size:=(I.mod.glob.keeps I.bk).lt;exact Nat.lt_trans (by decide) h
theorem lg(B:A.units+1<cLine)(I:Inv X pins σ H s)(g:kO H a y (some v))(t:RelV y u)(h:∀f x,Inv X pins σ H x->RelV v f->Q f x):wpAny (model X.prog X.w) A (getItem (.ref a) u) Q E s:=by
 rcases g with⟨kvs,k,e,i,l⟩|⟨kvs,k,b,e,i,C,l⟩;.subst i;obtain⟨z,hd,vs,c,j⟩:=nJ I.hok e;obtain⟨f,m,n⟩:=lU.some_of (v:=v) (o:=valueAt vs k) (by rw[l];exact c.val k);exact wpAny_getItem_of (oh t) j.mapOf m (h f _ (I.tok _) n)
 .subst i;cases(show u=Value.ref b from t);obtain⟨z,hd,xs,c,j⟩:=nU I.hok e;obtain⟨f,m,n⟩:=lU.some_of (v:=v) (o:=(atKey xs k).map (·.2)) (by rw[l];exact c.val k);obtain⟨p,G,q⟩:=map_eq_some_iff.mp m;refine wpAny_getItem_heap (tupleKind_room_in1 B) (lC I.hok C) j G ?_;rw[q];exact h f _ (I.tok _) n
theorem Tw(n:A.units+1<cLine)(I:Inv X pins σ H s)(g:kO H a y o)(j:RelV y u)(h:∀m,Inv X pins σ H m->Q (.bool o.isSome) m):wpAny (model X.prog X.w) A (compareOp .In u (.ref a)) Q E s:=by
 rcases g with⟨kvs,k,e,f,l⟩|⟨kvs,k,b,e,f,p,l⟩;.subst f;obtain⟨z,hd,vs,c,i⟩:=nJ I.hok e;refine wpAny_in_of (oh j) hd i.mapOf ?_;rw[<-(c.val k).gk,<-l];exact h _ (I.tok _)
 .subst f;cases(show u=Value.ref b from j);obtain⟨z,hd,xs,c,i⟩:=nU I.hok e;refine wpAny_in_heap (tupleKind_room_in1 n) (lC I.hok p) hd i ?_;have q:=(c.val k).gk;rw[isSome_map]at q;rw[<-q,<-l];exact h _ (I.tok _)
theorem xT(n:A.units+1<cLine)(I:Inv X pins σ H s)(g:kO H a y o)(j:RelV y u)(h:∀m,Inv X pins σ H m->Q (.bool (!o.isSome)) m):wpAny (model X.prog X.w) A (compareOp .NotIn u (.ref a)) Q E s:=by
 rcases g with⟨kvs,k,e,f,l⟩|⟨kvs,k,b,e,f,p,l⟩;.subst f;obtain⟨z,hd,vs,c,i⟩:=nJ I.hok e;refine wpAny_notIn_of (oh j) hd i.mapOf ?_;rw[<-(c.val k).gk,<-l];exact h _ (I.tok _)
 .subst f;cases(show u=Value.ref b from j);obtain⟨z,hd,xs,c,i⟩:=nU I.hok e;refine wpAny_notIn_heap (tupleKind_room_in1 n) (lC I.hok p) hd i ?_;have q:=(c.val k).gk;rw[isSome_map]at q;rw[<-q,<-l];exact h _ (I.tok _)
theorem rQ{h':Heap}{t':Nat}{c:HO}(I:Inv X pins σ H s)(g:TX (H a))(hs:SameBut a s.heap h')(he:∃q,h'.get? a=some q)(f:bj X.prog X.w (upd H a c) h' a c):Inv X pins σ (upd H a c) {s with heap:=h',toks:=t'}:=I.write (x:=a) (e:=a) g (.inl rfl) (λb q h z=>(hs.2 b h).trans z) he f
theorem Eg{P:Program}{c:Hp}{h':Heap}{kvs:List (Key×V)}{vs:List (Key×Value)}(z:kvs.length<=sizeLine)(hd:(a==sysModules)=false)(b:KV kvs vs)(e:h'.DictOf (aQ P w) a vs):bj P w c h' a (.dK kvs):=⟨z,hd,vs,b,e⟩
theorem zL{x:Hp}{Q:Unit->Shared->Prop}(M:A.units+1<cLine)(I:Inv X pins σ H s)(g:Ua H a y v x)(B:RelV y u)(C:RelV v r)(h:∀G,Inv X pins σ x G->Q () G):wpAny (model X.prog X.w) A (setItem (.ref a) u r) Q E s:=by
 rcases g with⟨kvs,k,e,m,l,n⟩|⟨kvs,k,b,e,m,J,l,n⟩
 . subst m n;obtain⟨z,hd,vs,f,p⟩:=JL I.hok e;have hz:vs.length<=sizeLine:=by rw[<-f.length];exact z
   have t:(putK kvs k v).length<=sizeLine:=by have:=iD kvs k v;omega
   refine wpAny_setItem_pairs (hsz:=hz) (oh B) p λh' i hs=>h _ ?_;have he:∃q,h'.get? a=some q:=let⟨q,_,_,j,_⟩:=i;⟨q,j⟩;exact rQ I (by rw[e];exact True.intro) hs he (Eg t hd (f.put k C) i)
 . subst m n;cases(show u=Value.ref b from B);obtain⟨z,hd,xs,f,p⟩:=Su I.hok e;have hz:xs.length<=sizeLine:=by rw[<-Paired.length f];exact z
   have t:(putK kvs k v).length<=sizeLine:=by have:=iD kvs k v;omega
   refine wpAny_setItem_heap (hsz:=hz) (tupleKind_room_in1 M) (lC I.hok J) p λh' i hs=>h _ ?_;obtain⟨q,es,ep,j,N,O,U,_,W⟩:=i;refine rQ I (by rw[e];exact True.intro) hs ⟨q,j⟩ ⟨t,hd,_,(f.put k J C).keeps λc ys L=>?_,q,es,ep,j,N,O,U,W⟩;rw[ao (Vg L e (λz=>nomatch z))];exact L
end
def Jf(i:Expr):Prop:=∀a iv,subscripted i false a iv=operate [a,iv] (getItem a iv)
theorem xQ{prog:Program}{A:Around}{E:Value->Shared->Prop}{s:Shared}{env:Env}{a slice:Expr}{T id:String}(l:typeLookup (.type T) "__getitem__"=pure (some (.builtin id)))(hs:Jf slice)(h:wpAny (model prog w) A (eval a env) (λo e=>wpAny (model prog w) A (eval slice env) (λi b=>b.TypeIs o T/\wpAny (model prog w) A (getItem o i) Q E b) E e) E s):wpAny (model prog w) A (eval (.Subscript a slice pos) env) Q E s:=by
 refine Subscript_ (wpAny_mono h (λo e g=>wpAny_mono g (λi b c=>?_) λ_ _ x=>x) λ_ _ x=>x);obtain⟨k,c⟩:=c;unfold subscriptTail;refine wpAny_bind ?_;rw[getitemInPython_of_ne k.not_modules];refine wpAny_bind (wpAny_specialOf k l ?_);have fin:wpAny (model prog w) A (subscripted slice false o i) (λr f=>wpAny (model prog w) A (letTemporaryGo a o r>>=λ_=>pure r) Q E f) E b:=by rw[hs o i];exact wpAny_operating (wpAny_mono c (λr f j=>wpAny_bind (wpAny_letTemporaryGo (wpAny_pure j))) λ_ _ x=>x)
 first|exact wpAny_pure (wpAny_bind fin)|exact wpAny_bind (wpAny_pure (wpAny_bind fin))|exact wpAny_bind fin
theorem gY{c:List (Addr×Obj)}{σ:St}{s:Shared}{a:Addr}{o:Option V}(I:Inv X c σ H s)(g:kO H a y o):s.TypeIs (.ref a) "dict":=by
 rcases g with⟨kvs,k,e,_,_⟩|⟨kvs,k,b,e,_,_,_⟩;.obtain⟨_,_,vs,_,f⟩:=nJ I.hok e;exact f.typeIs
 .obtain⟨_,_,xs,_,f⟩:=nU I.hok e;exact f.typeIs
def Uz(c ty:TE):TE:=λσ H Q=>c σ H λx e=>ty σ e λy b=>∃a v,x=.ref a/\kO b a y (some v)/\Q v b
def YT(ty c:TE):TE:=λσ H Q=>ty σ H λy e=>c σ e λx b=>∃a o,x=.ref a/\kO b a y o/\Q (.bl o.isSome) b
def GJ(ty c:TE):TE:=λσ H Q=>ty σ H λy e=>c σ e λx b=>∃a o,x=.ref a/\kO b a y o/\Q (.bl (!o.isSome)) b
def T6(c ty e:TE):TS:=λD σ H=>e σ H λv f=>c σ f λx g=>ty σ g λy h=>∃a b,x=.ref a/\Ua h a y v b/\D.nx σ b
section
variable{X:Cx}{o i e value:Expr}{pos pos' tpos:Pos}{td ty tv:TE}
theorem Jc(c:X.A.units+1<cLine)(ho:PE X o td)(hi:PE X i ty)(hs:Jf i):PE X (.Subscript o i pos) (Uz td ty):=by intro b s σ H Q I h;refine xQ PySem.F.slot_dict_getitem.lookup hs (bH (ho b s σ H _ I h) λu s1⟨x,H1,I1,rx,q1⟩=>bH (hi b s1 σ H1 _ I1 q1) λiv s2⟨y,H2,I2,ry,a,v,ex,g,q2⟩=>?_);subst ex;obtain rfl:u=Value.ref a:=rx;exact⟨gY I2 g,lg c I2 g ry λk s3 f j=>⟨v,H2,f,j,q2⟩⟩
theorem Ma(c:X.A.units+1<cLine)(hi:PE X i ty)(ho:PE X o td):PC X .In i o (YT ty td):=by intro b s σ H Q I h;refine bH (hi b s σ H _ I h) λiv s1⟨y,H1,I1,ry,q1⟩=>bH (ho b s1 σ H1 _ I1 q1) λu s2⟨x,H2,I2,rx,a,ov,ex,g,q2⟩=>?_;subst ex;obtain rfl:u=Value.ref a:=rx;exact Tw c I2 g ry λs3 f=>⟨.bl ov.isSome,H2,f,rfl,q2⟩
theorem Af(c:X.A.units+1<cLine)(hi:PE X i ty)(ho:PE X o td):PC X .NotIn i o (GJ ty td):=by intro b s σ H Q I h;refine bH (hi b s σ H _ I h) λiv s1⟨y,H1,I1,ry,q1⟩=>bH (ho b s1 σ H1 _ I1 q1) λu s2⟨x,H2,I2,rx,a,ov,ex,g,q2⟩=>?_;subst ex;obtain rfl:u=Value.ref a:=rx;exact xT c I2 g ry λs3 f=>⟨.bl (!ov.isSome),H2,f,rfl,q2⟩
theorem xF(c:X.A.units+1<cLine)(ho:PE X o td)(hi:PE X i ty)(f:PE X value tv)(hs:swapsWith value (some (.Subscript o i pos')) pos.line X.env=pure false):PS X (.Assign [.Subscript o i pos'] value pos) (T6 td ty tv):=by intro b s σ H D I h;refine wpAny_Assign_Subscript (bH (f b s σ H _ I h) λr s1⟨v,H1,I1,rv,q1⟩=>bH (ho b s1 σ H1 _ I1 q1) λu s2⟨x,H2,I2,rx,q2⟩=>bH (hi b s2 σ H2 _ I2 q2) λiv s3⟨y,H3,I3,ry,a,H4,ex,g,q3⟩=>?_) hs;subst ex;obtain rfl:u=Value.ref a:=rx;exact zL c I3 g ry rv λs4 j=>⟨σ,H4,j,q3⟩
end
theorem ug{P:Program}(h:Heap)(a:sysModules<h.objs.size):bj P w H (h.push {cls:=.type "dict",data:=.dict #[]}) h.objs.size (.dK []):=⟨rK,beq_eq_false_iff_ne.mpr (Ne.symm (ne_of_lt a)),[],.nil,Heap.DictOf.new h⟩
def P0:TE:=λ_ H Q=>∀p,H p=none->Q (.ref p) (upd H p (.dK []))
section
variable{X:Cx}{pos:Pos}
theorem tM:PE X (.Dict [] [] pos) P0:=λb s σ H Q I h=>wpAny_Dict_empty ⟨.ref s.heap.objs.size,_,I.laid (a:=s.heap.objs.size) (o:=.dK []) (t':=s.toks) (λ_ _ q=>gb q) (cL) (ug s.heap I.big),rfl,h _ (I.hok.fresh (cL))⟩
end
def vH:List (TE×TE)->St->Hp->(List (V×V)->Hp->Prop)->Prop|[],_,H,Q=>Q [] H|(a,b)::r,σ,H,Q=>a σ H λx c=>b σ c λy e=>vH r σ e λps f=>Q ((x,y)::ps) f
abbrev VV:List (V×V)->List (Value×Value)->Prop:=Paired λp q=>RelV p.1 q.1/\RelV p.2 q.2
def XC(X:Cx)(pos:Pos)(keys:List (Option Expr))(a:List Expr)(e:List (TE×TE)):Prop:=∀(b:List (Addr × Obj))(s:Shared)(σ:St)(H:Hp)(Q:List (V × V)->Hp->Prop),Inv X b σ H s->vH e σ H Q->wpAny (model X.prog X.w) X.A (evalPairs (pairTrees keys a X.env pos)) (λvs f=>∃ps c,Inv X b σ c f/\VV ps vs/\Q ps c) X.xe s
theorem Hr:XC X pos [] [] []:=λa s σ H Q I h=>pairTrees_nil_walk ⟨[],H,I,.nil,h⟩
theorem FJ{k v:Expr}{ks:List (Option Expr)}{vs:List Expr}{b c:TE}{e:List (TE×TE)}(f:PE X k b)(g:PE X v c)(hr:XC X pos ks vs e):XC X pos (some k::ks) (v::vs) ((b,c)::e):=λa s σ H Q I h=>pairTrees_cons_walk (bH (f a s σ H _ I h) λu s1⟨x,H1,I1,rx,q1⟩=>bH (g a s1 σ H1 _ I1 q1) λi s2⟨y,H2,I2,ry,q2⟩=>bH (hr a s2 σ H2 _ I2 q2) λws s3⟨ps,H3,I3,rel,q3⟩=>⟨(x,y)::ps,H3,I3,.cons ⟨rx,ry⟩ rel,q3⟩)
noncomputable def kW(kvs more:List (Key×V)):List (Key×V):=more.foldl (λa b=>putK a b.1 b.2) kvs
theorem KV.merge:∀{more:List (Key×V)}{a:List (Key×Value)}{kvs:List (Key×V)}{vs:List (Key×Value)},KV more a->KV kvs vs->KV (kW kvs more) (merged vs a):=by intro more a kvs vs r;unfold KV at r;induction r generalizing kvs vs with|nil=>intro q;exact q|@cons p q ps c h t b=>
   intro r0;have e:KV (putK kvs p.1 p.2) (stored vs q.1 q.2):=by have:=r0.put p.1 h.2;rw[<-h.1];exact this
   exact b e
theorem jk:∀(more kvs:List (Key×V)),(kW kvs more).length<=kvs.length+more.length|[],kvs=>by show kvs.length<=kvs.length+0;omega|p::r,kvs=>by have h1:=jk r (putK kvs p.1 p.2);have a:=iD kvs p.1 p.2;show(kW (putK kvs p.1 p.2) r).length<=_;rw[length_cons];omega
theorem n6{P:Program}{w:World}:∀{kvs:List (Key×V)}{ws:List (Value×Value)},VV (kvs.map λf=>(kV f.1,f.2)) ws->∃e,Carries (aQ P w) ws e/\KV kvs e|[],_,r=>by rw[map_nil]at r;cases r;exact⟨[],True.intro,.nil⟩|p::kvs,_,r=>by rw[map_cons]at r;cases r with|@cons a b as bs h t=>obtain⟨e,c,q⟩:=n6 (P:=P) (w:=w) t;obtain⟨b1,b2⟩:=b;exact⟨(p.1,b2)::e,⟨oh h.1,rfl,c⟩,.cons ⟨rfl,h.2⟩ q⟩
def Uc(c:List (TE×TE)):TE:=λσ H Q=>∀p,H p=none->vH c σ (upd H p (.dK [])) λps a=>a p=some (.dK [])/\∃kvs:List (Key×V),ps=kvs.map (λb=>(kV b.1,b.2))/\kvs.length<=15/\Q (.ref p) (upd a p (.dK (kW [] kvs)))
theorem Ia{keys:List (Option Expr)}{b:List Expr}{j:List (TE×TE)}(h:XC X pos keys b j)(f:keys.all (·.isSome)=true)(l:keys.length=b.length)(h0:keys≠[])(i:keys.length<=15):PE X (.Dict keys b pos) (Uc j):=by
 intro g s σ H Q I q;have m:=I.hok.fresh (le_refl s.heap.objs.size);have n:=I.laid (a:=s.heap.objs.size) (o:=.dK []) (h':=s.heap.push {cls:=.type "dict",data:=.dict #[]}) (t':=s.toks) (λ_ _ q=>gb q) (cL) (ug s.heap I.big);refine wpAny_Dict_walk (knd:=aQ X.prog X.w) f l h0 i (bH (h g _ σ _ _ n (q _ m)) λws s2⟨ps,H2,I2,rel,e,kvs,ep,lk,q2⟩=>?_);subst ep;obtain⟨p,c,r⟩:=n6 (P:=X.prog) (w:=X.w) rel;obtain⟨z,hd,t,r0,u⟩:=JL I2.hok e;cases r0;refine⟨p,c,u,λh' k hs=>⟨.ref s.heap.objs.size,_,?_,rfl,q2⟩⟩;have hz:(kW [] kvs).length<=sizeLine:=by have h1:=jk kvs [];rw[length_nil]at h1;rw[sizeLine_eq];omega
 have he:∃q,h'.get? s.heap.objs.size=some q:=let⟨q,_,_,hq,_⟩:=k;⟨q,hq⟩;exact rQ I2 (by rw[e];exact True.intro) hs he (Eg hz hd (r.merge .nil) k)
structure M2(X:Cx)(o:Expr)(m:Str)(apos:Pos)(e f:Expr)(cpos:Pos):Prop where
 base:attributeBase o m X.env (eval o X.env)=eval o X.env
 few:((backTo cpos (starEach [e,f] X.env)).all (λx=>!x.1)&&(backToKw cpos (keywordEach [] X.env)).all (λx=>x.1.isSome)&&decide (([e,f]:List Expr).length+([]:List Keyword).length+(if([]:List Keyword).isEmpty then 0 else 1)<30))=true
 line:(apos.endLine==cpos.line)=true
 trees:backTo cpos (starEach [e,f] X.env)=[(false,eval e X.env),(false,eval f X.env)]
def IsD(H:Hp)(a:Addr):Prop:=(∃kvs,Rd H a (.dK kvs))\/∃kvs,Rd H a (.dT kvs)
theorem Lg{f:List (Addr×Obj)}{σ:St}{s:Shared}{a:Addr}(I:Inv X f σ H s)(d:IsD H a):s.TypeIs (.ref a) "dict"/\(∀b,Value.ref a=.ref b->∃c,s.heap.get? b=some c/\c.dict=none)/\(a==sysModules)=false:=by
 rcases d with⟨kvs,e⟩|⟨kvs,e⟩;.obtain⟨_,hd,vs,_,g⟩:=nJ I.hok e;refine⟨g.typeIs,λb q=>?_,hd⟩;cases q;obtain⟨c,_,_,h1,h,_⟩:=g;exact⟨c,h1,h.2.1⟩
 .obtain⟨_,hd,xs,_,g⟩:=nU I.hok e;refine⟨g.typeIs,λb q=>?_,hd⟩;cases q;obtain⟨c,_,_,h1,h,_⟩:=g;exact⟨c,h1,h.2.1⟩
section
variable{X:Cx}{pins:List (Addr×Obj)}{σ:St}{H:Hp}{s:Shared}{a:Addr}{y d:V}{u r:Value}{o:Option V}{A:Around}{E:Value->Shared->Prop}
theorem Oo(q:A.units+1<cLine)(I:Inv X pins σ H s)(g:kO H a y o)(j:RelV y u)(m:RelV d r)(h:∀n p,Inv X pins σ H p->RelV (o.getD d) n->Q n p):wpAny (model X.prog X.w) A (call (.builtin "dict.get") [.ref a,u,r]) Q E s:=by
 rcases g with⟨kvs,k,e,i,l⟩|⟨kvs,k,b,e,i,t,l⟩;.subst i;obtain⟨z,hd,vs,c,f⟩:=nJ I.hok e;refine call_meetsIn slot_dict_get f.typeIs PySem.F.entry_dict_get (PySem.F.args_dict_get_3 _ _ _) (meets_dict_get_default (aQ X.prog X.w) a (oh j) hd r) ⟨_,f.mapOf,h _ _ (I.tok _) ?_⟩;rw[l];exact(c.val k).getD m
 .subst i;cases(show u=Value.ref b from j);obtain⟨z,hd,xs,c,f⟩:=nU I.hok e;refine call_meetsIn slot_dict_get f.typeIs PySem.F.entry_dict_get (PySem.F.args_dict_get_3 _ _ _) (meetsH_dict_get_default (tupleKind (aQ X.prog X.w)) a b hd r) ⟨tupleKind_room_in1 q,k,xs,lC I.hok t,f,h _ _ (I.tok _) ?_⟩;rw[l];exact(c.val k).getD m
end
def Qa(e ty f:TE):TE:=λσ H Q=>e σ H λx b=>∃a,x=.ref a/\IsD b a/\ty σ b λy g=>f σ g λz c=>∃o,kO c a y o/\Q (o.getD z) c
section
variable{X:Cx}{o e f:Expr}{apos cpos:Pos}{td ty tx:TE}
theorem Ft(c:X.A.units+1<cLine)(ho:PE X o td)(he:PE X e ty)(i:PE X f tx)(m:M2 X o "get" apos e f cpos):PE X (.Call (.Attribute o "get" apos) [e,f] [] cpos) (Qa td ty tx):=by intro b s σ H Q I h;refine wpAny_Call_method m.base m.few m.line PySem.F.plainAttrs_dict slot_dict_get PySem.F.type_dict_get (bH (ho b s σ H _ I h) λu s1⟨x,H1,I1,rx,a,ex,d,q1⟩=>?_);subst ex;obtain rfl:u=Value.ref a:=rx;obtain⟨t1,j,_⟩:=Lg I1 d;refine⟨t1,j,?_⟩;rw[m.trees];refine Calls.callWith_builtin rfl (Calls.evalArgs_plain (Calls.spliced_cons (bH (he b s1 σ H1 _ I1 q1) λiv s2⟨y,H2,I2,ry,q2⟩=>Calls.spliced_cons (bH (i b s2 σ H2 _ I2 q2) λn s3⟨z,H3,I3,rz,ov,g,q3⟩=>Calls.spliced_nil ?_))));exact Oo c I3 g ry rz λp s4 k l=>⟨_,H3,k,l,q3⟩
end
end L2
namespace Yo
open PySem PySem.W PySem.Calls PyProof.Rows
end Yo
namespace L2
open PySem PySem.Spec PyProof.Rows
end L2
end
section
namespace HH
open PySem L2 PySem.Spec PyProof.Rows
variable{kvs:List (Int×D)}{es:List (Key×V)}{k:Int}{i:Nat}
inductive KR(K:PySem.W.Frag)(F:Hp):List (Int×D)->List (Key×V)->Prop where|nil:KR K F [] []|cons{k:Int}{d:D}{v:V}{kvs:List (Int×D)}{es:List (Key×V)}(h:Rep K F v d)(t:KR K F kvs es):KR K F ((k,d)::kvs) ((Sum.inl k,v)::es)
section
variable{K:PySem.W.Frag}{F F':Hp}
noncomputable def ent(ks:List Int)(vs:List V):List (Key×V):=(ks.zip vs).map λp=>(Sum.inl p.1,p.2)
theorem KR.of:∀{kvs:List (Int×D)}{vs:List V},aB K F vs (kvs.map (·.2))->KR K F kvs (ent (kvs.map (·.1)) vs)|[],vs,h=>by rw[map_nil]at h;rw[h.dO];exact .nil|(k,d)::kvs,vs,h=>by obtain⟨v,r,rfl,h1,a⟩:=h.bO;exact .cons h1 (KR.of a)
theorem KR.to(h:KR K F kvs es):∃vs,es=ent (kvs.map (·.1)) vs/\aB K F vs (kvs.map (·.2)):=by induction h with|nil=>exact⟨[],rfl,.nil⟩|@cons k d v kvs es h t a=>obtain⟨vs,rfl,r⟩:=a;exact⟨v::vs,rfl,.cons h r⟩
theorem KR.oc(h:KR K F kvs es):jl K F (.dK es) (.v kvs):=by obtain⟨vs,rfl,r⟩:=h.to;exact⟨vs,rfl,r⟩
theorem KR.Nj{o:HO}(h:jl K F o (.v kvs)):∃es,o=.dK es/\KR K F kvs es:=by obtain⟨vs,rfl,r⟩:=h;exact⟨_,rfl,.of r⟩
theorem KR.len(h:KR K F kvs es):es.length=kvs.length:=by induction h with|nil=>rfl|cons h t a=>simp[a]
theorem KR.get{d:D}(h:KR K F kvs es)(e:jr kvs k=some d):∃v,gR es (Sum.inl k:Key)=some v/\Rep K F v d:=by induction h with|nil=>cases e|@cons j d' v kvs es h t a=>
   unfold jr at e a;rw[find?_cons]at e;by_cases c:j=k;.simp[c]at e;subst e;exact⟨v,jJ (by rw[c]),h⟩
   .simp[c]at e;obtain⟨b,h1,f⟩:=a (by simpa using e);exact⟨b,by rw[j4 (by simpa using c)];exact h1,f⟩
theorem KR.any{kvs:List (Int×D)}{es:List (Key×V)}(k:Int)(h:KR K F kvs es):(es.any λa=>decide (a.1=(Sum.inl k:Key)))=kvs.any λp=>decide (p.1=k):=by induction h with|nil=>rfl|cons h t b=>simp[b]
theorem KR.has(k:Int)(h:KR K F kvs es):(gR es (Sum.inl k:Key)).isSome=(kvs.map (·.1)).contains k:=by rw[<-nD,h.any k];induction h with|nil=>rfl|@cons j d v kvs es h t a=>rw[any_cons,a,map_cons,List.contains_cons];congr 1;exact Bool.eq_iff_iff.mpr ⟨λz=>by simp at z ⊢;exact z.symm,λz=>by simp at z ⊢;exact z.symm⟩
theorem KR.repl{d:D}{v:V}(r:Rep K F v d)(h:KR K F kvs es):KR K F (kvs.map λp=>if p.1=k then(p.1,d)else p) (es.map λa=>if a.1=(Sum.inl k:Key)then(a.1,v)else a):=by induction h with|nil=>exact .nil|@cons j d' e kvs es h t b=>
   by_cases c:j=k;.subst c;simp;exact .cons r b
   . have:¬(Sum.inl j:Key)=Sum.inl k:=by simpa using c
     simp[c,this];exact .cons h b
theorem KR.snoc{d:D}{v:V}(r:Rep K F v d)(h:KR K F kvs es):KR K F (kvs++[(k,d)]) (es++[(Sum.inl k,v)]):=by induction h with|nil=>exact .cons r .nil|cons h t a=>exact .cons h a
theorem KR.put{d:D}{v:V}(r:Rep K F v d)(h:KR K F kvs es):KR K F (fj kvs k d) (putK es (Sum.inl k:Key) v):=by
 unfold fj putK;rw[h.any k];split;.exact h.repl r
 .exact h.snoc r
theorem KR.zip{ks:List Int}{a:List D}{vs:List V}(h:aB K F vs a)(b:ks.length=a.length):KR K F (ks.zip a) (ent ks vs):=by induction a generalizing ks vs with
 |nil=>rw[h.dO];cases ks with|nil=>exact .nil|cons _ _=>simp at b
 |cons d a c=>obtain⟨v,r,rfl,h1,e⟩:=h.bO;cases ks with|nil=>simp at b|cons k ks=>exact .cons h1 (c e (by simpa using b))
end
section
variable{K:PySem.W.Frag}{F F1 H H1:Hp}{ρ ρ1 ρ2:List Sl}{σ σ1:L2.St}
theorem GS.YS{x:Nat}{m p:Dc}{a:Addr}(g:GS K F ρ σ H)(e:ρ[x]?=some (.fC m))(r:σ[x]?=some (some (.ref a))):aq K F ρ σ H F (ρ.set x (.fC p)) σ (upd H a p.ho):=by
 have hi:x<ρ.length:=(dw e).1;have v:aM ρ σ x a:=⟨⟨_,_,e,rfl⟩,r⟩;obtain⟨I,J,h1,L,w,M⟩:=g.own x _ _ e rfl;rw[r]at h1;cases h1;have f:∀{j:Nat}{c:Addr},aM (ρ.set x (.fC p)) σ j c->aM ρ σ j c:=λ{j c}⟨⟨t,dt,h,s⟩,q3⟩=>by
  by_cases b:j=x;.subst b;exact⟨⟨_,_,e,rfl⟩,q3⟩
  .rw[dz b]at h;exact⟨⟨t,dt,h,s⟩,q3⟩
 refine⟨⟨λc o q=>?_,by simp[g.len],λj z d q=>?_,λj t dt q u=>?_,λj k c h s=>g.dis j k c (f h) (f s)⟩,.refl _,λc n A=>absurd n A,λc o q n=>?_,λc⟨j,q⟩=>.inl ⟨j,f q⟩,by simp,λj t q l=>⟨rfl,?_⟩⟩
 . have:c≠a:=by rintro rfl;rw[w]at q;cases q
   rw[ao this];exact g.sub c o q
 . by_cases b:j=x;.subst b;rw[getElem?_set_self hi]at q;cases q
   .rw[dz b]at q;exact g.val j z d q
 . by_cases b:j=x;.subst b;rw[getElem?_set_self hi]at q;cases q;cases u;exact⟨a,_,r,aH,w,rfl⟩
   . rw[dz b]at q;obtain⟨c,B,y,C,E,G⟩:=g.own j t dt q u;have:c≠a:=by rintro rfl;exact b (g.dis j x c ⟨⟨t,dt,q,u⟩,y⟩ v)
     exact⟨c,B,y,by rw[ao this];exact C,E,G⟩
 . have:c≠a:=by rintro rfl;exact n ⟨x,v⟩
   rw[ao this];exact q
 . by_cases b:j=x;.subst b;rw[e]at q;cases q;cases l
   .exact⟨t,by rw[dz b];exact q,.refl t⟩
theorem GS.newD{m:Dc}{a:Addr}(g:GS K F ρ σ H)(e:ρ[i]?=some .aP)(s:H a=none):aq K F ρ σ H F (ρ.set i (.fC m)) (σ.set i (some (.ref a))) (upd H a m.ho):=by
 have hi:i<ρ.length:=(dw e).1;have u:i<σ.length:=by rw[<-g.len];exact hi
 have x:F a=none:=by cases q:F a with|none=>rfl|some o=>rw[g.sub a o q]at s;cases s
 have f:∀{j:Nat}{c:Addr},j≠i->aM (ρ.set i (.fC m)) (σ.set i (some (.ref a))) j c->aM ρ σ j c:=λ{j c}b⟨⟨t,ds,e1,e2⟩,e3⟩=>by rw[dz b]at e1 e3;exact⟨⟨t,ds,e1,e2⟩,e3⟩
 have h:∀{c:Addr},aM (ρ.set i (.fC m)) (σ.set i (some (.ref a))) i c->c=a:=λ{c}⟨_,e3⟩=>by rw[getElem?_set_self u]at e3;cases e3;rfl
 have no:∀{j:Nat},¬ aM ρ σ j a:=λ{j}⟨⟨t,ds,e1,e2⟩,e3⟩=>by obtain⟨c,o,p,r,_⟩:=g.own j t ds e1 e2;rw[e3]at p;cases p;rw[s]at r;cases r
 refine⟨⟨λc o q=>?_,by simp[g.len],λj z d q=>?_,λj t dt q y=>?_,λj k c p r=>?_⟩,.refl _,λc n A=>absurd n A,λc o q n=>?_,λc⟨j,q⟩=>?_,by simp,λj t q l=>?_⟩
 . have:c≠a:=by rintro rfl;rw[x]at q;cases q
   rw[ao this];exact g.sub c o q
 . by_cases b:j=i;.subst b;rw[getElem?_set_self hi]at q;cases q
   .rw[dz b]at q ⊢;exact g.val j z d q
 . by_cases b:j=i;.subst b;rw[getElem?_set_self hi]at q;cases q;cases y;exact⟨a,_,getElem?_set_self u,aH,x,rfl⟩
   . rw[dz b]at q ⊢;obtain⟨c,o,B,w,C,E⟩:=g.own j t dt q y;have:c≠a:=by rintro rfl;rw[s]at w;cases w
     exact⟨c,o,B,by rw[ao this];exact w,C,E⟩
 . by_cases b:j=i
   . by_cases v:k=i;.rw[b,v]
     .subst b;rw[h p]at r;exact absurd (f v r) no
   . by_cases v:k=i;.subst v;rw[h r]at p;exact absurd (f b p) no
     .exact g.dis j k c (f b p) (f v r)
 . have:c≠a:=by rintro rfl;rw[s]at q;cases q
   rw[ao this];exact q
 . by_cases b:j=i;.subst b;rw[h q];exact .inr s
   .exact .inl ⟨j,f b q⟩
 . have b:j≠i:=by rintro rfl;rw[e]at q;cases q;cases l
   exact⟨by rw[dz b],t,by rw[dz b];exact q,.refl t⟩
end
noncomputable def pA(p:Int×Int):Key×V:=(Sum.inl p.1,V.int p.2)
theorem Bs(i:Int):∀kvs:List (Int×Int),gR (kvs.map pA) (Sum.inl i:Key)=((kvs.find? λb=>decide (b.1=i)).map (·.2)).map V.int
 |[]=>rfl|p::kvs=>by
   have a:=Bs i kvs;unfold gR at a ⊢;rw[map_cons,find?_cons,find?_cons];by_cases h:p.1=i
   . have e:decide ((pA p).1=(Sum.inl i:Key))=true:=by simp[pA,h]
     rw[e];simp[h,pA]
   . have e:decide ((pA p).1=(Sum.inl i:Key))=false:=by simp[pA,h]
     rw[e];simp only[h,decide_false];exact a
theorem Lp(i v:Int)(kvs:List (Int×Int)):putK (kvs.map pA) (Sum.inl i:Key) (V.int v)=(putD kvs i v).map pA:=by
 have e:((kvs.map pA).any λa=>decide (a.1=(Sum.inl i:Key)))=kvs.any λa=>decide (a.1=i):=by rw[List.any_map];congr 1;funext p;simp[pA]
 unfold putK putD;rw[e];split
 . rw[map_map,map_map];refine map_congr_left λp _=>?_;by_cases h:p.1=i;.simp[pA,h]
   .simp[pA,h]
 .rw[map_append];rfl
section
variable{X:Cx}{c:Call}{n:Nat}{a b e:Expr}{pa pb p:P}{pos:Pos}
theorem Bp{H:Hp}{q:Addr}{m:Dc}{i:Int}{o:Option Int}(h:Rd H q m.ho)(e:m.get (.int i)=some o):kO H q (.int i) (o.map V.int):=by cases m with|k kvs=>cases e;exact .inl ⟨kvs.map pA,Sum.inl i,h,rfl,(Bs i kvs).symm⟩|t kvs=>cases e
theorem sJ(hu:X.A.units+8<cLine)(M:SX X c a pa)(N:SX X c b pb)(hs:Jf b):SX X c (.Subscript a b pos) (.bin .Az pa pb):=by refine vM (f:=yF) (λh1 O=>?_) M N (λρ=>rfl) rfl;intro l s σ H Q I h;refine xQ PySem.F.slot_dict_getitem.lookup hs (bH (h1 l s σ H _ I h) λu s1⟨x,H1,I1,rx,q1⟩=>bH (O l s1 σ H1 _ I1 q1) λiv s2⟨y,H2,I2,ry,q2⟩=>?_);obtain⟨F,d,e,r,sm,G,J,he,k⟩:=q2;cases d with
 |cH m=>have U:=bB (show(m.get e).bind (λo=>o.map λv=>R.val (.int v))=some r from he);clear he;obtain⟨o,w,he⟩:=U;cases o with|none=>cases he|some v=>
     cases he;obtain⟨i,rfl⟩:∃i,e=.int i:=by cases m with|t kvs=>cases e<;>cases w|k kvs=>cases e<;>first|exact⟨_,rfl⟩|cases w
     obtain⟨q,z,rfl,B⟩:=G.cH sm;rw[J.int]at ry;obtain rfl:u=Value.ref q:=rx;have g:=Bp (.inr ⟨z,B⟩) w;exact⟨gY I2 g,lg (by omega) I2 g ry λW s3 C E=>⟨.int v,H2,C,E,bG.cj sm (bC _) k⟩⟩
 |dv ks Y=>cases e with|int j=>obtain⟨d',Z,he⟩:=map_some (show(jr (ks.zip Y) j).map R.val=some r from he);subst he;obtain⟨q,z,vs,rfl,B,rs,hl⟩:=G.dv sm;obtain⟨L,g1,g2⟩:=(KR.zip rs hl).get Z;rw[J.int]at ry;obtain rfl:u=Value.ref q:=rx;have g:kO H2 q (.int j) (some L):=.inl ⟨_,Sum.inl j,.inr ⟨z,B⟩,rfl,g1.symm⟩;exact⟨gY I2 g,lg (by omega) I2 g ry λW s3 C E=>⟨L,H2,C,E,bG.cj sm g2 k⟩⟩|_=>cases he
 |_=>cases he
theorem G5{x:Str}{f h:Pos}(j:X.N.Nodup)(hi:X.N[i]?=some x)(l:Loc X.env.scope x)(hs:swapsWith (.Dict [] [] h) (some (.Name x f)) pos.line X.env=pure false:=by rfl)(o:X.fn x=true\/X.env.scope.names.lookup x=some .local:=by first|exact .inl rfl|exact .inr rfl|assumption):SS X c n (.Assign [.Name x f] (.Dict [] [] h) pos) (.Gh i false):=by
 refine dm (vQ j hi l tM hs o) ?_;rintro D σ H⟨F,ρ,fl,r,g,e,k⟩;rw[HH.X17]at e;split at e;.rename_i q;cases e;exact λa s=>k F _ _ (g.newD (m:=.k []) q s)
 .cases e
theorem M7{x:Str}{C f l:Pos}{pk E:P}(hu:X.A.units+8<cLine)(Y:X.N[i]?=some x)(Z:tD X.env.scope x)(ha:SX X c a pk)(hb:SX X c b E)(m:M2 X (.Name x C) "get" f a b l)(hd:(x==("__debug__":Str))=false:=by decide)(u:(x==("__classdict__":Str))=false:=by decide):SX X c (.Call (.Attribute (.Name x C) "get" f) [a,b] [] l) (.Sd i pk E):=by
 obtain⟨ta,h1,h2⟩:=ha.bK;obtain⟨tb,h3,h4⟩:=hb.bK;refine⟨cR (Ft (by omega) (cT Y Z hd u) h1 h3 m) ?_,λi h=>by cases h⟩;rintro σ H Q⟨F,ρ,r,ac,g,e,k⟩;rw[HH.E21]at e;split at e
 . rename_i m0 q;obtain⟨y,ae,e1,G⟩:=aa e;clear e;obtain⟨dd,af,e2,s⟩:=aa G;clear G;obtain⟨I,o0,J,L,w3,w4⟩:=g.own i _ _ q rfl;refine⟨.ref I,J,I,rfl,?_,?_⟩;.cases(show o0=m0.ho from w4);cases m0 with|k kvs=>exact .inl ⟨_,.inl L⟩|t kvs=>exact .inr ⟨_,.inl L⟩
   . refine h2 g e1 λv F1 H1 s1 pv=>h4 s1.gs e2 λz M H2 s2 O=>?_;split at s
     . rename_i m1 q1;obtain⟨U,e3⟩:=aA s;clear s;subst e3;obtain⟨o,B,eD⟩:=bB U;clear U;obtain⟨w,e5,e6⟩:=map_some eD;subst e6;obtain⟨a1,o1,W,y2,y3,y4⟩:=s2.gs.own i _ _ q1 rfl;rw[J]at W;cases W;cases(show o1=m1.ho from y4);obtain⟨j,rfl⟩:∃j,y=.int j:=by cases m1 with|t kvs=>cases y<;>cases B|k kvs=>cases y<;>first|exact⟨_,rfl⟩|cases B
       rw[cF e5]at O;rw[pv.int,O.int];refine⟨o.map V.int,Bp (.inl y2) B,?_⟩;have:(o.map V.int).getD (V.int w)=V.int (o.getD w):=by cases o<;>rfl
       rw[this];exact k _ M H2 (s1.trans s2) (show Rep X.K M _ _ from bC _)
     .cases s
 .cases e
theorem Iu{x:Str}{C f:Pos}{pk:P}(hu:X.A.units+8<cLine)(J:X.N[i]?=some x)(L:tD X.env.scope x)(M:SX X c a pk)(he:SX X c e p)(hs:swapsWith e (some (.Subscript (.Name x C) a f)) pos.line X.env=pure false:=by rfl)(hd:(x==("__debug__":Str))=false:=by decide)(s:(x==("__classdict__":Str))=false:=by decide):SS X c n (.Assign [.Subscript (.Name x C) a f] e pos) (.dput i pk p):=by
 obtain⟨ta,h1,O⟩:=M.bK;refine dm (xF (by omega) (cT J L hd s) h1 he.ev hs) ?_;rintro D σ H⟨F,ρ,fl,Q,g,e,k⟩;rw[HH.X18]at e;obtain⟨r,u,U,o⟩:=aa e;clear e;refine⟨F,ρ,r,u,g,U,λv F1 H1 s1 W=>?_⟩;split at o
 . rename_i m0 Y;obtain⟨E,Z,e2,h⟩:=aa o;clear o;obtain⟨z,o0,B,w2,w3,w4⟩:=s1.gs.own i _ _ Y rfl;refine⟨.ref z,B,O s1.gs e2 λy F2 H2 s2 py=>?_⟩;split at h
   . rename_i m w q;split at h;.rename_i G l;cases h;obtain⟨a1,o1,I,y2,y3,y4⟩:=s2.gs.own i _ _ q rfl;rw[B]at I;cases I;cases(show o1=m.ho from y4);cases(show v=.int w by have:Rep X.K F1 v (.int w):=W;rwa[Rep]at this);refine⟨z,upd H2 z G.ho,rfl,?_,k F2 σ _ ((s1.trans s2).trans (s2.gs.YS q B))⟩;cases m with|t kvs=>cases E<;>cases l|k kvs=>cases E with|int j=>obtain⟨hl,l⟩:=aO (show(if kvs.length<lim then some (Dc.k (putD kvs j w))else none)=some G from l);subst l;rw[py.int];refine .inl ⟨kvs.map pA,Sum.inl j,y2,rfl,by rw[length_map,sizeLine_eq];exact hl,?_⟩;rw[Lp];rfl|_=>cases l
     .cases h
   .cases h
 .cases o
end
end HH
end
section
namespace L2
open PySem PySem.Spec PyProof.Rows
noncomputable def Itk(a:Addr)(b:Obj)(kvs:List (Key×V)):It:=⟨λi H=>H a=some (.cG b (.dK kvs))/\i<kvs.length,λi H x c=>c=H/\∃p,kvs[i]?=some p/\x=kV p.1,λi H=>H a=some (.cG b (.dK kvs))/\kvs.length<=i⟩
theorem KV.get:∀{κ:Type}{kvs:List (κ×V)}{vs:List (κ×Value)}{i:Nat}{p:κ×V},KV kvs vs->kvs[i]?=some p->∃v,vs[i]?=some (p.1,v)|_,_,_,_,_,.nil,e=>by simp at e|_,_,_,0,_,.cons r _,e=>by simp at e;subst e;exact⟨_,by rw[List.getElem?_cons_zero,r.1]⟩|_,_,_,i+1,p,.cons _ t,e=>by obtain⟨v,h⟩:=KV.get (i:=i) (p:=p) t (by simpa using e);exact⟨v,by simpa using h⟩
theorem qF{X:Cx}{b:List (Addr×Obj)}{σ:St}{H:Hp}{s:Shared}{a:Addr}{c:Obj}{kvs:List (Key×V)}{es:Array DictEntry}{ep:Nat}(I:Inv X b σ H s)(h:H a=some (.cG c (.dK kvs)))(hd:c.data=.dict es ep):(a==sysModules)=false/\∃vs,KV kvs vs/\s.heap.DictAt (aQ X.prog X.w) a vs ep:=by obtain⟨ho,hz,f,vs,r,g⟩:=(show bj X.prog X.w H s.heap a (.cG c (.dK kvs))from I.hok a _ h);obtain⟨o,i,j,h1,k,e,l⟩:=g;rw[ho]at h1;cases h1;rw[hd]at e;cases e;exact⟨f,vs,r,⟨c,es,ho,k,hd,l⟩⟩
theorem Qp{P:Program}{w:World}{k:Key}{u:Value}(h:(aQ P w).is k u=true):RelV (kV k) u:=by
 rcases bf h with⟨i,t,rfl,rfl⟩|⟨x,t,rfl,rfl⟩;.exact⟨t,rfl⟩
 .exact⟨t,rfl⟩
theorem Ax{P:Program}{w:World}{K:PySem.W.Frag}{C:Expr}(a it:Addr)(B:Obj)(kvs:List (Key×V))(es:Array DictEntry)(ep:Nat)(hd:B.data=.dict es ep):Turn P w K C (Itk a B kvs) [it] it (λi h=>h.IsKeyIter it a i kvs.length ep)where
 mem:=by simp
 obj:=λi h st b g=>by
  have e:b=it:=by simpa using g
  subst e;obtain⟨o,e,c,d⟩:=st;exact⟨o,e,λv z=>by rw[d]at z;cases z⟩
 keep:=λi h h' st k=>st.at λo e=>k it (by simp) o e;item:=by intro X n p q hc i f s σ H E I m st t;subst n p q;obtain⟨x,hi⟩:=t;obtain⟨G,vs,r,y⟩:=qF I x hd;have l:vs.length=kvs.length:=(Paired.length r).symm;obtain⟨v,J⟩:=KV.get r (show kvs[i]?=some kvs[i]by simp[hi]);obtain⟨f0,f1,f2,f3,f4,f5⟩:=m it (by simp);refine wpAny_pyNext_dict_item (by rw[l];exact st) y J λu h' L j M=>?_;have N:Inv X f σ H {s with heap:=h'}:=I.turned (t':=s.toks) (λb o g e=>(M.2 b g).trans e) f0 f1 f3 f4 f5;rw[l]at j;obtain⟨o,e,c,d⟩:=id j;exact⟨u,rfl,yd (s:={s with heap:=h'}) e c d (by decide) ⟨_,H,N,Qp L,⟨rfl,_,by simp[hi],rfl⟩,j,λb g=>(m b g).1⟩⟩
 done:=by intro X n p q hc i f s σ H E I m st t;subst n p q;obtain⟨x,hi⟩:=t;obtain⟨G,vs,r,y⟩:=qF I x hd;have l:vs.length=kvs.length:=(Paired.length r).symm;obtain⟨f0,f1,f2,f3,f4,f5⟩:=m it (by simp);refine wpAny_pyNext_dict_end (I.ok.hd hc) (by rw[l];exact st) y (by simp[l,hi]) λh' he=>⟨rfl,?_⟩;exact I.turned (t':=s.toks) (λb o g e=>he b o g e) f0 f1 f3 f4 f5
 self:=λA i s Q E st O=>wpAny_pyIter_keyiter st O
section
variable{X:Cx}{tg:Expr}
theorem GQ{l:Expr}{k:TE}(n:PE X l k):PI X tg l (λσ H R=>k σ H λx f=>∃a c kvs,x=.ref a/\f a=some (.cG c (.dK kvs))/\R (Itk a c kvs) f):=by
 intro g s σ H R I h;refine bH (n g s σ H _ I h) ?_;rintro v s1⟨x,f,j,r1,a,c,kvs,e,p,q⟩;subst e;cases r1;obtain⟨ho,hz,t,vs,r,u⟩:=(show bj X.prog X.w f s1.heap a (.cG c (.dK kvs))from j.hok a _ p);obtain⟨o,es,ep,h1,y,m,z⟩:=id u;rw[ho]at h1;cases h1;have i:vs.length=kvs.length:=(Paired.length r).symm;refine wpAny_pyIter_dict (knd:=aQ X.prog X.w) (kvs:=vs) (ep:=ep) t ⟨c,es,ho,y,m,z⟩ ?_;refine⟨s1.heap.objs.size,[s1.heap.objs.size],_,_,f,rfl,j.kept (t':=s1.toks) λb o e=>gb e,Ax a _ c kvs es ep m,⟨_,get?_push_size _ rfl,rfl,by rw[i];rfl⟩,λb A=>?_,q⟩;have e:b=s1.heap.objs.size:=by simpa using A
 subst e;exact j.El (cL) (j.hok.fresh (cL))
end
end L2
namespace HH
open PySem L2 PySem.Spec PyProof.Rows
section
variable{X:Cx}{c:Call}{tg e:Expr}{p:P}
theorem Jb{ks:List Int}{es:List (Key×V)}{j:Nat}{p:Key×V}{i:Int}(h:es.map (·.1)=ks.map (Sum.inl:Int->Key))(a:es[j]?=some p)(b:ks[j]?=some i):p.1=Sum.inl i:=by
 have:(es.map (·.1))[j]?=(ks.map (Sum.inl:Int->Key))[j]?:=by rw[h]
 rw[getElem?_map,getElem?_map,a,b]at this;exact Option.some.inj this
theorem nY:∀{ks:List Int}{vs:List V},ks.length=vs.length->(ent ks vs).map (·.1)=ks.map (Sum.inl:Int->Key)|[],[],_=>rfl|k::ks,v::vs,h=>by have:=nY (ks:=ks) (vs:=vs) (by simpa using h);unfold ent at this ⊢;simpa using this|[],_::_,h=>by simp at h|_::_,[],h=>by simp at h
theorem G7(h:SX X c e p):SI X c tg e (.blt .keys [p]):=by
 unfold SI;obtain⟨ta,h1,W⟩:=h.bK;refine qm (GQ h1) ?_;rintro σ H R⟨F,ρ,A,B,g,Y,k⟩;obtain⟨r,o,I,Z⟩:=aa (show((HH.ev c (.blt .keys [p]) ρ).bind λr ρ=>lift (items r.d) ρ)=.ok A B from Y);obtain⟨J,e3⟩:=aA Z;subst e3;rw[HH.E15]at I;obtain⟨d,ac,e1,eE⟩:=aa I;obtain⟨y,e4⟩:=aA eE;subst e4;refine W g e1 λv F' L s M=>?_;have hd:∃(ks:List Int)(es:List (Key×V))(a:Addr)(b:Obj),A=ks.map D.int/\v=.ref a/\L a=some (.cG b (.dK es))/\es.map (·.1)=ks.map (Sum.inl:Int->Key):=by cases d with
  |cH m=>cases m with|k kvs=>cases y;cases J;obtain⟨a,b,rfl,f⟩:=M.cH s.gs.sub;exact⟨kvs.map (·.1),kvs.map pA,a,b,by rw[map_map];rfl,rfl,f,by rw[map_map,map_map];rfl⟩|t kvs=>cases y
  |dv ks ae=>cases y;cases J;obtain⟨a,b,vs,rfl,f,rs,hl⟩:=M.dv s.gs.sub;exact⟨ks,ent ks vs,a,b,rfl,rfl,f,nY (by rw[rs.length];exact hl)⟩|_=>cases y
 obtain⟨ks,es,a,b,rfl,rfl,f,u⟩:=hd;have C:es.length=ks.length:=by have:=congrArg List.length u;simpa using this
 refine⟨a,b,es,rfl,f,k _ F' L ⟨s.gs,λn j N o E H2 s2=>?_,λN o E H2 s2=>⟨s.trans s2,λv r rr=>rr.later s⟩⟩⟩;have gm:=s.gs.more (n:=n) (τ:=replicate n none) (by simp);have w:=s2.keep a _ f λ⟨j,⟨t,dt,q1,q2⟩,q3⟩=>by obtain⟨a',o',O,Q,z3,G⟩:=gm.own j t dt q1 q2;rw[q3]at O;cases O;rw[f]at Q;cases Q;cases dt with|l A=>obtain⟨xs,z,_⟩:=G;cases z|d m=>cases m<;>cases G|v kvs=>obtain⟨xs,z,_⟩:=G;cases z
 refine⟨λd hd=>?_,λU=>⟨w,by rw[C];simpa using U⟩⟩;have U:j<ks.length:=by have:=(dw hd).1;simpa using this
 refine⟨⟨w,by omega⟩,λx sW⟨e5,q,e6,e7⟩=>?_⟩;subst e5;refine⟨N,.refl s2.gs.sub,?_⟩;rw[getElem?_map]at hd;obtain⟨i,e8,e9⟩:=map_some hd;rw[e7,Jb u e6 e8,<-e9];exact bC _
end
end HH
end
section
namespace HH
open PySem L2 PySem.Spec PyProof.Rows PySem.Calls PySem.W
section
variable{X:Cx}{c:Call}{a:Expr}{pa:P}{pos:Pos}
theorem jF:∀{ns:List Int}{b:List Value},IntsAre b ns->Vals (ns.map V.int) b|_,_,.nil=>.nil|_,_,.cons n t r=>.cons ⟨t,rfl⟩ (jF r)
theorem qg{K:PySem.W.Frag}{F:Hp}:∀ns:List Int,aB K F (ns.map V.int) (ns.map D.int)|[]=>.nil|n::ns=>.cons (bC n) (qg ns)
end
end HH
end
section
namespace HH
open PySem L2 PySem.Spec PyProof.Rows
theorem Inv.aak{X:Cx}{c:List (Addr×Obj)}{σ:L2.St}{H:Hp}{s:Shared}{a:Addr}{kvs:List (List Key×V)}(I:L2.Inv X c σ H s)(h:H a=some (.dT kvs)):∃o,L2.Inv X c σ (upd H a (.cG o (.dT kvs))) s:=by obtain⟨z,y,xs,r,o,es,ep,h1,f,g,i,j⟩:=(show bj X.prog X.w H s.heap a (.dT kvs)from I.hok a _ h);refine⟨o,I.write (h':=s.heap) (t':=s.toks) (by rw[h];exact trivial) (.inl rfl) (λb u _ e=>e) ⟨o,h1⟩ ⟨h1,z,y,xs,KT.keeps r λb ys q=>?_,o,es,ep,h1,f,g,i,j⟩⟩;rw[ao (by rintro rfl;rw[h]at q;cases q)];exact q
section
variable{X:Cx}{c:Call}{n:Nat}{a b e:Expr}{p pa pb:P}{pos:Pos}{es:List Expr}{ps:List P}{x1:Nat}{tpos:Pos}
theorem Kd{i:Nat}{x:Str}{A:Pos}(B:X.N[i]?=some x)(C:tD X.env.scope x)(hd:(x==("__debug__":Str))=false:=by decide)(w:(x==("__classdict__":Str))=false:=by decide):SX X c (.Name x A) (.vw i):=by
 have h:=cT (X:=X) (pos:=A) B C hd w;refine⟨?_,λi h=>by cases h⟩;rintro f s σ H Q I⟨F,ρ,r,E,g,e,k⟩;rw[HH.E22]at e;split at e
 . rename_i m q;cases e;obtain⟨a,h1,j,l⟩:=g.yM q;refine bH (h f s σ H (λv y=>v=.ref a/\y=H) I ⟨.ref a,h1,rfl,rfl⟩) λu s1⟨v,H1,I1,r1,e1,e2⟩=>?_;subst e1 e2;have G:∃o,L2.Inv X f σ (upd H1 a (.cG o m.ho)) s1:=by cases m with|k kvs=>exact Inv.Dj I1 j|t kvs=>exact Inv.aak I1 j
   obtain⟨o,z⟩:=G;exact⟨.ref a,_,z,r1,k _ _ _ (l o).1 (l o).2⟩
 .rename_i kvs q;cases e;obtain⟨a,vs,h1,j,l⟩:=g.yz q;refine bH (h f s σ H (λv y=>v=.ref a/\y=H) I ⟨.ref a,h1,rfl,rfl⟩) λu s1⟨v,H1,I1,r1,e1,e2⟩=>?_;subst e1 e2;obtain⟨o,z⟩:=Inv.Dj I1 j;exact⟨.ref a,_,z,r1,k _ _ _ (l o).1 (l o).2⟩
 .rename_i b L q;cases e;obtain⟨v,J,h1,j,l⟩:=g.freeze q;exact h f s σ H Q I ⟨v,h1,k v J H j l⟩
 .rename_i b d q;cases e;obtain⟨v,h1,j⟩:=g.val i b d q;exact h f s σ H Q I ⟨v,h1,k v F H (.refl g) j⟩
 .cases e
end
end HH
end
section
namespace HH
open PySem L2 PySem.Spec PyProof.Rows
section
variable{K:PySem.W.Frag}{F H F' H':Hp}{ρ ρ':List Sl}{σ σ':L2.St}
def Kp(ρ:List Sl)(σ:L2.St)(H:Hp)(a:Addr)(o:HO):Prop:=H a=some o/\¬ Own ρ σ a
theorem Kp.stp{a:Addr}{o:HO}(h:Kp ρ σ H a o)(s:aq K F ρ σ H F' ρ' σ' H'):Kp ρ' σ' H' a o:=⟨s.keep a o h.1 h.2,λz=>(s.tE a z).elim h.2 λe=>by rw[h.1]at e;cases e⟩
structure Wt(K:PySem.W.Frag)(F:Hp)(ρ:List Sl)(σ:L2.St)(H:Hp)(a:Addr)(ds:List D):Prop where
 ex:∃xs,Kp ρ σ H a (.lst xs)/\aB K F xs ds
 fr:F a=none
theorem Wt.stp{a:Addr}{b:List D}(h:Wt K F ρ σ H a b)(s:aq K F ρ σ H F' ρ' σ' H'):Wt K F' ρ' σ' H' a b:=by obtain⟨⟨xs,h1,c⟩,e⟩:=h;refine⟨⟨xs,h1.stp s,c.mono s.cz⟩,?_⟩;cases q:F' a with|none=>rfl|some o=>
   rcases s.vp a e (by rw[q];simp)with z|z;.exact absurd z h1.2
   .rw[h1.1]at z;cases z
end
end HH
end
section
namespace HH
open PySem PyProof.Rows
section
variable{M:Model}{A:Around}{E:Value->Shared->Prop}{s:Shared}{κ:SortKind}{ok:Keyed->Prop}{K:Keyed->Int}
theorem zM(R:Rk M A E s κ ok K){st b:SortSt}{xs:Array Keyed}{lo n:Nat}{Q:Option Nat->SortSt->Prop}(h:Sx κ ok st xs b)(f:lo+n<=xs.size)(h1:1<=n)(sg:Seg K xs lo (lo+n))(q:Q (some n) b):wpS M A E s (countRun' lo n) Q b:=by
 have one:∀ys:Array Keyed,Seg K ys lo (lo+1):=λys i j k l jn=>by rw[show i=j by omega];exact Int.le_refl _
 show wpS M A E s (_>>=_) Q b;refine wpS_bind (Qq (a:=1) (n:=n) R h f (le_refl 1) h1 (one xs) λm m1 o sm e=>?_);dsimp only;have c1:m=n:=by
  by_cases c:m=n;.exact c
  .have g:=e.resolve_left c;have:=sg (lo+m-1) (lo+m) (by omega) (by omega) (by omega);omega
 subst c1;rw[if_pos (by simp)];exact wpS_pure q
theorem SR.Vj{x0 ys:Array Keyed}{l:List Rn}{lo n:Nat}{st:SortSt}(h:SR κ ok K x0 ys l lo st)(h1:1<=n)(a:lo+n<=ys.size)(hs:Seg K ys lo (lo+n)):SR κ ok K x0 ys (l++[(lo,n,0)]) (lo+n) (setPending st ((pendingOf st).push (lo,n,0))):=⟨h.kind,h.arr,h.fail,by show((pendingOf st).push (lo,n,0)).toList=_;rw[Array.toList_push,h.pend],h.perm,h.ok,sI.mpr ⟨lo,h.rns,rfl,h1,hs,rfl⟩,a⟩
theorem p7:∀(f n r:Nat),r<=1->n<64\/n<=f->minRun' f n r<=n+r/\(64<=n->minRun' f n r<=n)
 |0,n,r,hr,h=>by have e:minRun' 0 n r=n+r:=rfl;rw[e];exact⟨cL,λz=>by omega⟩|f+1,n,r,hr,h=>by
   rw[minRun'_succ];by_cases c:n<64;.rw[if_pos c];exact⟨cL,λz=>by omega⟩
   .rw[if_neg c];have a:=p7 f (n/2) (max r (n%2)) (by omega) (by omega);exact⟨by omega,λ_=>by omega⟩
theorem Ga(R:Rk M A E s κ ok K){x0:Array Keyed}{Q:Unit->SortSt->Prop}{st:SortSt}(h:SR κ ok K x0 x0 [] 0 st)(sg:Seg K x0 0 x0.size)(h1:1<=x0.size)(q:∀a,arrOf a=x0->failedOf a=none->Q () a):wpS M A E s sortRuns' Q st:=by
 rw[sortRuns'_eq];refine wpS_bind (wpS_get ?_);dsimp only;simp only[h.arr];have j:minRun' x0.size x0.size 0<=x0.size:=(p7 x0.size x0.size 0 (by omega) (.inr (cL))).1;generalize minRun' x0.size x0.size 0=o at j;refine wpS_bind (wpS_mono (wpS_forRange (I:=λx c a=>(c=(none,0)/\SR κ ok K x0 x0 [] 0 a/\x=0)\/(c=(none,x0.size)/\SR κ ok K x0 x0 [(0,x0.size,0)] x0.size a)) (Q:=λc a=>c=(none,x0.size)/\SR κ ok K x0 x0 [(0,x0.size,0)] x0.size a) ?_ ?_ (.inl ⟨rfl,h,rfl⟩)) ?_)
 . rintro x c f _ k(⟨rfl,b,rfl⟩|⟨rfl,b⟩)
   . dsimp only;rw[if_neg (by omega)];refine wpS_bind (zM R b.sx (lo:=0) (n:=x0.size-0) (by omega) (by omega) (by simpa using sg) ?_);dsimp only;rw[if_neg (by omega)];refine wpS_bind (wpS_get ?_);have l:(pendingOf f).back?=none:=by have:pendingOf f=#[]:=Array.toList_inj.mp b.pend;rw[this];rfl
     rw[l];dsimp only;refine wpS_bind (wpS_modify (wpS_pure (.inr ⟨by simp,?_⟩)));have:=b.Vj (n:=x0.size-0) (by omega) (by omega) (by simpa using sg);simpa using this
   .dsimp only;rw[if_pos (cL)];exact wpS_pure ⟨rfl,b⟩
 . rintro c f(⟨rfl,b,e⟩|⟨rfl,b⟩);.omega
   .exact⟨rfl,b⟩
 . rintro c f⟨rfl,b⟩;dsimp only;refine wpS_bind (wpS_mono (wpS_forRange (I:=λx c a=>c=(none,())/\SR κ ok K x0 x0 [(0,x0.size,0)] x0.size a) (Q:=λc a=>c=(none,())/\SR κ ok K x0 x0 [(0,x0.size,0)] x0.size a) ?_ (λ_ _ h=>h) ⟨rfl,b⟩) ?_)
   . rintro x c g _ k⟨rfl,i⟩;refine wpS_bind (wpS_get ?_);try dsimp only
     have m:(pendingOf g).size<=1:=by rw[<-length_toList,i.pend];simp
     rw[if_pos m];exact wpS_pure ⟨rfl,i⟩
   .rintro c g⟨rfl,i⟩;dsimp only;exact wpS_pure (q g i.arr i.fail)
end
end HH
end
section
namespace HH
open PySem PySem.W PyProof.Rows PySem.Calls L2 PySem.Spec
section
variable{prog:Program}{w:World}{A:Around}{E:Value->Shared->Prop}{s:Shared}{vs:List Value}{κ:SortKind}{P:Value->D->Prop}{ds:List D}
theorem Dp{a:Addr}{n:Nat}{O:PySem.Fin->Shared->Prop}(ho:s.heap.get? a=some (seqObj "list" vs.toArray n))(so:sortable ds=true)(hz:vs.length<=16777216)(L:Paired P vs ds)(fn:∀u d e,P u d->P u e->bY d=bY e)(t:ds.Pairwise λa b=>jR a b=true)(N:∀h',(∀b o,b≠a->s.heap.get? b=some o->h'.get? b=some o)->∀C:SortKind->Shared->Prop,C κ {s with heap:=h'}->2<=vs.length->wpAny (model prog w) A (keyKind' vs.toArray) C (λ_ _=>False) {s with heap:=h'})(hl:∀h',(∀b o,b≠a->s.heap.get? b=some o->h'.get? b=some o)->∀u v d e,P u d->P v e->∀C:Bool->Shared->Prop,C (aY (bY d) (bY e)) {s with heap:=h'}->wpAny (model prog w) A (keyLt' κ u v) C (λ_ _=>False) {s with heap:=h'})(h:∀h' c p,(∀b o,b≠a->s.heap.get? b=some o->h'.get? b=some o)->p.Perm (List.range vs.length)->pick .non p ds=Ks ds->h'.get? a=some (seqObj "list" (pick .none p vs).toArray c)->O (.done (.ret .none)) {s with heap:=h'}):wpAny (model prog w) A (Builtin.«list.sort» ⟨[.ref a],[]⟩) O E s:=by
 have ha:a<s.heap.objs.size:=lt_size ho;have z:vs.length=ds.length:=Paired.length L;obtain⟨g,B⟩:∃g,(s.heap.update a (Obj.mapSeq λ_=>(#[]:Array Value))).get? a=some (seqObj "list" #[] g):=⟨_,get?_update_seq ho λ_=>#[]⟩;rw[list_sort_plain];refine wpAny_bind (listItems_at ho rfl ?_);refine wpAny_bind (listUpdate_at ho rfl ?_ (by rw[size_toArray,sizeLine_eq];omega) (rK));refine wpAny_bind (seqEpoch_at B rfl ?_);refine wpAny_bind (wpAny_newTuple ?_ (by show vs.length<=_;rw[sizeLine_eq];omega));refine wpAny_bind (wpAny_newList ?_ (rK));refine wpAny_holding ?_;generalize hH:(((s.heap.update a (Obj.mapSeq λ_=>(#[]:Array Value))).push {cls:=.type "tuple",data:=.seq vs.toArray}).push {cls:=.type "list",data:=.seq #[]}:Heap)=l;have G:l.get? a=some (seqObj "list" #[] g):=by rw[<-hH];exact gb (gb B)
 have keep:∀b o,b≠a->s.heap.get? b=some o->l.get? b=some o:=λb o M e=>by rw[<-hH];exact gb (gb ((get?_update_other _ _ (Ne.symm M)).trans e))
 have fin:∀p:List Nat,p.Perm (List.range vs.length)->pick .non p ds=Ks ds->O (.done (.ret .none)) {s with heap:=l.update a (Obj.mapSeq λ_=>toArray (pick .none p vs))}:=by intro p h1 f;obtain⟨c2,U⟩:∃c2,(l.update a (Obj.mapSeq λ_=>toArray (pick Value.none p vs))).get? a=some (seqObj "list" (pick Value.none p vs).toArray c2):=⟨_,get?_update_seq G λ_=>toArray (pick Value.none p vs)⟩;exact h _ c2 p (λb o M e=>(get?_update_other _ _ (Ne.symm M)).trans (keep b o M e)) h1 f U
 show wpAny (model prog w) A _ O E {s with heap:=l};dsimp only;by_cases f:vs.toArray.size<2
 . rw[if_pos f,if_pos f];refine wpAny_bind (wpAny_pure ?_);rw[StateT.run_pure];refine wpAny_bind (wpAny_pure ?_);dsimp only;have eo:(arrOf (SortSt.mk' general' (vs.toArray.zip vs.toArray) #[] 7 none)).map (·.2)=toArray (pick Value.none (List.range vs.length) vs):=by rw[jN];apply Array.toList_inj.mp;show((vs.toArray.zip vs.toArray).map (·.2)).toList=vs;simp[List.map_snd_zip]
   rw[eo];refine wpAny_bind (seqEpoch_at G rfl ?_);refine wpAny_bind (listUpdate_at G rfl ?_ (rK) (by rw[size_toArray,o5 (.refl _),sizeLine_eq];omega));simp only[bne_self_eq_false,false_eq_true,if_false];refine wpAny_pure (fin _ (.refl _) ?_);rw[z,jN];refine oK so (.refl _) ?_;match ds,(show ds.length<2 by simp at f;omega)with|[],_=>exact .nil|[_],_=>exact List.pairwise_singleton ..|_::_::_,f=>simp at f;omega
 . rw[if_neg f,if_neg f];have W:2<=vs.length:=by simpa using f
   refine wpAny_bind (N l keep _ ?_ W|>λq=>wpAny_mono q (λ_ _ x=>x) λ_ _ x=>x.elim);have H:(vs.toArray.zip vs.toArray).toList=(List.range vs.length).map λi=>(vs.getD i Value.none,vs.getD i Value.none):=by
    refine List.ext_getElem (by simp) λi h1 f=>?_;have:i<vs.length:=by simpa using f
    simp[this]
   have X:∀x∈(vs.toArray.zip vs.toArray).toList,∃d,d∈ds/\P x.1 d:=λx hx=>by rw[H]at hx;obtain⟨i,hi,rfl⟩:=mem_map.mp hx;have:=iT L i (mem_range.mp hi);exact⟨_,this.2,this.1⟩
   have R:Rk (model prog w) A E {s with heap:=l} κ (λx=>∃d,d∈ds/\P x.1 d) (Yj P ds):=⟨by rintro x y Q st⟨d,d1,d2⟩⟨e,g,r⟩Y hq;rw[xJ fn d1 d2,xJ fn g r,Df d1]at hq;rw[lt'_eq];refine wpS_bind (wpS_get ?_);rw[Y];refine wpS_bind (wpS_lift (wpAny_attempt (wpAny_mono (hl l keep x.1 y.1 d e d2 r (λb Z=>Z={s with heap:=l}/\b=aY (bY d) (bY e)) ⟨rfl,rfl⟩) ?_ λ_ _ h=>h.elim)));rintro b Z⟨rfl,rfl⟩;exact⟨rfl,wpS_pure hq⟩⟩;have at':∀k,k<vs.length->it (vs.toArray.zip vs.toArray) k=(vs.getD k .none,vs.getD k .none):=λk N=>by rw[Ip,H];simp[N]
   have hsz:(vs.toArray.zip vs.toArray).size=vs.length:=by simp
   have sg:Seg (Yj P ds) (vs.toArray.zip vs.toArray) 0 (vs.toArray.zip vs.toArray).size:=λi j _ ij jn=>by
    rw[hsz]at jn;rw[at' i (by omega),at' j jn];have a1:=iT L i (by omega);have a2:=iT L j jn;rw[xJ fn a1.2 a1.1,xJ fn a2.2 a2.1];by_cases e:i=j;.rw[e];exact Int.le_refl _
    . have I:=List.pairwise_iff_getElem.mp t i j (by omega) (by omega) (by omega);simp only[jR,not_eq_true']at I;have g:ds.getD i .non=ds[i]'(by omega):=by simp[show i<ds.length by omega]
      have r:ds.getD j .non=ds[j]'(by omega):=by simp[show j<ds.length by omega]
      rw[<-g,<-r,<-Df a2.2,decide_eq_false_iff_not]at I;omega
   have run:=Ga R (x0:=vs.toArray.zip vs.toArray) (st:=SortSt.mk' κ (vs.toArray.zip vs.toArray) #[] 7 none) (Q:=λ_ m=>∃p:List Nat,p.Perm (List.range vs.length)/\pick .non p ds=Ks ds/\(arrOf m).map (·.2)=(pick Value.none p vs).toArray/\failedOf m=none) ⟨rfl,rfl,rfl,rfl,.refl _,X,rfl,rK⟩ sg (by rw[hsz];omega) λm g r=>by
     refine⟨List.range vs.length,.refl _,?_,?_,r⟩;.rw[z,jN];exact oK so (.refl _) t
     .rw[g,jN];apply Array.toList_inj.mp;simp[List.map_snd_zip]
   refine wpAny_bind (wpAny_mono run ?_ λ_ _ e=>e);rintro⟨⟨⟩,m⟩Z⟨rfl,p,p1,p2,J,hf⟩;dsimp only;rw[J];refine wpAny_bind (seqEpoch_at G rfl ?_);refine wpAny_bind (listUpdate_at G rfl ?_ (rK) (by rw[size_toArray,o5 p1,sizeLine_eq];omega));rw[hf];simp only[bne_self_eq_false,false_eq_true,if_false];exact wpAny_pure (fin _ p1 p2)
end
end HH
end
section
namespace HH
open PySem L2 PySem.Spec PyProof.Rows PySem.Calls PySem.W
noncomputable def vz(nw:Addr->Option HO)(H:Hp):Hp:=λa=>match nw a with|some o=>some o|none=>H a
theorem rW{nw:Addr->Option HO}{H:Hp}{a:Addr}{o:HO}(h:nw a=some o):vz nw H a=some o:=by unfold vz;rw[h]
theorem fG{nw:Addr->Option HO}{H:Hp}{a:Addr}(h:nw a=none):vz nw H a=H a:=by unfold vz;rw[h]
theorem Ul{X:Cx}{g:List (Addr×Obj)}{σ:L2.St}{H:Hp}{s:Shared}{h':Heap}{t':Nat}{nw:Addr->Option HO}(I:L2.Inv X g σ H s)(k:∀b u,s.heap.get? b=some u->h'.get? b=some u)(i:∀a o,nw a=some o->s.heap.objs.size<=a)(h:∀a o,nw a=some o->bj X.prog X.w (vz nw H) h' a o):L2.Inv X g σ (vz nw H) {s with heap:=h',toks:=t'}:=by
 have no:∀a,a<s.heap.objs.size->nw a=none:=λa j=>by cases q:nw a with|none=>rfl|some o=>exact absurd (i a o q) (Nat.not_le_of_lt j)
 have f:∀a o,H a=some o->vz nw H a=some o:=λa o e=>by rw[fG (no a (I.hok.lt e))];exact e
 refine I.un ⟨λb u q _ _ _=>k b u q,λb u q _ _ _=>⟨u.slots,k b u q⟩,λb u q n _=>?_,λb u q _=>⟨u,k b u q⟩,λb xs q=>f b _ q,λb u xs q=>f b _ q,λb ps q=>⟨#[],by rw[f b _ q];simp⟩⟩ λb u e=>?_;.rw[fG (no b (lt_size q))];exact n
 .cases q:nw b with|some o=>rw[rW q]at e;cases e;exact h b _ q|none=>rw[fG q]at e;exact(I.hok b u e).stay (λc v _ z=>k c v z) (λc z=>f c _ z) λc xs z=>f c _ z
def iv(l d:Addr):Heap->Prop:=λh=>h.IsItemsView l d
def CJ:V->List V->Hp->VK->Prop:=λx xs H Q=>∃q a kvs,x=.ref q/\xs=[]/\H q=some (.cG a (.dK (map pA kvs)))/\∀l,H l=none->Q (.ref l) (upd H l (.ext (iv l q)))
def rIt(X:Cx):List V->Hp->VK->Prop:=λxs H Q=>∃l q f kvs,xs=[.ref l]/\H l=some (.ext (iv l q))/\H q=some (.cG f (.dK (map pA kvs)))/\(kvs.length<=16777216/\kvs.Pairwise (λa b=>a.1<b.1))/\∃F,aF F H/\∀v e c,Ext F H e c->bG X.K e c H v (.own (kvs.map mC))->Q v c
theorem uN{P:Program}{w:World}{h:Heap}:∀{kvs:List (Int×Int)}{vs:List (Key×Value)}{as:List Addr},KV (kvs.map pA) vs->as.length=vs.length->(∀(j:Nat)(a:Addr),as[j]?=some a->∃key k x,vs[j]?=some (k,x)/\(aQ P w).is k key=true/\h.get? a=some {cls:=.type "tuple",data:=.seq #[key,x]})->∀(j:Nat)(a:Addr),as[j]?=some a->∃p,kvs[j]?=some p/\∃t u,h.get? a=some {cls:=.type "tuple",data:=.seq #[Value.int p.1 t,Value.int p.2 u]}
 |[],_,as,.nil,f,_,j,a,e=>by cases as with|nil=>cases e|cons _ _=>simp at f
 |p::kvs,_,as,.cons (b:=q) r t,f,hk,j,a,e=>by cases as with|nil=>cases e|cons b as=>cases j with
     |zero=>
       obtain⟨key,k,x,g,m,n⟩:=hk 0 a e;simp at g;have o:k=Sum.inl p.1:=by have z:=r.1;rw[g]at z;exact z.symm
       have s:∃u,x=Value.int p.2 u:=by have z:=r.2;rw[g]at z;exact z
       subst o;obtain⟨u,rfl⟩:=s;obtain⟨i,v,l,rfl⟩|⟨_,_,l,_⟩:=bf (show lJ (Sum.inl p.1) key=true from m);.cases l;exact⟨p,rfl,v,u,n⟩
       .cases l|succ j=>exact uN t (by simpa using f) (λi c z=>by simpa using hk (i+1) c (by simpa using z)) j a (by simpa using e)
noncomputable def XF(p:Int×Int):HO:=.tup [.int p.1,.int p.2]
noncomputable def mH:List Addr->List (Int×Int)->Addr->Option HO|a::as,p::ps,b=>if b=a then some (XF p)else mH as ps b|_,_,_=>none
theorem mR:∀{as:List Addr}{ps:List (Int×Int)}{b:Addr}{o:HO},mH as ps b=some o->∃(j:Nat)(p:Int×Int),as[j]?=some b/\ps[j]?=some p/\o=XF p
 |a::as,p::ps,b,o,h=>by
   unfold mH at h;split at h;.rename_i e;cases h;subst e;exact⟨0,p,rfl,rfl,rfl⟩
   .obtain⟨j,q,h1,c,f⟩:=mR h;exact⟨j+1,q,by simpa using h1,by simpa using c,f⟩|[],_,_,_,h=>by simp[mH]at h|_::_,[],_,_,h=>by simp[mH]at h
theorem xO:∀{as:List Addr}{ps:List (Int×Int)},as.Pairwise (·<·)->∀{j:Nat}{b:Addr}{p:Int×Int},as[j]?=some b->ps[j]?=some p->mH as ps b=some (XF p)|[],_,_,_,_,_,h,_=>by simp at h|_::_,[],_,_,_,_,_,h=>by simp at h|a::as,q::ps,c,j,b,p,h1,f=>by unfold mH;cases j with|zero=>cases h1;cases f;rw[if_pos rfl]|succ j=>
     have h1:as[j]?=some b:=by simpa using h1
     have:=(List.pairwise_cons.mp c).1 b (mem_of_getElem? h1);rw[if_neg (λe=>by rw[e]at this;exact lt_irrefl _ this)];exact xO (List.pairwise_cons.mp c).2 h1 (by simpa using f)
theorem oF:∀as:List Addr,Vals (as.map V.ref) (as.map Value.ref)|[]=>.nil|_::as=>.cons rfl (oF as)
theorem xV{K:PySem.W.Frag}{F:Hp}:∀{as:List Addr}{ps:List (Int×Int)},as.length=ps.length->(∀(j:Nat)(b:Addr)(p:Int×Int),as[j]?=some b->ps[j]?=some p->F b=some (XF p))->aB K F (as.map V.ref) (ps.map mC)|[],[],_,_=>.nil|a::as,p::ps,c,h=>.cons (by have:=h 0 a p rfl rfl;rw[show mC p=.tup [.int p.1,.int p.2]from rfl,Rep];refine⟨a,_,rfl,.inl (.inl this),.cons (by rw[Rep]) (.cons (by rw[Rep]) .nil)⟩) (xV (by simpa using c) λj b q h1 e=>h (j+1) b q (by simpa using h1) (by simpa using e))|[],_::_,c,_=>by simp at c|_::_,[],c,_=>by simp at c
theorem yG{h:Heap}:∀{as:List Addr}{ps:List (Int×Int)},as.length=ps.length->(∀(j:Nat)(b:Addr),as[j]?=some b->∃p,ps[j]?=some p/\∃t u,h.get? b=some {cls:=.type "tuple",data:=.seq #[Value.int p.1 t,Value.int p.2 u]})->Paired (lR h) (as.map Value.ref) (ps.map mC)|[],[],_,_=>.nil|a::as,p::ps,c,h=>.cons (by obtain⟨q,e,t,u,g⟩:=h 0 a rfl;cases e;exact⟨a,[Value.int p.1 t,Value.int p.2 u],[p.1,p.2],rfl,⟨_,g,rfl,0,rfl⟩,.cons _ _ (.cons _ _ .nil),by simp,rfl⟩) (yG (by simpa using c) λj b h1=>by simpa using h (j+1) b (by simpa using h1))|[],_::_,c,_=>by simp at c|_::_,[],c,_=>by simp at c
theorem uY{prog:Program}{w:World}{A:Around}{E:Value->Shared->Prop}{s:Shared}{v d:Addr}{kvs:List (Key×Value)}{ep:Nat}{Q:List Value->Shared->Prop}(n:A.handled=none)(i:s.heap.IsItemsView v d)(j:s.heap.DictAt (aQ prog w) d kvs ep)(p:kvs.length<=sizeLine)(t:∀(h':Heap)(f:Nat)(as:List Addr),(∀b o,s.heap.get? b=some o->h'.get? b=some o)->s.heap.objs.size<h'.objs.size->as.length=kvs.length->KdxG (aQ prog w) kvs s.heap.objs.size h' as->Q (as.map Value.ref) {s with heap:=h',toks:=f}):wpAny (model prog w) A (collect (.ref v)) Q E s:=by
 have g:v<s.heap.objs.size:=let⟨_,h1,_⟩:=i;lt_size h1;have h:d<s.heap.objs.size:=j.lt_size;unfold collect;refine wpAny_bind (wpAny_runValue (codeAny_builtin F.entry_proto_collect ?_));rw[Around.under_plainId F.plain_proto_collect _];show wpAny _ A.in1 (newList []>>=λl=>again (.builtin "list.__iadd__" ⟨[l,.ref v],[]⟩)) _ _ s;refine wpAny_bind (wpAny_newObj_type (wpAny_pure ⟨plainId_quiet F.plain_list_iadd _,codeAny_builtin F.entry_list_iadd ?_⟩));rw[Around.under_plainId F.plain_list_iadd _];show wpAny _ A.in1 (listExtendWith (.ref s.heap.objs.size) (.ref v) (.ref s.heap.objs.size)) _ _ _;refine kdx_extend (A:=A) (R:=λr k=>match r with
  |.ok (.ret v)=>wpAny (model prog w) A (match v with
   |.ref a=>do let o<-load a match o.data with|.seq xs _=>pure xs.toList|_=>unsupported "internal:collect"
   |_=>unsupported "internal:collect") Q E k|.ok _=>False|.error e=>E e k) (s:={s with heap:=s.heap.push {cls:=.type "list",data:=.seq #[]}}) n (let⟨o,h1,q⟩:=i;⟨o,gb h1,q⟩) (j.at' λo e=>gb e) s.heap.objs.size (Nat.ne_of_gt g) (ne_of_lt h) _ 0 (get?_push_size _ rfl) (λh' f u B as x m y z c=>?_) p;refine wpAny_bind (wpAny_load m (wpAny_pure ?_));rw[c];exact t h' f as (λb o e=>x b o (ne_of_lt (lt_size e)) (gb e)) (lt_size m) y (z.low (by rw[size_push'];exact Nat.le_succ _))
section
variable{X:Cx}{c:Call}{a:Expr}{pa:P}{pos:Pos}
theorem Dr:MtR X "dict.items" CJ:=by rintro f s σ H x xs v u Q I h i⟨q,j,kvs,rfl,rfl,l,k⟩;cases h;cases i;obtain⟨ho,hz,m,vs,r,g⟩:=(show bj X.prog X.w H s.heap q (.cG j (.dK (kvs.map pA)))from I.hok q _ l);refine call_meetsIn PySem.F.slot_dict_items g.typeIs PySem.F.entry_dict_items (PySem.F.args_dict_items_1 _) (meets_dict_items _ q m) ⟨⟨vs,g⟩,?_⟩;have n:(s.heap.push {cls:=.type "dict_items",data:=.fields #[.ref q]}).IsItemsView s.heap.objs.size q:=⟨_,get?_push_size _ rfl,rfl,rfl⟩;refine⟨.ref s.heap.objs.size,_,I.laid (t':=s.toks) (o:=.ext (iv s.heap.objs.size q)) (λb o e=>gb e) (cL) ⟨n,⟨_,get?_push_size _ rfl⟩,λh1 y z k=>?_⟩,rfl,k _ (I.hok.fresh (cL))⟩;obtain⟨o,p,t⟩:=z;exact⟨o,k o p,t⟩
theorem Mq(hc:X.calm=true):dj X (.builtin "sorted") (rIt X):=by
 rintro ai s σ H xs us Q I r⟨l,q,ob,kvs,hx,hl,hq,⟨al,ac⟩,F,sm,k⟩;subst hx;have so:sortable (kvs.map mC)=true:=by
  have:(kvs.map mC).all uq=true:=by rw[all_eq_true];intro x hx;obtain⟨p,_,rfl⟩:=mem_map.mp hx;rfl
  simp only[sortable,length_map,this,Bool.or_true,Bool.and_true,decide_eq_true_eq];omega
 have J:(kvs.map mC).Pairwise λa b=>jR a b=true:=by rw[List.pairwise_map];refine ac.imp λ{a b}h=>?_;show(!aY [b.1,b.2] [a.1,a.2])=true;simp[aY];omega
 have ae:Ks (kvs.map mC)=kvs.map mC:=(oK so (.refl _) J).symm;rw[<-ae]at k;obtain⟨u,rfl,rx⟩:=r.one;cases rx;obtain⟨V6,_,_⟩:=(show bj X.prog X.w H s.heap l (.ext (iv l q))from I.hok l _ hl);obtain⟨ho,hz,hS,vs,rv,dd⟩:=(show bj X.prog X.w H s.heap q (.cG ob (.dK (kvs.map pA)))from I.hok q _ hq);have L:vs.length=kvs.length:=by rw[<-Paired.length rv,length_map]
 obtain⟨f,es,ep,d1,d2,d3,d4⟩:=dd;have dat:s.heap.DictAt (aQ X.prog X.w) q vs ep:=⟨f,es,d1,d2,d3,d4⟩;refine Calls.call_function_entry kind_sorted plain_sorted entry_sorted (args_sorted1 _) ?_;unfold Builtin.«sorted»;refine wpAny_bind (m:=checkCount "sorted" 1 1 _) (wpAny_pure ?_);refine wpAny_bind (uY (A:=X.A.in1) (I.ok.hd hc) V6 dat (by rw[L,sizeLine_eq];omega) λh1 M as kp hsz N hG=>?_);have hsz:=le_of_lt hsz;have g:as.length=kvs.length:=N.trans L;have pr:=uN rv N hG.pairs;have tt:Paired (lR h1) (as.map Value.ref) (kvs.map mC):=yG g pr;have O:∀a o,mH as kvs a=some o->s.heap.objs.size<=a:=λa o e=>by obtain⟨j,p,U,_,_⟩:=mR e;exact le_of_lt (hG.above a (mem_of_getElem? U))
 have i:∀a o,mH as kvs a=some o->H a=none:=λa o e=>I.hok.fresh (O a o e);have B:aF H (vz (mH as kvs) H):=λb o e=>by cases z:mH as kvs b with|none=>rw[fG z];exact e|some f=>rw[i b f z]at e;cases e
 have e0:Ext F H (vz (mH as kvs) F) (vz (mH as kvs) H):=by
  refine⟨B,λb o e=>?_,λb o e=>?_,λb n n'=>?_⟩;.cases z:mH as kvs b with|none=>rw[fG z];exact e|some f=>have n0:=i b f z;rw[sm b o e]at n0;cases n0
  .cases z:mH as kvs b with|none=>rw[fG z]at e ⊢;exact sm b o e|some f=>rw[rW z]at e ⊢;exact e
  .cases z:mH as kvs b with|none=>rw[fG z]at n';exact absurd n n'|some f=>rw[i b f z];rfl
 have rs:aB X.K (vz (mH as kvs) F) (as.map V.ref) (kvs.map mC):=xV g λj b p h1 h2=>rW (xO hG.rise h1 h2);have vv:=oF as;have af:∀b∈as,b<h1.objs.size:=λb hb=>hG.there hb;have V7:(as.map Value.ref).length=kvs.length:=by rw[length_map];exact g
 refine wpAny_bind (wpAny_newList ?_ (by rw[V7,sizeLine_eq];omega));generalize W:(h1.push {cls:=.type "list",data:=.seq (as.map Value.ref).toArray}:Heap)=G;have Y:G.get? h1.objs.size=some (seqObj "list" (as.map Value.ref).toArray 0):=by rw[<-W];exact get?_push_size _ rfl
 have Gk:∀b o,h1.get? b=some o->G.get? b=some o:=λb o e=>by rw[<-W];exact gb e
 have E:∀b o,h1.get? b=some o->b≠h1.objs.size:=λb o e=>ne_of_lt (lt_size e);show wpAny _ _ _ _ _ {s with heap:=G,toks:=M};refine wpAny_bind (wpAny_holding (wpAny_call_entry slot_list_sort ⟨_,Y,rfl⟩ entry_list_sort ?body (args_list_sort _)));case body=>
  refine Dp (s:={s with heap:=G,toks:=M}) (κ:=tuples' (Value.type "int"!=Value.type "tuple")) Y so (by omega) tt Ie J (λh' Z C hC h2=>?_) (λh' Z u v d e hd he C hC=>?_) λh' cc p Z p1 p2 e=>?_;.exact zJ (s:={s with heap:=h',toks:=M}) (p8 (λb o z=>Z b o (E b o z) (Gk b o z)) tt) h2 hC
  .have kk:∀b o,h1.get? b=some o->h'.get? b=some o:=λb o z=>Z b o (E b o z) (Gk b o z);exact Hg (s:={s with heap:=h',toks:=M}) (j8 kk hd) (j8 kk he) hC
  . refine⟨_,rfl,wpAny_pure ⟨_,rfl,?_⟩⟩;have kk:∀b o,h1.get? b=some o->h'.get? b=some o:=λb o z=>Z b o (E b o z) (Gk b o z);have hL:mH as kvs h1.objs.size=none:=by cases z:mH as kvs h1.objs.size with|none=>rfl|some o=>obtain⟨j,p,U,_,_⟩:=mR z;exact absurd (af _ (mem_of_getElem? U)) (lt_irrefl _)
    have ag:upd (vz (mH as kvs) H) h1.objs.size (.lst (pick .non p (as.map V.ref)))=vz (λb=>if b=h1.objs.size then some (.lst (pick .non p (as.map V.ref)))else mH as kvs b) H:=by
     funext b;unfold upd vz;by_cases z:b=h1.objs.size;.rw[if_pos z];simp only[if_pos z]
     .rw[if_neg z];simp only[if_neg z]
    have I':=Ul (t':=M) (h':=h') (nw:=λb=>if b=h1.objs.size then some (.lst (pick .non p (as.map V.ref)))else mH as kvs b) I (λb o z=>kk b o (kp b o z)) (λa o z=>by
     by_cases y:a=h1.objs.size;.rw[y];exact hsz
     .simp only[if_neg y]at z;exact O a o z) (λa o z=>by
     by_cases y:a=h1.objs.size;.simp only[if_pos y]at z;cases z;subst y;exact⟨by rw[o5 p1,V7,sizeLine_eq];omega,pick .none p (as.map Value.ref),cc,Br vv,e⟩
     .simp only[if_neg y]at z;obtain⟨j,p',U,e2,rfl⟩:=mR z;obtain⟨am,e3,t,u,e4⟩:=pr j a U;rw[e2]at e3;cases e3;exact⟨by rw[sizeLine_eq];simp,[Value.int p'.1 t,Value.int p'.2 u],.cons ⟨t,rfl⟩ (.cons ⟨u,rfl⟩ .nil),⟨_,kk _ _ e4,rfl,0,rfl⟩⟩);rw[<-ag]at I';refine⟨.ref h1.objs.size,_,I',rfl,?_⟩;have ah:aB X.K (vz (mH as kvs) F) (pick .non p (as.map V.ref)) (Ks (kvs.map mC)):=by rw[<-p2];exact Ec rs
    refine um e0.sub ah (by rw[fG hL];exact I.hok.fresh hsz) λv F2 G x rn=>k v F2 G ⟨e0.hs.trans x.hs,e0.fs.trans x.fs,x.sub,λc n n'=>?_⟩ ?_
    . by_cases e:vz (mH as kvs) F c=none;.have:=x.gr c e n';cases z:H c with|none=>rfl|some o=>rw[B c o z]at this;exact this
      .exact e0.gr c n e
    obtain⟨b,xs,q1,q2,q3,q4,q5⟩:=rn;refine⟨b,xs,q1,q2,q3,q4,?_⟩;cases z:H b with|none=>rfl|some o=>rw[B b o z]at q5;cases q5
theorem BK{o:Expr}{to:TE}{f g:Pos}(ho:PE X o to)(j:attributeBase o "items" X.env (eval o X.env)=eval o X.env:=by rfl)(l:(f.endLine==g.line)=true:=by rfl):PE X (.Call (.Attribute o "items" f) [] [] g) (λσ H Q=>to σ H λx m=>CJ x [] m Q):=by intro i s σ H Q I h;refine wpAny_Call_method0_late j l (bH (ho i s σ H _ I h) λv s1⟨x,m,I1,r1,q1⟩=>?_);obtain⟨q,u,kvs,rfl,_,y,k⟩:=id q1;cases r1;obtain⟨ho,hz,z,vs,r,n,es,ep,p,t,A⟩:=(show bj X.prog X.w m s1.heap q (.cG u (.dK (kvs.map pA)))from I1.hok q _ y);refine⟨"dict","dict.items",PySem.F.plainAttrs_dict,PySem.F.slot_dict_items,PySem.F.type_dict_items,⟨n,p,t.1⟩,λb e=>?_,Calls.callWith_builtin rfl (PySem.evalArgs_none (Dr i s1 σ m (.ref q) [] _ [] Q I1 rfl .nil q1))⟩;cases e;exact⟨n,p,t.2.1⟩
theorem GX{x:Str}{U f j:Pos}{o:Expr}(W:x="sorted")(hc:X.calm=true)(Y:Gl X x)(Z:X.mg x=none)(p:(f.endLine==j.line)=true)(ha:SX X c o pa)(s:attributeBase o "items" X.env (eval o X.env)=eval o X.env:=by rfl):SX X c (.Call (.Name x U) [.Call (.Attribute o "items" f) [] [] j] [] pos) (.blt .Ge [pa]):=by
 subst W;obtain⟨ta,h1,h3⟩:=ha.bK;refine⟨cR (dC (Mq hc) Y Z boot_sorted (bF (BK h1 s p) cY)) ?_,λi h=>by cases h⟩;rintro σ H Q⟨F,ρ,r,C,g,e,k⟩;have e:((bK (isVar pa) (HH.ev c pa) ρ).bind λx ρ=>lift (blt .Ge [x]) ρ)=.ok r C:=e;obtain⟨d,ac,e1,u⟩:=aa e;have zz:=aA u;clear u;obtain⟨u,e3⟩:=zz;subst e3;refine h3 g e1 λv J y st pv=>?_;obtain⟨kvs,rfl⟩:∃kvs,d=.cH (.k kvs):=by cases d with
  |cH m=>cases m with|k kvs=>exact⟨kvs,rfl⟩|t kvs=>cases u
  |_=>cases u
 obtain⟨so,he⟩:=aO (show(if kvs.length<=16777216/\kvs.Pairwise (λa b=>a.1<b.1)then some (R.own (kvs.map mC))else none)=some r from u);subst he;obtain⟨q,L,rfl,M⟩:=pv.cH st.gs.sub;refine⟨q,L,kvs,rfl,rfl,M,λl A=>⟨l,q,L,kvs,rfl,aH,aF.bL A q _ M,so,J,λb o e=>aF.bL A b o (st.gs.sub b o e),λw E G B rn=>?_⟩⟩;have sm:aF y (upd y l (.ext (iv l q))):=aF.bL A;have x3:Ext J y E G:=⟨sm.trans B.hs,B.fs,B.sub,λb n n'=>by
  have:=B.gr b n n';by_cases N:b=l;.subst N;rw[A];rfl
  .rw[ao N]at this;exact this⟩;have I:bG X.K E G y w (.own (kvs.map mC)):=by obtain⟨b,xs,q1,q2,q3,q4,O⟩:=rn;refine⟨b,xs,q1,q2,q3,q4,?_⟩;cases z:y b with|none=>rfl|some o=>rw[sm b o z]at O;cases O
 exact k w E G (st.trans (x3.stp st.gs)) (.later st (I.lZ st.gs))
end
end HH
end
section
namespace HH
open PySem L2 PySem.Spec PyProof.Rows
variable{o:Option V}{rows:List (List D)}
section
variable{K:PySem.W.Frag}{F F' F1 H H' H1 F0 H0:Hp}{ρ ρ' ρ1 ρ0:List Sl}{σ σ' σ1 σ0:L2.St}{x:Nat}{q:Addr}{as:List Addr}{rows lN:List (List D)}
noncomputable def Bw:Sl->Bool|.aP=>true|.hold _=>true|_=>false
theorem eO{s:Sl}{i:Nat}{b:Addr}(g:Bw s=true)(h:aM (ρ.set x s) (σ.set x o) i b):aM ρ σ i b/\i≠x:=by
 obtain⟨⟨t,j,e,a⟩,f⟩:=h;by_cases c:x=i
 . subst c;rw[List.getElem?_set]at e;rw[if_pos rfl]at e;split at e;.cases e;cases s<;>first|(cases a;done)|(cases g;done)
   .cases e
 .rw[getElem?_set_ne c]at e f;exact⟨⟨⟨t,j,e,a⟩,f⟩,λz=>c z.symm⟩
theorem GS.yJ{s:Sl}(f:Bw s=true)(g:GS K F ρ σ H):GS K F (ρ.set x s) (σ.set x o) H:=by
 refine⟨g.sub,by simp[g.len],λi b d e=>?_,λi t k e h=>?_,λi j a h1 l=>g.dis i j a (eO f h1).1 (eO f l).1⟩
 . by_cases c:x=i
   . subst c;rw[List.getElem?_set,if_pos rfl]at e;split at e;.cases e;cases f
     .cases e
   .rw[getElem?_set_ne c]at e ⊢;exact g.val i b d e
 . by_cases c:x=i
   . subst c;rw[List.getElem?_set,if_pos rfl]at e;split at e;.cases e;cases s<;>first|(cases h;done)|(cases f;done)
     .cases e
   .rw[getElem?_set_ne c]at e ⊢;exact g.own i t k e h
theorem aq.yJ{s:Sl}{o:Option V}(a:Bw s=true)(t:aq K F ρ σ H F1 ρ1 σ1 H1)(f:∀s0,ρ[x]?=some s0->qW s0=false):aq K F ρ σ H F1 (ρ1.set x s) (σ1.set x o) H1:=by
 refine⟨t.gs.yJ a,t.cz,t.vp,t.keep,λb⟨i,h⟩=>t.tE b ⟨i,(eO a h).1⟩,by simp[t.len],λi g e l=>?_⟩;have c:x≠i:=by rintro rfl;rw[f _ e]at l;cases l
 obtain⟨j,s2,k,m⟩:=t.lk i g e l;exact⟨by rw[getElem?_set_ne c];exact j,s2,by rw[getElem?_set_ne c];exact k,m⟩
theorem aq.free{i:Nat}{s1:Sl}(t:aq K F ρ σ H F1 ρ1 σ1 H1)(h:ρ1[i]?=some s1)(a:qW s1=false):∀s0,ρ[i]?=some s0->qW s0=false:=λs0 e=>by cases z:qW s0 with|false=>rfl|true=>obtain⟨_,s2,b,c⟩:=t.lk i s0 e z;rw[h]at b;cases b;rw[c.qW z]at a;cases a
structure Lf(F:Hp)(ρ:List Sl)(σ:L2.St)(H:Hp)(a:Addr)(xs:List V):Prop where kp:Kp ρ σ H a (.lst xs)fr:F a=none
theorem Lf.stp{a:Addr}{xs:List V}(h:Lf F ρ σ H a xs)(s:aq K F ρ σ H F' ρ' σ' H'):Lf F' ρ' σ' H' a xs:=by refine⟨h.kp.stp s,?_⟩;cases z:F' a with|none=>rfl|some o=>
   rcases s.vp a h.fr (by rw[z];simp)with y|y;.exact absurd y h.kp.2
   .rw[h.kp.1]at y;cases y
structure Nw(K:PySem.W.Frag)(x:Nat)(q:Addr)(as:List Addr)(F:Hp)(ρ:List Sl)(σ:L2.St)(H:Hp)(rows:List (List D)):Prop where
 slot:ρ[x]?=some (.hold rows)val:σ[x]?=some (some (.ref q))out:Lf F ρ σ H q (as.map V.ref)nd:(q::as).Nodup
 len:as.length=rows.length
 row:∀(k:Nat)(a:Addr)(ds:List D),as[k]?=some a->rows[k]?=some ds->Wt K F ρ σ H a ds
theorem Nw.stp(w:Nw K x q as F ρ σ H rows)(s:aq K F ρ σ H F' ρ' σ' H'):Nw K x q as F' ρ' σ' H' rows:=by obtain⟨b,s2,c,e⟩:=s.lk x _ w.slot rfl;cases(show s2=.hold rows from e);exact⟨c,b.trans w.val,w.out.stp s,w.nd,w.len,λk a f h1 g=>(w.row k a f h1 g).stp s⟩
structure NB(K:PySem.W.Frag)(x:Nat)(q:Addr)(as:List Addr)(F0:Hp)(ρ0:List Sl)(σ0:L2.St)(H0:Hp)(F:Hp)(ρ:List Sl)(σ:L2.St)(H:Hp)(rows:List (List D)):Prop where
 stp:aq K F0 ρ0 σ0 H0 F ρ σ H
 fresh:∀b,b∈q::as->Own ρ0 σ0 b\/H0 b=none
 free:∀s0,ρ0[x]?=some s0->qW s0=false
 nw:Nw K x q as F ρ σ H rows
theorem NB.step(b:NB K x q as F0 ρ0 σ0 H0 F ρ σ H rows)(s:aq K F ρ σ H F' ρ' σ' H'):NB K x q as F0 ρ0 σ0 H0 F' ρ' σ' H' rows:=⟨b.stp.trans s,b.fresh,b.free,b.nw.stp s⟩
theorem yr{s:Sl}{a:Addr}{b:HO}(c:Bw s=true)(h:Kp ρ σ H a b):Kp (ρ.set x s) (σ.set x o) H a b:=⟨h.1,λ⟨i,z⟩=>h.2 ⟨i,(eO c z).1⟩⟩
theorem Jo{s:Sl}{a:Addr}{b:List D}(c:Bw s=true)(h:Wt K F ρ σ H a b):Wt K F (ρ.set x s) (σ.set x o) H a b:=by obtain⟨⟨xs,h1,e⟩,f⟩:=h;exact⟨⟨xs,yr c h1,e⟩,f⟩
theorem aq.YD{Da:Addr}{o:HO}(s:aq K F ρ σ H F1 ρ1 σ1 H1)(h:Own ρ σ Da\/H Da=none)(j:F1 Da=none)(ho:¬ Own ρ1 σ1 Da):aq K F ρ σ H F1 ρ1 σ1 (upd H1 Da o):=by
 refine⟨⟨λb u e=>?_,s.gs.len,s.gs.val,λi t c e f=>?_,s.gs.dis⟩,s.cz,s.vp,λb u e n=>?_,s.tE,s.len,s.lk⟩
 . have:b≠Da:=by rintro rfl;rw[j]at e;cases e
   rw[ao this];exact s.gs.sub b u e
 . obtain⟨a,xs,g,k,l,m⟩:=s.gs.own i t c e f;have:a≠Da:=by rintro rfl;exact ho ⟨i,⟨t,c,e,f⟩,g⟩
   exact⟨a,xs,g,by rw[ao this];exact k,l,m⟩
 . have:b≠Da:=by
    rintro rfl;rcases h with h|h;.exact n h
    .rw[h]at e;cases e
   rw[ao this];exact s.keep b u e n
theorem NB.mut{r:Nat}{a:Addr}{row e:List D}{ys:List V}(b:NB K x q as F0 ρ0 σ0 H0 F ρ σ H rows)(g:as[r]?=some a)(hr:rows[r]?=some row)(n:aB K F ys e):NB K x q as F0 ρ0 σ0 H0 F (ρ.set x (.hold (rows.set r e))) σ (upd H a (.lst ys)) (rows.set r e):=by
 have w:=b.nw.row r a row g hr;obtain⟨⟨xs,l,r1⟩,f1⟩:=w;have p:x<ρ.length:=(dw b.nw.slot).1;have sx:σ.set x (some (.ref q))=σ:=by have:=b.nw.val;obtain⟨h1,f⟩:=dw this;rw[<-f];simp
 have mem:a∈q::as:=mem_cons_of_mem _ (mem_of_getElem? g);have s1:=(b.stp.YD (o:=.lst ys) (b.fresh a mem) f1 l.2).yJ (x:=x) (s:=.hold (rows.set r e)) (o:=some (.ref q)) rfl b.free;rw[sx]at s1;have t:q≠a:=by have:=(nodup_cons.mp b.nw.nd).1;rintro rfl;exact this (mem_of_getElem? g)
 have own:∀{c:Addr},¬ Own ρ σ c->¬ Own (ρ.set x (.hold (rows.set r e))) σ c:=λ{c}h⟨i,z⟩=>h ⟨i,by have:=eO (x:=x) (s:=.hold (rows.set r e)) (o:=some (.ref q)) (σ:=σ) (ρ:=ρ) rfl (b:=c) (i:=i) (by rw[sx];exact z);exact this.1⟩;refine⟨s1,b.fresh,b.free,⟨getElem?_set_self p,b.nw.val,⟨⟨by rw[ao t];exact b.nw.out.kp.1,own b.nw.out.kp.2⟩,b.nw.out.fr⟩,b.nw.nd,by simp[b.nw.len],λk c u h1 f=>?_⟩⟩;by_cases j:k=r;.subst j;rw[g]at h1;cases h1;have v:k<rows.length:=(dw hr).1;rw[getElem?_set_self v]at f;cases f;exact⟨⟨ys,⟨aH,own l.2⟩,n⟩,f1⟩
 . rw[getElem?_set_ne (λz=>j z.symm)]at f;obtain⟨⟨y,m,A⟩,f2⟩:=b.nw.row k c u h1 f;have nc:c≠a:=by rintro rfl;have nd:=(nodup_cons.mp b.nw.nd).2;obtain⟨E,B⟩:=dw h1;obtain⟨l2,C⟩:=dw g;exact j ((List.getElem_inj nd).mp (B.trans C.symm))
   exact⟨⟨y,⟨by rw[ao nc];exact m.1,own m.2⟩,A⟩,f2⟩
noncomputable def Fz(F H:Hp)(bs:List Addr):Hp:=λb=>if b∈bs then H b else F b
theorem pM{G:Hp}:∀{as:List Addr}{rows:List (List D)},as.length=rows.length->(∀(k:Nat)(a:Addr)(c:List D),as[k]?=some a->rows[k]?=some c->Rep K G (.ref a) (.lst c))->aB K G (as.map V.ref) (rows.map D.lst)|[],[],_,_=>.nil|a::as,c::rows,h,k=>.cons (k 0 a c rfl rfl) (pM (by simpa using h) λj b es h1 e=>k (j+1) b es (by simpa using h1) (by simpa using e))|[],_::_,h,_=>by simp at h|_::_,[],h,_=>by simp at h
theorem Nw.JP(w:Nw K x q as F ρ σ H rows){b:Addr}(hb:b∈q::as):F b=none/\¬ Own ρ σ b:=by
 rcases mem_cons.mp hb with rfl|hb;.exact⟨w.out.fr,w.out.kp.2⟩
 . obtain⟨k,a⟩:=List.getElem?_of_mem hb;have c:k<rows.length:=by rw[<-w.len];exact(dw a).1
   obtain⟨⟨xs,e,_⟩,f1⟩:=w.row k b rows[k] a (by simp[c]);exact⟨f1,e.2⟩
theorem Nw.fz(w:Nw K x q as F ρ σ H rows)(sm:aF F H):aF F (Fz F H (q::as))/\aF (Fz F H (q::as)) H/\Rep K (Fz F H (q::as)) (.ref q) (.lst (rows.map D.lst)):=by
 have s1:aF F (Fz F H (q::as)):=λb o e=>by unfold Fz;rw[if_neg λc=>by rw[(w.JP c).1]at e;cases e];exact e
 refine⟨s1,λb o e=>?_,?_⟩
 . unfold Fz at e;split at e;.exact e
   .exact sm b o e
 .rw[Rep];refine⟨q,as.map V.ref,rfl,dJ.of (by unfold Fz;rw[if_pos mem_cons_self];exact w.out.kp.1),pM w.len λk a f h1 g=>?_⟩;obtain⟨⟨xs,h,r1⟩,f1⟩:=w.row k a f h1 g;rw[Rep];exact⟨a,xs,rfl,dJ.of (by unfold Fz;rw[if_pos (mem_cons_of_mem _ (mem_of_getElem? h1))];exact h.1),r1.mono s1⟩
theorem NB.cG(b:NB K x q as F0 ρ0 σ0 H0 F ρ σ H rows):aq K F0 ρ0 σ0 H0 (Fz F H (q::as)) (ρ.set x (.val false (.lst (rows.map D.lst)))) σ H:=by
 obtain⟨s1,s2,w⟩:=b.nw.fz b.stp.gs.sub;have g:=b.stp.gs;have s:x<ρ.length:=(dw b.nw.slot).1;have k:∀{j:Nat}{c:Addr},aM (ρ.set x (.val false (.lst (rows.map D.lst)))) σ j c->aM ρ σ j c/\x≠j:=λ{j c}⟨⟨t,r,e,m⟩,e1⟩=>by
  by_cases f:x=j;.subst f;rw[getElem?_set_self s]at e;cases e;cases m
  .rw[getElem?_set_ne f]at e;exact⟨⟨⟨t,r,e,m⟩,e1⟩,f⟩
 refine⟨⟨s2,by simp[g.len],λi y d e=>?_,λi t r e m=>?_,λi j c h1 p=>g.dis i j c (k h1).1 (k p).1⟩,b.stp.cz.trans s1,λc n u=>?_,b.stp.keep,λc⟨j,h⟩=>b.stp.tE c ⟨j,(k h).1⟩,by simp[b.stp.len],λi t e l=>?_⟩
 . by_cases f:x=i;.subst f;rw[getElem?_set_self s]at e;cases e;exact⟨_,b.nw.val,w⟩
   .rw[getElem?_set_ne f]at e;obtain⟨v,h1,p⟩:=g.val i y d e;exact⟨v,h1,p.mono s1⟩
 . by_cases f:x=i;.subst f;rw[getElem?_set_self s]at e;cases e;cases m
   .rw[getElem?_set_ne f]at e;obtain⟨a,o,h1,p,z,A⟩:=g.own i t r e m;refine⟨a,o,h1,p,?_,A.mono s1⟩;unfold Fz;rw[if_neg λB=>(b.nw.JP B).2 ⟨i,⟨t,r,e,m⟩,h1⟩];exact z
 . by_cases hc:c∈q::as;.exact(b.fresh c hc).imp id iQ
   . have:Fz F H (q::as) c=F c:=by unfold Fz;rw[if_neg hc]
     rw[this]at u;exact b.stp.vp c n u
 . have c:x≠i:=by rintro rfl;rw[b.free _ e]at l;cases l
   obtain⟨C,s3,E,G⟩:=b.stp.lk i t e l;exact⟨C,s3,by rw[getElem?_set_ne c];exact E,G⟩
end
inductive NQ(K:PySem.W.Frag)(x:Nat)(f:List Sl->Res Fl)(E:Ends)(σ:L2.St)(H:Hp):Prop where|mk(F0:Hp)(ρ0:List Sl)(σ0:L2.St)(H0 F:Hp)(ρ:List Sl)(q:Addr)(as:List Addr)(rows:List (List D))(fl:Fl)(ρ':List Sl)(b:NB K x q as F0 ρ0 σ0 H0 F ρ σ H rows)(e:f ρ=.ok fl ρ')(k:∀F' σ' H',aq K F0 ρ0 σ0 H0 F' ρ' σ' H'->aF F F'->((∀r,fl≠.ret r)->∃lN,NB K x q as F0 ρ0 σ0 H0 F' ρ' σ' H' lN)->DG K E F' ρ' σ' H' ρ0 σ0 H0 fl)
inductive Va(K:PySem.W.Frag)(x:Nat)(f:List Sl->Res Fl)(E:Ends)(σ:L2.St)(H:Hp):Prop where|mk(F0:Hp)(ρ0:List Sl)(σ0:L2.St)(H0 F:Hp)(ρ:List Sl)(q:Addr)(as:List Addr)(rows:List (List D))(fl:Fl)(ρ':List Sl)(b:NB K x q as F0 ρ0 σ0 H0 F ρ σ H rows)(e:f ρ=.ok fl ρ')(k:∀F' σ' H',aq K F0 ρ0 σ0 H0 F' ρ' σ' H'->DG K E F' ρ' σ' H' ρ0 σ0 H0 fl)
structure S6(X:Cx)(c:Call)(n x:Nat)(st:Stmt)(s:S):Prop where p:PS X st (NQ X.K x (ex c n s))
structure Rh(X:Cx)(c:Call)(n x:Nat)(st:List Stmt)(s:List S):Prop where p:uL X st (NQ X.K x (fX c n s))
structure Wx(X:Cx)(c:Call)(n x:Nat)(st:List Stmt)(s:List S):Prop where p:uL X st (Va X.K x (fX c n s))
section
variable{X:Cx}{c:Call}{n x:Nat}{e a b d tg iter:Expr}{p pa pb pd:P}{pos:Pos}{body:List Stmt}{ss:List S}{st:Stmt}{s:S}{sts:List Stmt}
theorem mL:Rh X c n x [] []:=⟨km zb λD σ H⟨f,ρ0,σ0,H0,F,ρ,q,as,rows,fl,ρ',nb,e,k⟩=>by rw[xs0]at e;cases e;exact k F σ H nb.stp (.refl _) λ_=>⟨rows,nb⟩⟩
theorem oW(h1:S6 X c n x st s)(w:Rh X c n x sts ss):Rh X c n x (st::sts) (s::ss):=by refine⟨km (jG h1.p w.p) ?_⟩;rintro D σ H⟨h,f,g,i,F,ρ,q,as,rows,fl,t,l,e,k⟩;rw[Ob]at e;obtain⟨f1,j,m,e⟩:=aa e;cases f1 with|next=>refine⟨h,f,g,i,F,ρ,q,as,rows,.next,j,l,m,λF1 y I s1 sm nn=>?_⟩;obtain⟨A,B⟩:=nn (λr z=>by cases z);exact⟨h,f,g,i,F1,j,q,as,A,fl,t,B,e,λC u E s2 G v=>k C u E s2 (sm.trans G) v⟩|brk=>cases e;exact⟨h,f,g,i,F,ρ,q,as,rows,.brk,_,l,m,k⟩|cont=>cases e;exact⟨h,f,g,i,F,ρ,q,as,rows,.cont,_,l,m,k⟩|ret r=>cases e;exact⟨h,f,g,i,F,ρ,q,as,rows,.ret r,_,l,m,k⟩
theorem Cu(h1:S6 X c n x st s)(w:Wx X c n x sts ss):Wx X c n x (st::sts) (s::ss):=by refine⟨km (jG h1.p w.p) ?_⟩;rintro D σ H⟨j,g,h,l,F,ρ,q,as,rows,fl,v,t,e,k⟩;rw[Ob]at e;obtain⟨f1,m,u,e⟩:=aa e;cases f1 with|next=>refine⟨j,g,h,l,F,ρ,q,as,rows,.next,m,t,u,λF1 f i s1 sm nn=>?_⟩;obtain⟨y,A⟩:=nn (λr z=>by cases z);exact⟨j,g,h,l,F1,m,q,as,y,fl,v,A,e,k⟩|brk=>cases e;exact⟨j,g,h,l,F,ρ,q,as,rows,.brk,_,t,u,λF1 f i s1 _ _=>k F1 f i s1⟩|cont=>cases e;exact⟨j,g,h,l,F,ρ,q,as,rows,.cont,_,t,u,λF1 f i s1 _ _=>k F1 f i s1⟩|ret r=>cases e;exact⟨j,g,h,l,F,ρ,q,as,rows,.ret r,_,t,u,λF1 f i s1 _ _=>k F1 f i s1⟩
theorem Ig(h:SB X c n sts ss):Wx X c n x sts (.cG x::ss):=by refine⟨km h ?_⟩;rintro D σ H⟨B,l,m,C,F,ρ,q,as,rows,fl,f,i,e,k⟩;rw[Ob]at e;obtain⟨f1,u,j,e⟩:=aa e;rw[HH.X22,i.nw.slot]at j;cases j;have t:=i.cG;refine⟨_,_,fl,f,t.gs,e,λw g y s=>?_⟩;have z:=k w g y (t.trans s);cases fl with|next=>exact z|brk=>exact z|cont=>exact z|ret r=>exact λv A=>z v (A.later t)
theorem Pj{r u:List Stmt}{v w:List S}(hc:ST X c e p)(z:Rh X c n x r v)(A:Rh X c n x u w):S6 X c n x (.If e r u pos) (.ifs p v w):=by refine⟨dm (Kq hc z.p A.p) ?_⟩;rintro D σ H⟨B,j,l,C,F,ρ,q,as,rows,fl,i,y,e,k⟩;rw[HH.Xk]at e;obtain⟨t,g,E,e⟩:=aa e;refine⟨F,ρ,t,g,y.stp.gs,E,λF1 G s1=>?_⟩;have go:∀{f:List Sl->Res Fl},f g=.ok fl i->NQ X.K x f D σ G:=λ{f}h=>⟨B,j,l,C,F1,g,q,as,rows,fl,i,y.step s1,h,λI m J s2 sm nn=>k I m J s2 (s1.cz.trans sm) nn⟩;cases t with|true=>rw[if_pos rfl]at e;exact go e|false=>rw[if_neg Bool.false_ne_true]at e;exact go e
theorem CT{ρ:List Sl}(h:gM ρ x=some rows):ρ[x]?=some (.hold rows):=by
 unfold gM at h;split at h;.rename_i z;cases h;exact z
 .cases h
def WalkN(K:PySem.W.Frag)(J:It)(i:List D)(F1:Hp):Prop:=∀(k:Nat)(h f:Hp),aF F1 h->aF h f->(∀d,i[k]?=some d->J.go k f/\∀x j,J.KJ k f x j->∃g,Ext h f g j/\Rep K g x d)/\(i.length<=k->J.stop k f)
inductive Za(K:PySem.W.Frag)(f:Ev)(σ:L2.St)(H:Hp)(R:It->Hp->Prop):Prop where|mk(F:Hp)(ρ:List Sl)(r:HH.R)(ρ1:List Sl)(ds:List D)(g:GS K F ρ σ H)(e:f ρ=.ok r ρ1)(e2:items r.d=some ds)(k:∀J F1 H1,aq K F ρ σ H F1 ρ1 σ H1->WalkN K J ds F1->R J H1)
structure SIN(X:Cx)(c:Call)(tg e:Expr)(p:P):Prop where p:PI X tg e (Za X.K (HH.ev c p))
theorem Hf(h:SX X c e p):SIN X c tg e p:=by refine⟨qm (v7 h.ev) ?_⟩;rintro σ H R⟨F,ρ,r,m,y,g,e,f,k⟩;refine⟨F,ρ,r,m,g,e,λv z A s t=>?_⟩;obtain⟨B,s2,_,i⟩:=s.cG t;cases hd:r.d with|tup es=>rw[hd]at i f;cases f;rw[Rep]at i;obtain⟨a,xs,rfl,h1,q⟩:=i;exact⟨a,rfl,.inr ⟨⟨xs,aF.gF s2.gs.sub h1⟩,k _ _ _ s2 λk u w j l=>yt (aF.gF l (aF.gF j h1)) (q.mono j) l k⟩⟩|lst es=>rw[hd]at i f;cases f;rw[Rep]at i;obtain⟨a,xs,rfl,h1,q⟩:=i;exact⟨a,rfl,.inl ⟨⟨xs,s2.gs.sub.seq h1⟩,k _ _ _ s2 λk u w j l=>nP (l.seq (j.seq h1)) (q.mono j) l k⟩⟩|_=>rw[hd]at f;cases f
theorem Ab{K:PySem.W.Frag}{F1:Hp}(i j:Int):WalkN K (Ud i (j-i).toNat) ((List.range (j-i).toNat).map λ(k:Nat)=>D.int (i+(k:Int))) F1:=by
 refine λk g u _ sm=>⟨λd hd=>?_,λh=>?_⟩;.rw[getElem?_map]at hd;obtain⟨m,l,q⟩:=map_some hd;obtain⟨h1,f⟩:=dw l;rw[List.getElem_range]at f;subst f;subst q;rw[length_range]at h1;refine⟨h1,?_⟩;rintro x v⟨r,t⟩;subst r;subst t;exact⟨g,.refl sm,bC _⟩
 .rw[length_map,length_range]at h;exact h
theorem Et{x:Str}{q:Pos}(t:x="range")(u:Gl X x)(w:X.mg x=none)(y:SX X c a pa)(hs:starEach [a] X.env=[(false,eval a X.env)]:=by rfl):SIN X c tg (.Call (.Name x q) [a] [] pos) (.qG (.con (.int 0)) pa):=by
 subst t;obtain⟨O,h1,z⟩:=y.bK;refine⟨qm (qu u w (bF h1 cY hs) hs) ?_⟩;rintro σ H R⟨F,ρ,r,A,Q,g,l,B,k⟩;rw[HH.E19]at l;obtain⟨U,C,E,f⟩:=aa l;have G:=aA f;clear f;obtain⟨f,I⟩:=G;subst I;obtain⟨W,J,L,h⟩:=aa E;cases h;obtain⟨i,f1,f⟩:=bB f;obtain⟨j,f2,f⟩:=bB f;obtain⟨⟨b1,b2,b3,b4⟩,f⟩:=aO f;have f1:i=0:=by cases f1;rfl
 subst f1;subst f;cases B;cases cF f2;refine z g L λv m M s N=>⟨j,by rw[N.int],by omega,by omega,?_⟩;have:=Ab (K:=X.K) (F1:=m) 0 j;rw[sub_zero]at this;refine k _ m M s ?_;rw[sub_zero];exact this
theorem xP{g:TG}{is:List Nat}{one:Bool}(hp:PassesOwn (model X.prog X.w) X.A X.env X.xe)(hc:X.calm=true)(hi:SIN X c tg iter p)(hg:PG X tg g)(af:HF X.K (λρ d=>bV ρ is one d) g)(hb:Rh X c n x body ss)(hs:∀x,foldedSetIterable iter X.env x=pure x:=by intro _;rfl):S6 X c n x (.For tg iter body [] pos) (.Bb p is one ss):=by
 refine⟨dm (Ci hp hc hi.p hg hb.p hs) ?_⟩;rintro D σ H⟨F0,C,E,H0,F,ρ,q,as,rows,fl,O,nb,e,k⟩;rw[HH.X21]at e;obtain⟨r,Q,e1,e⟩:=aa e;obtain⟨j,al,e9,e2⟩:=aa e;have zz:=aA e9;clear e9;obtain⟨e9,ag⟩:=zz;subst ag;refine⟨F,ρ,r,Q,j,nb.stp.gs,e1,e9,λJ F1 H1 s1 w=>?_⟩;refine⟨λi m t Hi=>∃B f N,NB X.K x q as F0 C E H0 B f t Hi N/\aF F1 B/\m=j.length-i/\i<=j.length/\fU is one (fX c n ss) (j.drop i) f=.ok fl O,⟨_,F1,Q,rows,nb.step s1,.refl _,rfl,rK,e2⟩,?_⟩;rintro i m t Hi⟨B,f,N,U,G,rfl,am,l⟩;obtain⟨w1,w2⟩:=w i B Hi G U.stp.gs.sub;by_cases u:i<j.length
 . right;have hd:j[i]?=some j[i]:=by simp[u]
   obtain⟨go,step⟩:=w1 _ hd;refine⟨go,λW Y=>∃m',m'<j.length-i/\∃B f N,NB X.K x q as F0 C E H0 B f W Y N/\aF F1 B/\m'=j.length-(i+1)/\i+1<=j.length/\fU is one (fX c n ss) (j.drop (i+1)) f=.ok fl O,λW Y z=>z,λy Y yy=>?_⟩;obtain⟨F2,ext,rx⟩:=step y Y yy;have t2:=ext.stp U.stp.gs;rw[drop_eq_getElem_cons u,fU]at l;cases hbd:bV f is one j[i]with|none=>rw[hbd]at l;cases l|some Z=>rw[hbd]at l;obtain⟨ac,I,eb,l⟩:=aa l;refine af y _ F2 f Z t Y _ t2.gs rx hbd λap sb=>?_;have t3:=t2.trans sb;refine⟨F0,C,E,H0,F2,Z,q,as,N,ac,I,U.step t3,eb,λF4 ae H4 s4 ah L=>?_⟩;have Yv:aF F1 F4:=G.trans (ext.fs.trans ah);cases ac with|next=>obtain⟨Gn,M⟩:=L (λr z=>by cases z);exact⟨_,by omega,F4,I,Gn,M,Yv,rfl,u,l⟩|cont=>obtain⟨Gn,M⟩:=L (λr z=>by cases z);exact⟨_,by omega,F4,I,Gn,M,Yv,rfl,u,l⟩|brk=>cases l;exact k F4 ae H4 s4 (s1.cz.trans Yv) λ_=>L (λr z=>by cases z)|ret r=>cases l;exact λv rr=>k F4 ae H4 s4 (s1.cz.trans Yv) (λh=>(h r rfl).elim) v rr
 . left;have ai:j.drop i=[]:=by rw[drop_eq_nil_iff];omega
   rw[ai,fU]at l;cases l;exact⟨w2 (by omega),k B t Hi U.stp (s1.cz.trans G) λ_=>⟨N,U⟩⟩
end
section
variable{X:Cx}{c:Call}{n:Nat}{e a b d i j:Expr}{p pa pb pd pi pj:P}{pos:Pos}
theorem G6{ρ f:List Sl}{x:Nat}{o:Option (List (List D))}{fl:Fl}(h:Ae ρ x o=.ok fl f):∃rows,o=some rows/\fl=.next/\f=ρ.set x (.hold rows):=by cases o with|none=>cases h|some rows=>cases h;exact⟨rows,rfl,rfl,rfl⟩
section
variable{K:PySem.W.Frag}{F H F0 H0:Hp}{ρ ρ0:List Sl}{σ σ0:L2.St}{x:Nat}{q:Addr}{as:List Addr}{rows lN:List (List D)}
theorem NB.hold(f:NB K x q as F0 ρ0 σ0 H0 F ρ σ H rows)(h:gM ρ x=some lN):lN=rows:=by have:=CT h;rw[f.nw.slot]at this;cases this;rfl
theorem NB.at{k:Int}{r:Nat}{row:List D}(f:NB K x q as F0 ρ0 σ0 H0 F ρ σ H rows)(h1:HH.gQ rows.length k=some r)(h:rows[r]?=some row):∃a ys,as[r]?=some a/\Ce (as.map V.ref) k=some (.ref a)/\H a=some (.lst ys)/\aB K F ys row:=by
 have g:r<as.length:=by rw[f.nw.len];exact(dw h).1
 obtain⟨⟨ys,l,r1⟩,_⟩:=f.nw.row r as[r] row (by simp[g]) h;refine⟨as[r],ys,by simp[g],?_,l.1,r1⟩;unfold Ce;rw[length_map,f.nw.len];rw[show L2.gQ rows.length k=some r from h1];simp[g]
theorem NB.sy{g:D}{row:List D}(l:NB K x q as F0 ρ0 σ0 H0 F ρ σ H rows)(h:HH.sy ρ x g=some row):∃k a,(∃r:Nat,as[r]?=some a)/\Ce (as.map V.ref) k=some (.ref a)/\g=.int k/\∃ys,H a=some (.lst ys)/\aB K F ys row:=by unfold HH.sy at h;obtain⟨f,h1,h⟩:=bB h;cases l.hold h1;obtain⟨k,m,h⟩:=bB h;obtain⟨r,s,t⟩:=bB h;obtain⟨a,ys,u,v,w,y⟩:=l.at s t;exact⟨k,a,⟨r,u⟩,v,cF m,ys,w,y⟩
end
theorem Aj{l:List (List D)}{k:Int}{f:List D->Option (List D)}(h:iG rows k f=some l):∃r row g,HH.gQ rows.length k=some r/\rows[r]?=some row/\f row=some g/\l=rows.set r g:=by unfold iG at h;obtain⟨r,h1,h⟩:=bB h;obtain⟨row,m,h⟩:=bB h;obtain⟨g,q,h⟩:=map_some h;exact⟨r,row,g,h1,m,q,h.symm⟩
theorem CN{x:Str}{k:Nat}{u f h g:Pos}(hN:X.N[k]?=some x)(hv:tD X.env.scope x)(hi:SX X c i pi)(he:SX X c e p)(I:rO i:=by intro _ _;rfl)(l:(h.endLine==g.line)=true:=by rfl)(hs:starEach [e] X.env=(false,eval e X.env)::starEach [] X.env:=by rfl)(s:attributeBase (.Subscript (.Name x u) i f) "append" X.env (eval (.Subscript (.Name x u) i f) X.env)=eval (.Subscript (.Name x u) i f) X.env:=by rfl)(w:((backTo g (starEach [e] X.env)).all (λx=>!x.1)&&(backToKw g (keywordEach [] X.env)).all (λx=>x.1.isSome)&&decide ([e].length+([]:List Keyword).length+(if([]:List Keyword).isEmpty then 0 else 1)<30))=true:=by rfl)(J:swapsWith (.Call (.Attribute (.Subscript (.Name x u) i f) "append" h) [e] [] g) none pos.line X.env=pure false:=by rfl)(hd:(x==("__debug__":Str))=false:=by decide)(L:(x==("__classdict__":Str))=false:=by decide):S6 X c n k (.Expr (.Call (.Attribute (.Subscript (.Name x u) i f) "append" h) [e] [] g) pos) (.Gj k pi p):=by obtain⟨ti,M,O⟩:=hi.bK;refine⟨dm (qY (yZ plainAttrs_list PySem.F.slot_list_append PySem.F.type_list_append lz (J5 yq (cT hN hv hd L) M I) (bF he.ev cY hs) s w l hs) J) ?_⟩;rintro E σ H⟨F0,al,am,H0,F,ρ,q,as,rows,fl,ap,Q,e,kk⟩;rw[HH.X20]at e;obtain⟨dk,U,e2,e⟩:=aa e;obtain⟨ah,ai,C,e⟩:=aa e;have zz:=aA C;clear C;obtain⟨C,W⟩:=zz;subst W;obtain⟨r,Y,e3,e⟩:=aa e;obtain⟨rs,y,rfl,rfl⟩:=G6 e;refine⟨.ref q,Q.nw.val,O Q.stp.gs e2 λvi F1 H1 s1 pi=>?_⟩;have G:=Q.step s1;obtain⟨k0,a,g1,g2,g0,ys,g3,g4⟩:=G.sy C;rw[g0]at pi;refine⟨q,_,k0,_,rfl,pi.int,dJ.of G.nw.out.kp.1,g2,.inl ⟨rfl,ys,dJ.of g3⟩,F1,U,r,Y,G.stp.gs,e3,λv F2 H2 s2 rr=>?_⟩;obtain⟨F3,s3,_,rp⟩:=s2.cG rr;have t:=G.step s3;obtain⟨Z,e5,y⟩:=bB y;cases t.hold e5;obtain⟨k1,e6,y⟩:=bB y;obtain⟨m,row,gU,f1,f2,f3,rfl⟩:=Aj y;obtain⟨ac,rfl⟩:=aO f3;have:=cF e6;rw[g0]at this;cases this;obtain⟨a',ae,af,z,ag,A⟩:=t.at f1 f2;rw[g2]at z;cases z;have B:=t.mut af f2 (A.append (.cons rp .nil));exact⟨a,ae,v,rfl,rfl,ag,by rw[A.length];exact ac,kk F3 σ _ B.stp (s1.cz.trans s3.cz) λ_=>⟨_,B⟩⟩
end
section
variable{K:PySem.W.Frag}{F H F1 H1:Hp}{ρ ρ1:List Sl}{σ σ1:L2.St}
theorem aq.since{b:Addr}(s:aq K F ρ σ H F1 ρ1 σ1 H1)(h:H1 b=none):Own ρ σ b\/H b=none:=by
 by_cases ho:Own ρ σ b;.exact .inl ho
 .right;cases e:H b with|none=>rfl|some o=>rw[s.keep b o e ho]at h;cases h
theorem NB.mk'{x:Nat}{q:Addr}{as:List Addr}{s1:Sl}(s:aq K F ρ σ H F1 ρ1 σ1 H1)(e:ρ1[x]?=some s1)(g:qW s1=false)(h:Lf F1 ρ1 σ1 H1 q (as.map V.ref))(nd:(q::as).Nodup)(len:as.length=rows.length)(row:∀(k:Nat)(a:Addr)(c:List D),as[k]?=some a->rows[k]?=some c->Wt K F1 ρ1 σ1 H1 a c)(fr:∀b,b∈q::as->Own ρ σ b\/H b=none):NB K x q as F ρ σ H F1 (ρ1.set x (.hold rows)) (σ1.set x (some (.ref q))) H1 rows:=by
 have hi:x<ρ1.length:=(dw e).1;have f:x<σ1.length:=by rw[<-s.gs.len];exact hi
 exact⟨s.yJ rfl (s.free e g),fr,s.free e g,⟨getElem?_set_self hi,getElem?_set_self f,⟨yr rfl h.kp,h.fr⟩,nd,len,λk a c h1 i=>Jo rfl (row k a c h1 i)⟩⟩
end
theorem Dt{K:PySem.W.Frag}{F H:Hp}{ρ e l:List Sl}{σ:L2.St}{ul:List Sl->List Sl}{ti:TI}{is:List Nat}{one:Bool}{c:Call}{el:Ev}{g:TG}{Q:VK}{f:List D}{m n:Nat}(hm:σ.length=m)(aw:lE K m is one g)(ax:∀R:It->Hp->Prop,(∀J F1 Y,Walk K F ρ σ H ul J f F1 e Y->R J Y)->ti σ H R)(ba:f.length<=lim)(e2:dM is one el f [] (e++replicate n .aP)=.ok rows l)(k:∀ q as F' H',aq K F ρ σ H F' (ul (l.take e.length)) σ H'->Lf F' (ul (l.take e.length)) σ H' q (as.map V.ref)->(q::as).Nodup->as.length=rows.length->(∀(k:Nat)(a:Addr)(f:List D),as[k]?=some a->rows[k]?=some f->Wt K F' (ul (l.take e.length)) σ H' a f)->(∀b,b∈q::as->Own ρ σ b\/H b=none)->Q (.ref q) H'):qD n ti g (Dg K (m8 c none)) (uM K el) σ H Q:=by
 refine ax _ λJ F1 Y w Da zy=>?_;have ay:e.length=σ.length:=w.gs.len;have gm:=w.gs.more (n:=n) (τ:=replicate n none) (by simp);have fD:F1 Da=none:=by cases q:F1 Da with|none=>rfl|some o=>rw[w.gs.sub Da o q]at zy;cases zy
 have nO:¬ Own (e++replicate n .aP) (σ++replicate n none) Da:=λ⟨i,⟨t,dt,q1,q2⟩,q3⟩=>by obtain⟨a,ys,z1,z2,_⟩:=gm.own i t dt q1 q2;rw[q3]at z1;cases z1;rw[zy]at z2;cases z2
 refine⟨λi mm ys j N=>∃O u B as,aq K F1 (e++replicate n .aP) (σ++replicate n none) Y O u j N/\j.take m=σ/\ys=as.map V.ref/\N Da=some (.lst ys)/\O Da=none/\¬ Own u j Da/\(Da::as).Nodup/\as.length=B.length/\(∀(k:Nat)(a:Addr)(f:List D),as[k]?=some a->B[k]?=some f->Wt K O u j N a f/\(Own (e++replicate n .aP) (σ++replicate n none) a\/Y a=none))/\B.length<=i/\mm=f.length-i/\i<=f.length/\dM is one el (f.drop i) B u=.ok rows l,⟨_,F1,_,[],[],(aq.refl gm).DN zy fD nO,by rw[List.take_append_of_le_length (by omega),List.take_of_length_le (by omega)],rfl,aH,fD,nO,by simp,rfl,λk a f h=>by simp at h,rK,rfl,rK,e2⟩,?_⟩;rintro i mm ys j N⟨O,u,B,as,si,ap,ac,hD,hF,hO,ae,C,I,bi,rfl,bm,G⟩;refine⟨hD,?_⟩;have stay:∀{F2 H2:Hp}{af:List Sl}{L:L2.St},aq K O u j N F2 af L H2->H2 Da=some (.lst ys)/\F2 Da=none/\¬ Own af L Da:=λ{F2 H2 af L}s=>by have:=(Lf.stp (xs:=ys) ⟨⟨hD,hO⟩,hF⟩ s);exact⟨this.kp.1,this.fr,this.kp.2⟩
 obtain⟨s1,s2⟩:=w.src n i O u j N si;by_cases ag:i<f.length
 . right;have hd:f[i]?=some f[i]:=by simp[ag]
   obtain⟨go,step⟩:=s1 _ hd;refine⟨go,λx H2 y=>?_⟩;obtain⟨F2,ext,rx⟩:=step x H2 y;have t2:=ext.stp si.gs;rw[drop_eq_getElem_cons ag,dM]at G;cases hbd:bV u is one f[i]with|none=>rw[hbd]at G;cases G|some X=>rw[hbd]at G;obtain⟨re,ah,ee,G⟩:=aa G;cases re with|val _=>cases G|own ai=>
     replace G:dM is one el (f.drop (i+1)) (B++[ai]) ah=.ok rows l:=G;refine aw x _ F2 u X j H2 _ t2.gs rx hbd λL sb aE=>?_;have t3:=t2.trans sb;refine⟨F2,X,true,X,t3.gs,by rw[m8],λF4 H4 s4=>?_⟩;have t4:=t3.trans s4;refine(show uM K el L H4 _ from⟨F4,X,.own ai,ah,t4.gs,ee,λv F5 H5 s5 rr=>?_⟩);have t6:=t4.trans s5;obtain⟨y1,y2,y3⟩:=stay t6;obtain⟨z1,z2,z3⟩:=stay t4;have al:ys.length<sizeLine:=by have U:lim=sizeLine:=rfl;rw[ac,length_map];omega
     obtain⟨A,xs,rfl,a1,a2,a3,a4,a5⟩:=rr;have ar:A≠Da:=by
      rintro rfl;rcases a5 with z|z;.exact z3 z
      .rw[z1]at z;cases z
     have nA:A∉as:=λhA=>by
      obtain⟨M,E⟩:=List.getElem?_of_mem hA;have am:M<B.length:=by rw[<-C];exact(dw E).1
      obtain⟨⟨zs,Z,_⟩,_⟩:=(I M A B[M] E (by simp[am])).1.stp t4;rcases a5 with z|z;.exact Z.2 z
      .rw[Z.1]at z;cases z
     have fA:Own (e++replicate n .aP) (σ++replicate n none) A\/Y A=none:=by
      have t:=si.trans t4;rcases a5 with z|z;.exact t.tE A z
      .exact t.since z
     refine⟨y1,al,_,by omega,F5,ah,B++[ai],as++[A],(si.trans t6).DN zy y2 y3,aE.trans ap,by rw[ac];simp,aH,y2,y3,?_,by simp[C],λM a0 aI h1 U=>?_,by simp;omega,rfl,ag,G⟩
     . rw[<-cons_append,nodup_append];refine⟨ae,by simp,λp hp r hr=>?_⟩;simp at hr;subst hr;rcases mem_cons.mp hp with rfl|hp;.exact λz=>ar z.symm
       .rintro rfl;exact nA hp
     . by_cases E:M<as.length
       . rw[getElem?_append_left E]at h1;rw[getElem?_append_left (by omega)]at U;obtain⟨w0,f0⟩:=I M a0 aI h1 U;obtain⟨⟨zs,Z,r1⟩,g1⟩:=w0.stp t6;have na:a0≠Da:=by rintro rfl;exact(nodup_cons.mp ae).1 (mem_of_getElem? h1)
         exact⟨⟨⟨zs,⟨by rw[ao na];exact Z.1,Z.2⟩,r1⟩,g1⟩,f0⟩
       . rw[getElem?_append_right (by omega)]at h1;rw[getElem?_append_right (by omega)]at U;have:M-as.length=0:=by have:=(dw h1).1;simp at this;exact this
         rw[this]at h1;rw[<-C,this]at U;cases h1;cases U;exact⟨⟨⟨xs,⟨by rw[ao ar];exact a1,a4⟩,a3⟩,a2⟩,fA⟩
 . left;have aS:f.drop i=[]:=by rw[drop_eq_nil_iff];omega
   rw[aS,dM]at G;cases G;refine⟨s2 (by omega),?_⟩;have hst:j.take e.length=σ:=by rw[ay,hm];exact ap
   obtain⟨l1,l2⟩:=aq.less (m:=e.length) rfl w.gs (by simp) si;rw[hst]at l1;obtain⟨z1,z2⟩:=w.fin _ _ _ _ l1--the outer list:with nothing in it,it is like any new one
   have aT:=si.DN (o:=.lst []) zy hF hO;obtain⟨av,Sh⟩:=aq.less (m:=e.length) rfl w.gs (by simp) aT;rw[hst]at av;obtain⟨bn,a8⟩:=w.fin _ _ _ _ av;have rr:bT K O l j (upd N Da (.lst [])) (e++replicate n .aP) (σ++replicate n none) Y (.ref Da) (.own []):=⟨Da,[],rfl,aH,hF,.nil,hO,.inr zy⟩;have K1:=Sh _ _ rr;rw[hst]at K1;obtain⟨_,_,q0,_,q3,_,q5,q6⟩:=a8 _ _ K1;cases q0;have rws:∀(k:Nat)(a:Addr)(f:List D),as[k]?=some a->rows[k]?=some f->Wt K O (ul (l.take e.length)) σ N a f/\(Own ρ σ a\/H a=none):=λk a f h1 U=>by obtain⟨⟨⟨xs,Z,r1⟩,f1⟩,f2⟩:=I k a f h1 U;have rr:bT K O l j N (e++replicate n .aP) (σ++replicate n none) Y (.ref a) (.own f):=⟨a,xs,rfl,Z.1,f1,r1,Z.2,f2⟩;have K1:=l2 _ _ rr;rw[hst]at K1;obtain⟨a',a9,q0,q2,q3,q4,q5,q6⟩:=z2 _ _ K1;cases q0;exact⟨⟨⟨a9,⟨q2,q5⟩,q4⟩,q3⟩,q6⟩
   refine k Da as O N z1 ⟨⟨by rw[hD,ac],q5⟩,q3⟩ ae C (λk a f h1 U=>(rws k a f h1 U).1) λb hb=>?_;rcases mem_cons.mp hb with rfl|hb;.exact q6
   . obtain⟨M,E⟩:=List.getElem?_of_mem hb;have am:M<rows.length:=by rw[<-C];exact(dw E).1
     exact(rws M b rows[M] E (by simp[am])).2
section
variable{X:Cx}{c:Call}{nn n:Nat}{tg iter elt:Expr}{ps pe:P}{pos:Pos}{sts:List Stmt}{ss:List S}{scope:Scope}{N':List Str}
theorem Hv{i:Nat}{x:Str}{b f:Pos}{g:TG}{is:List Nat}{one:Bool}(hc:X.calm=true)(A:X.N.Nodup)(m:X.N[i]?=some x)(B:Loc X.env.scope x)(ok:dN X scope N' n)(hi:SI X c tg iter ps)(E:∀cl C s₀ H₀ ex,PG (qd X scope N' cl C s₀ H₀ ex) tg g)(r:lE X.K X.N.length is one g)(ht:∀cl C s₀ H₀ ex,SQ (qd X scope N' cl C s₀ H₀ ex) c [] none)(he:∀cl C s₀ H₀ ex,SX (qd X scope N' cl C s₀ H₀ ex) c elt pe)(G:Wx X c nn i sts ss)(t:swapsWith (.ListComp elt [⟨tg,iter,[],0⟩] scope pos) (some (.Name x b)) f.line X.env=pure true:=by rfl)(hs:∀x,foldedSetIterable iter X.env x=pure x:=by intro _;rfl)(J:X.fn x=true\/X.env.scope.names.lookup x=some .local:=by first|exact .inl rfl|exact .inr rfl|assumption):SB X c nn (.Assign [.Name x b] (.ListComp elt [⟨tg,iter,[],0⟩] scope pos) f::sts) (.Gi i ps n is one pe::ss):=by
 have h0:=yU (tt:=Dg X.K (m8 c none)) (te:=uM X.K (HH.ev c pe)) hc A m B ok hi E ht (λcl C s₀ H₀ ex=>(he cl C s₀ H₀ ex).ev) t hs J;refine λj s σ H D I q=>jG h0 G.p j s σ H D I ?_;have L:σ.length=X.N.length:=I.len;obtain⟨F,ρ,fl,u,M,e,O⟩:=q;rw[Ob]at e;obtain⟨f1,Q,a,e⟩:=aa e;rw[HH.X19]at a;obtain⟨U,w,W,a⟩:=aa a;split at a;.rename_i k;obtain⟨rows,Y,Z,a⟩:=aa a;obtain⟨ac,z,l,a⟩:=aa a;cases a;have zz:=aA l;clear l;obtain⟨l,_⟩:=zz;obtain⟨s1,h1,h2,rfl⟩:=rR l;refine(show qD n (tIt X.K (isVar ps) (HH.ev c ps)) g (Dg X.K (m8 c none)) (uM X.K (HH.ev c pe)) σ H (λv H1=>ig i v σ H1 (Va X.K i (fX c nn ss) D))from Dt (c:=c) (ul:=aX ρ (isVar ps)) L r (λR h=>⟨F,ρ,U,w,M,W,h⟩) k Z λq as F' H' s wq nd len row fr=>?_);exact⟨F,ρ,σ,H,F',_,q,as,rows,fl,u,NB.mk' s h1 h2 wq nd len row fr,e,λF2 y H2 s2=>O F2 y H2 s2⟩
 .cases a
end
end HH
end
section
namespace HH
open PySem L2 PySem.Spec PyProof.Rows PySem.Calls PySem.W
variable{i:Nat}{x:Str}
section
variable{K:PySem.W.Frag}{F F1 H H1:Hp}{ρ ρ1 ρ2:List Sl}{σ σ1:L2.St}
theorem GS.ZV{x:Nat}{kvs f:List (Int×D)}{a:Addr}{w:HO}(g:GS K F ρ σ H)(e:ρ[x]?=some (.cA kvs))(p:σ[x]?=some (some (.ref a)))(r:jl K F w (.v f)):aq K F ρ σ H F (ρ.set x (.cA f)) σ (upd H a w):=by
 have hi:x<ρ.length:=(dw e).1;have y:aM ρ σ x a:=⟨⟨_,_,e,rfl⟩,p⟩;obtain⟨L,M,h1,N,z,O⟩:=g.own x _ _ e rfl;rw[p]at h1;cases h1;have h:∀{j:Nat}{c:Addr},aM (ρ.set x (.cA f)) σ j c->aM ρ σ j c:=λ{j c}⟨⟨t,dt,m,s⟩,q3⟩=>by
  by_cases b:j=x;.subst b;exact⟨⟨_,_,e,rfl⟩,q3⟩
  .rw[dz b]at m;exact⟨⟨t,dt,m,s⟩,q3⟩
 refine⟨⟨λc o q=>?_,by simp[g.len],λj B d q=>?_,λj t dt q u=>?_,λj k c m s=>g.dis j k c (h m) (h s)⟩,.refl _,λc n C=>absurd n C,λc o q n=>?_,λc⟨j,q⟩=>.inl ⟨j,h q⟩,by simp,λj t q l=>⟨rfl,?_⟩⟩
 . have:c≠a:=by rintro rfl;rw[z]at q;cases q
   rw[ao this];exact g.sub c o q
 . by_cases b:j=x;.subst b;rw[getElem?_set_self hi]at q;cases q
   .rw[dz b]at q;exact g.val j B d q
 . by_cases b:j=x;.subst b;rw[getElem?_set_self hi]at q;cases q;cases u;exact⟨a,_,p,aH,z,r⟩
   . rw[dz b]at q;obtain⟨c,E,A,G,I,J⟩:=g.own j t dt q u;have:c≠a:=by rintro rfl;exact b (g.dis j x c ⟨⟨t,dt,q,u⟩,A⟩ y)
     exact⟨c,E,A,by rw[ao this];exact G,I,J⟩
 . have:c≠a:=by rintro rfl;exact n ⟨x,y⟩
   rw[ao this];exact q
 . by_cases b:j=x;.subst b;rw[e]at q;cases q;cases l
   .exact⟨t,by rw[dz b];exact q,.refl t⟩
theorem GS.newV{kvs:List (Int×D)}{a:Addr}{A:HO}{s0:Sl}(g:GS K F ρ σ H)(e:ρ[i]?=some s0)(y:qW s0=false)(r:jl K F A (.v kvs))(s:H a=none):aq K F ρ σ H F (ρ.set i (.cA kvs)) (σ.set i (some (.ref a))) (upd H a A):=by
 have hi:i<ρ.length:=(dw e).1;have u:i<σ.length:=by rw[<-g.len];exact hi
 have B:F a=none:=by cases q:F a with|none=>rfl|some o=>rw[g.sub a o q]at s;cases s
 have f:∀{j:Nat}{c:Addr},j≠i->aM (ρ.set i (.cA kvs)) (σ.set i (some (.ref a))) j c->aM ρ σ j c:=λ{j c}b⟨⟨t,ds,e1,e2⟩,e3⟩=>by rw[dz b]at e1 e3;exact⟨⟨t,ds,e1,e2⟩,e3⟩
 have h:∀{c:Addr},aM (ρ.set i (.cA kvs)) (σ.set i (some (.ref a))) i c->c=a:=λ{c}⟨_,e3⟩=>by rw[getElem?_set_self u]at e3;cases e3;rfl
 have no:∀{j:Nat},¬ aM ρ σ j a:=λ{j}⟨⟨t,ds,e1,e2⟩,e3⟩=>by obtain⟨c,o,m,p,_⟩:=g.own j t ds e1 e2;rw[e3]at m;cases m;rw[s]at p;cases p
 refine⟨⟨λc o q=>?_,by simp[g.len],λj E d q=>?_,λj t dt q C=>?_,λj k c m p=>?_⟩,.refl _,λc n G=>absurd n G,λc o q n=>?_,λc⟨j,q⟩=>?_,by simp,λj t q l=>?_⟩
 . have:c≠a:=by rintro rfl;rw[B]at q;cases q
   rw[ao this];exact g.sub c o q
 . by_cases b:j=i;.subst b;rw[getElem?_set_self hi]at q;cases q
   .rw[dz b]at q ⊢;exact g.val j E d q
 . by_cases b:j=i;.subst b;rw[getElem?_set_self hi]at q;cases q;cases C;exact⟨a,_,getElem?_set_self u,aH,B,r⟩
   . rw[dz b]at q ⊢;obtain⟨c,o,I,z,J,L⟩:=g.own j t dt q C;have:c≠a:=by rintro rfl;rw[s]at z;cases z
     exact⟨c,o,I,by rw[ao this];exact z,J,L⟩
 . by_cases b:j=i
   . by_cases w:k=i;.rw[b,w]
     .subst b;rw[h m]at p;exact absurd (f w p) no
   . by_cases w:k=i;.subst w;rw[h p]at m;exact absurd (f b m) no
     .exact g.dis j k c (f b m) (f w p)
 . have:c≠a:=by rintro rfl;rw[s]at q;cases q
   rw[ao this];exact q
 . by_cases b:j=i;.subst b;rw[h q];exact .inr s
   .exact .inl ⟨j,f b q⟩
 . have b:j≠i:=by rintro rfl;rw[e]at q;cases q;rw[y]at l;cases l
   exact⟨by rw[dz b],t,by rw[dz b];exact q,.refl t⟩
end
section
variable{X:Cx}{c:Call}{n:Nat}{a b e:Expr}{pa pb p:P}{pos:Pos}
theorem xU{f m:Pos}(o:X.N.Nodup)(hi:X.N[i]?=some x)(r:Loc X.env.scope x)(hs:swapsWith (.Dict [] [] m) (some (.Name x f)) pos.line X.env=pure false:=by rfl)(s:X.fn x=true\/X.env.scope.names.lookup x=some .local:=by first|exact .inl rfl|exact .inr rfl|assumption):SS X c n (.Assign [.Name x f] (.Dict [] [] m) pos) (.Bc i):=by
 refine dm (vQ o hi r tM hs s) ?_;rintro D σ H⟨F,ρ,fl,h,g,e,k⟩;rw[HH.X23]at e;have go:∀s0,ρ[i]?=some s0->qW s0=false->fl=.next->h=ρ.set i (.cA [])->∀a,H a=none->D.nx (σ.set i (some (.ref a))) (upd H a (.dK [])):=λs0 q t j l a u=>by subst j l;exact k F _ _ (g.newV (kvs:=[]) q t (KR.oc .nil) u)
 split at e;.rename_i q;cases e;exact go _ q rfl rfl rfl
 .rename_i q;cases e;exact go _ q rfl rfl rfl
 .rename_i q;cases e;exact go _ q rfl rfl rfl
 .cases e
theorem qK{w f:Pos}{pk:P}(hu:X.A.units+8<cLine)(C:X.N[i]?=some x)(E:tD X.env.scope x)(G:SX X c a pk)(he:SX X c e p)(hs:swapsWith e (some (.Subscript (.Name x w) a f)) pos.line X.env=pure false:=by rfl)(hd:(x==("__debug__":Str))=false:=by decide)(m:(x==("__classdict__":Str))=false:=by decide):SS X c n (.Assign [.Subscript (.Name x w) a f] e pos) (.fj i pk p):=by
 obtain⟨ta,h1,I⟩:=G.bK;refine dm (xF (by omega) (cT C E hd m) h1 he.ev hs) ?_;rintro D σ H⟨F,ρ,fl,J,g,e,k⟩;rw[HH.X24]at e;obtain⟨r,o,L,l⟩:=aa e;clear e;refine⟨F,ρ,r,o,g,L,λv F1 H1 s1 M=>?_⟩;obtain⟨F2,s2,_,O⟩:=s1.cG M;split at l
 . rename_i Q U;obtain⟨kd,W,Y,h⟩:=aa l;clear l;obtain⟨s,o0,t,w2,w3,w4⟩:=s2.gs.own i _ _ U rfl;refine⟨.ref s,t,I s2.gs Y λy Z H3 s3 py=>?_⟩;split at h
   . rename_i kvs j q;split at h;.rename_i hl;cases h;obtain⟨a1,o1,z,y2,y3,y4⟩:=s3.gs.own i _ _ q rfl;rw[t]at z;cases z;obtain⟨es,rfl,B⟩:=KR.Nj y4;have u:=B.put (k:=j) (O.mono s3.cz);refine⟨s,upd H3 s (.dK (putK es (Sum.inl j:Key) v)),rfl,?_,k Z σ _ ((s2.trans s3).trans (s3.gs.ZV q t u.oc))⟩;rw[py.int];exact .inl ⟨es,Sum.inl j,y2,rfl,by rw[B.len,sizeLine_eq];exact hl,rfl⟩
     .cases h
   .cases h
 .cases l
theorem wF{y:Pos}{pk:P}(hu:X.A.units+8<cLine)(z:X.N[i]?=some x)(B:tD X.env.scope x)(C:SX X c a pk)(hs:Jf a)(hd:(x==("__debug__":Str))=false:=by decide)(l:(x==("__classdict__":Str))=false:=by decide):SX X c (.Subscript (.Name x y) a pos) (.KQ i pk):=by
 obtain⟨ta,h1,E⟩:=C.bK;refine⟨cR (Jc (by omega) (cT z B hd l) h1 hs) ?_,λi h=>by cases h⟩;rintro σ H Q⟨F,ρ,r,G,g,e,k⟩;rw[HH.E23]at e;split at e
 . rename_i I q;obtain⟨kd,J,L,f⟩:=aa e;clear e;obtain⟨m,o0,o,w2,w3,w4⟩:=g.own i _ _ q rfl;refine⟨.ref m,o,E g L λv F1 M s1 s=>?_⟩;split at f;.rename_i kvs O;obtain⟨t,U⟩:=aA f;clear f;subst U;obtain⟨j,W,Y⟩:=bB t;clear t;obtain⟨d,Z,e6⟩:=map_some Y;subst e6;rw[cF W]at s;obtain⟨a1,o1,u,y2,y3,y4⟩:=s1.gs.own i _ _ O rfl;rw[o]at u;cases u;obtain⟨es,rfl,kr⟩:=KR.Nj y4;obtain⟨w,g1,g2⟩:=kr.get Z;rw[s.int];exact⟨m,w,rfl,.inl ⟨es,Sum.inl j,.inl y2,rfl,g1.symm⟩,k w F1 M s1 (show Rep X.K F1 _ _ from g2)⟩
   .cases f
 .cases e
theorem MT{G:Pos}{pk:P}{neg:Bool}{op:CmpOp}(t:(op=.In/\neg=false)\/(op=.NotIn/\neg=true))(hu:X.A.units+8<cLine)(w:X.N[i]?=some x)(z:tD X.env.scope x)(J:SX X c a pk)(hd:(x==("__debug__":Str))=false:=by decide)(m:(x==("__classdict__":Str))=false:=by decide):PC X op a (.Name x G) (uM X.K (HH.ev c (.KY i pk neg))):=by
 obtain⟨L,h1,M⟩:=J.bK;have l:∀{σ:L2.St}{H:Hp}{Q:VK},uM X.K (HH.ev c (.KY i pk neg)) σ H Q->L σ H λy u=>Pk i σ u λx B=>∃a o,x=.ref a/\kO B a y o/\Q (.bl (if neg then !o.isSome else o.isSome)) B:=λ{σ H Q}⟨F,ρ,r,ρ',g,e,k⟩=>by
  rw[HH.E24]at e;obtain⟨kd,O,U,q⟩:=aa e;clear e;refine M g U λv F1 u s1 C=>?_;split at q;.rename_i kvs W;obtain⟨Y,Z⟩:=aA q;clear q;subst Z;obtain⟨j,e4,e5⟩:=map_some Y;subst e5;rw[cF e4]at C;obtain⟨E,o1,y1,y2,y3,y4⟩:=s1.gs.own i _ _ W rfl;obtain⟨es,rfl,kr⟩:=KR.Nj y4;rw[C.int];refine⟨.ref E,y1,E,_,rfl,.inl ⟨es,Sum.inl j,.inl y2,rfl,rfl⟩,?_⟩;rw[kr.has j];exact k _ F1 u s1 (show Rep X.K F1 _ _ from fO _)
  .cases q
 rcases t with⟨rfl,rfl⟩|⟨rfl,rfl⟩;.exact λf s σ H Q I h=>Ma (by omega) h1 (cT w z hd m) f s σ H Q I (l h)
 .exact λf s σ H Q I h=>Af (by omega) h1 (cT w z hd m) f s σ H Q I (l h)
end
theorem lM{P:Program}{w:World}:∀{ks:List Int}{es:List (Key×V)}{vs:List (Key×Value)}{a:List Value},es.map (·.1)=ks.map (Sum.inl:Int->Key)->KV es vs->a.length=vs.length->(∀(j:Nat)(v:Value),a[j]?=some v->∃(k:Key)(x:Value),vs[j]?=some (k,x)/\(aQ P w).is k v=true)->IntsAre a ks
 |[],es,_,a,he,r,h,_=>by cases es with
   |nil=>cases r;cases a with|nil=>exact .nil|cons _ _=>simp at h
   |cons _ _=>simp at he
 |i::ks,es,_,a,he,r,h,k=>by cases es with|nil=>simp at he|cons p es=>cases r with|@cons _ q _ _ r t=>rw[map_cons,map_cons]at he;cases a with|nil=>simp at h|cons v a=>
         obtain⟨f,x,c,g⟩:=k 0 v rfl;simp at c;have l:f=Sum.inl i:=by have z:=r.1;rw[c]at z;rw[<-(List.cons.inj he).1];exact z.symm
         subst l;obtain⟨n,m,b,rfl⟩|⟨_,_,b,_⟩:=bf (show lJ (Sum.inl i) v=true from g);.cases b;exact .cons _ m (lM (List.cons.inj he).2 t (by simpa using h) λj v e=>k (j+1) v (by simpa using e))
         .cases b
section
variable{X:Cx}{c:Call}{n:Nat}{a b e:Expr}{pa pb p:P}{pos:Pos}
theorem Vo(hc:X.calm=true):dj X (.type "list") (J6 X.K λx=>blt .R9 [x]):=by rintro t s σ H xs us Q I r⟨x,A,F,d,B,sm,C,he,k⟩;cases d with|dv ks ds=>
   obtain⟨E,he⟩:=aO (show(if ks.length<=16777216 then some (R.own (ks.map D.int))else none)=some B from he);subst he;obtain⟨q,G,g,rfl,J,L,M⟩:=C.dv sm;subst A;obtain⟨u,rfl,N⟩:=r.one;cases N;obtain⟨ho,hz,O,vs,y,l⟩:=(show bj X.prog X.w H s.heap q (.cG G (.dK (ent ks g)))from I.hok q _ J);obtain⟨ep,l⟩:=l.dictAt;have z:=nY (ks:=ks) (vs:=g) (by rw[L.length];exact M);have m:vs.length=ks.length:=by rw[<-Paired.length y];have:=congrArg List.length z;simpa using this
   refine kdl_call (kdl_dict (knd:=aQ X.prog X.w) (kvs:=vs) (ep:=ep) O) (I.ok.hd hc) l (by rw[m,sizeLine_eq];omega) λh' U h W kp Y f=>?_;have Z:IntsAre h.toList ks:=lM (P:=X.prog) (w:=X.w) z y (by rw[length_toList];exact f.1) λj v e=>f.2 j v (by rw[<-Array.getElem?_toList];exact e);refine⟨.ref s.heap.objs.size,_,I.laid (t':=U) (o:=.lst (ks.map V.int)) (h':=h') kp (cL) ⟨by rw[length_map,sizeLine_eq];omega,h.toList,W,jF Z,by rw[Array.toArray_toList];exact Y⟩,rfl,?_⟩;exact um sm (qg ks) (I.hok.fresh (cL)) k|_=>cases he
theorem Ff{f:Pos}(g:x="list")(hc:X.calm=true)(j:Gl X x)(k:X.mg x=none)(l:SX X c a pa)(hs:starEach [a] X.env=(false,eval a X.env)::starEach [] X.env:=by rfl):SX X c (.Call (.Name x f) [a] [] pos) (.blt .R9 [pa]):=by subst g;exact oZ (λh=>kJ (Vo hc) j k (by decide+kernel) h (he:=hs)) l (λρ=>rfl) rfl hs
theorem HB{neg:Bool}{op:CmpOp}(f:(op=.In/\neg=false)\/(op=.NotIn/\neg=true))(L:X.A.units+8<cLine):fH X (compareOp op) (rD X.K (tX neg)):=by rintro m s σ H x y v u Q I h t⟨F,d,e,r,sm,w,z,he,k⟩;cases d with
 |int j=>cases e with|dv ks M=>
     cases he;obtain⟨q,B,vs,rfl,C,E,G⟩:=z.dv sm;have J:=KR.zip E G;rw[w.int]at h;obtain rfl:u=Value.ref q:=t;have g:kO H q (.int j) (gR (ent ks vs) (Sum.inl j:Key)):=.inl ⟨_,Sum.inl j,.inr ⟨B,C⟩,rfl,rfl⟩;have o:(gR (ent ks vs) (Sum.inl j:Key)).isSome=ks.contains j:=by rw[J.has j];congr 1;rw[List.map_fst_zip (by omega)]
     rcases f with⟨rfl,rfl⟩|⟨rfl,rfl⟩;.refine Tw (by omega) I g h λs3 l=>⟨.bl (gR (ent ks vs) (Sum.inl j:Key)).isSome,H,l,rfl,?_⟩;rw[o];exact bG.cj sm (fO _) k
     .refine xT (by omega) I g h λs3 l=>⟨.bl (!(gR (ent ks vs) (Sum.inl j:Key)).isSome),H,l,rfl,?_⟩;rw[o];exact bG.cj sm (fO _) k|_=>cases he
 |_=>cases he
end
end HH
end
section
namespace PySem
section
variable{prog:Program}{w:World}{A:Around}{E:Value->Shared->Prop}{s:Shared}
theorem rA{Q:List Value->Shared->Prop}{I l:Addr}{items:Array Value}(u:A.handled=none)(f:s.heap.IsRevIter I l ((items.size:Int)-1))(p:s.heap.IsList l items)(k:l≠I)(g:items.size<=2^24)(x:∀h' m c,(∀b o,b≠I->s.heap.get? b=some o->h'.get? b=some o)->s.heap.objs.size<h'.objs.size->ItemsOf (λi v=>items[items.size-1-i]?=some v) c items.size->Q c.toList {s with heap:=h',toks:=m}):
 wpAny (model prog w) A (collect (.ref I)) Q E s:=by have h:I<s.heap.objs.size:=let⟨_,ho,_⟩:=f;lt_size ho;have n:l<s.heap.objs.size:=let⟨_,ho,_⟩:=p;lt_size ho;unfold collect;refine wpAny_bind (wpAny_runValue (codeAny_builtin F.entry_proto_collect ?_));rw[Around.under_plainId F.plain_proto_collect _];show wpAny _ A.in1 (newList []>>=λl=>again (.builtin "list.__iadd__" ⟨[l,.ref I],[]⟩)) _ _ s;refine wpAny_bind (wpAny_newObj_type ?_);refine wpAny_pure ⟨plainId_quiet F.plain_list_iadd _,codeAny_builtin F.entry_list_iadd ?_⟩;rw[Around.under_plainId F.plain_list_iadd _];show wpAny _ A.in1 (listExtendWith (.ref s.heap.objs.size) (.ref I) (.ref s.heap.objs.size)) _ _ _;refine jY (A:=A) (R:=λr q=>match r with
  |.ok (.ret v)=>wpAny (model prog w) A (match v with
   |.ref a=>do let o<-load a match o.data with|.seq xs _=>pure xs.toList|_=>unsupported "internal:collect"
   |_=>unsupported "internal:collect") Q E q|.ok _=>False|.error e=>E e q) (s:={s with heap:=s.heap.push {cls:=.type "list",data:=.seq #[]}}) u (f.at λo e=>gb e) (p.at λo e=>gb e) k g s.heap.objs.size (Ne.symm (ne_of_lt h)) (Ne.symm (ne_of_lt n)) _ 0 (get?_push_size _ rfl) λh' m c B y t j=>?_;refine wpAny_bind (wpAny_load t ?_);exact wpAny_pure (x h' m c (λb o z e=>y b o (ne_of_lt (lt_size e)) z (gb e)) (lt_size t) j)
end
theorem iu(I l:Addr)(items:Array Value)(i:l≠I)(hsz:items.size<=2^24):Meets (Builtin.«tuple.__new__» ⟨[.type "tuple",.ref I],[]⟩) (λA R s=>A.handled=none/\s.heap.IsRevIter I l ((items.size:Int)-1)/\s.heap.IsList l items/\∀(h':Heap)(p:Nat),(∀b o,b≠I->s.heap.get? b=some o->h'.get? b=some o)->s.heap.objs.size<h'.objs.size->∀a:Array Value,a=items.reverse->R (.ok (.ret (.ref h'.objs.size))) {s with heap:=h'.push {cls:=.type "tuple",data:=.seq a},toks:=p}):=.of_wp λprog w A R s h=>by
  obtain⟨r,f,t,h⟩:=h;have q:=sub_tuple_self;have k:=init_tuple_lookup;have u:=madeHere_tuple;have x:Shared.TypeIs s (.ref I) "list_reverseiterator":=f.typeIs;obtain⟨o,ho,hc,hd⟩:=id f;obtain⟨C,g,d,p,os⟩:=s;wp_walk using AutoSeq1.wpAny_loadPart' ho,wpAny_typeOf x,rA (A:=A.in1) r f t i hsz;intro h' m a y n c;show wpAny _ _ (tupleExact a.toList.toArray>>=λv=>ret v) _ _ _;have e:a.toList.toArray=a:=by simp
  have z:a=items.reverse:=by refine Array.ext (by rw[c.1,Array.size_reverse]) λj h1 E=>?_;have:=c.2 j _ (Array.getElem?_eq_getElem h1);rw[Array.getElem_reverse];have B:=Array.getElem?_eq_some_iff.mp this;exact B.2.symm
  rw[e];unfold tupleExact;refine wpAny_bind (wpAny_newObj_type ?_ (by show a.size<=sizeLine;rw[c.1,sizeLine_eq];omega));exact wpAny_pure ⟨_,rfl,h h' m y n a z⟩
section
variable{prog:Program}{w:World}{A:Around}{E:Value->Shared->Prop}{s:Shared}
theorem mj{I l:Addr}{items:Array Value}{Q:Value->Shared->Prop}(i:A.handled=none)(a:s.heap.IsRevIter I l ((items.size:Int)-1))(j:s.heap.IsList l items)(c:l≠I)(hsz:items.size<=2^24)(h:∀(h':Heap)(f:Nat),(∀b o,b≠I->s.heap.get? b=some o->h'.get? b=some o)->s.heap.objs.size<h'.objs.size->Q (.ref h'.objs.size) {s with heap:=h'.push {cls:=.type "tuple",data:=.seq items.reverse},toks:=f}):wpAny (model prog w) A (call (.type "tuple") [.ref I]) Q E s:=callType_new F.called_tuple (by decide) (F.typeCall_tuple_1 _) (F.newCall_tuple_1 _) (λobj=>F.args_object_init_2 obj _) F.entry_tuple_new (iu I l items c hsz) ⟨i,a,j,λh' f k g m e=>by subst e;exact⟨⟨_,get?_push_size _ rfl,rfl⟩,h h' f k g⟩⟩
end
end PySem
namespace L2
open PySem PySem.Spec PyProof.Rows
section
variable{X:Cx}{pins:List (Addr×Obj)}{σ:St}{H:Hp}{s:Shared}{E:Value->Shared->Prop}
theorem wN{a:Expr}{z:TE}{p pos C g:Pos}(hc:X.calm=true)(G:Gl X "tuple")(J:X.mg "tuple"=none)(L:Gl X "reversed")(M:X.mg "reversed"=none)(N:PE X a z)(hs:starEach [a] X.env=[(false,eval a X.env)]:=by rfl)(i:starEach [.Call (.Name "reversed" p) [a] [] pos] X.env=[(false,eval (.Call (.Name "reversed" p) [a] [] pos) X.env)]:=by rfl):PE X (.Call (.Name "tuple" C) [.Call (.Name "reversed" p) [a] [] pos] [] g) (λσ H Q=>z σ H λx f=>∃ad xs,x=.ref ad/\dJ X.K f ad xs/\∀l,f l=none->Q (.ref l) (upd f l (.tup xs.reverse))):=by
 intro pins s σ H Q I h;refine Call_ (iz I G J tV (PyProof.Rows.callWith_type1 ?_ i rfl));rw[i];show wpAny _ _ (spliced ((false,eval (.Call (.Name "reversed" p) [a] [] pos) X.env)::[])) _ _ _;refine Calls.spliced_cons (Call_ (iz I L M ou (PyProof.Rows.callWith_type1 (bH ((bF N cY hs) pos pins s σ H (λvs f=>match vs with|[x]=>∃ad xs,x=.ref ad/\dJ X.K f ad xs/\∀l,f l=none->Q (.ref l) (upd f l (.tup xs.reverse))|_=>False) I h) ?_) hs rfl)));rintro us s1⟨vs,f,m,r1,n⟩;obtain⟨ad,xs,O,q,t⟩:∃ad xs,dJ X.K f ad xs/\(∀l,f l=none->Q (.ref l) (upd f l (.tup xs.reverse)))/\vs=[.ref ad]:=by cases vs with|nil=>cases n|cons x r=>cases r with|nil=>obtain⟨ad,xs,rfl,q,U⟩:=n;exact⟨ad,xs,q,U,rfl⟩|cons _ _=>cases n
 subst t;obtain⟨u,rfl,W⟩:=r1.one;cases W;obtain⟨c,A,v,hz⟩:=m.list O;have hsz:c.toArray.size=xs.length:=by rw[size_toArray,<-A.length]
 refine call_reversed_list v.isList (Calls.spliced_nil ?_);have w:ad≠s1.heap.objs.size:=ne_of_lt (let⟨_,ho,_⟩:=v.isList;lt_size ho);have y:(s1.heap.push (revObj ad ((c.toArray.size:Int)-1))).IsList ad c.toArray:=v.isList.at λo e=>gb e;refine mj (m.ok.hd hc) (I:=s1.heap.objs.size) (l:=ad) (items:=c.toArray) ⟨_,get?_push_size _ rfl,rfl,rfl⟩ y w (by rw[hsz];exact le_trans hz (by decide)) λh' Y B j=>?_;have k:(s1.heap.push (revObj ad ((c.toArray.size:Int)-1))).objs.size=s1.heap.objs.size+1:=size_push ..;dsimp only at B j ⊢;rw[k]at j;have Z:c.toArray.reverse=c.reverse.toArray:=by simp
 rw[Z];refine⟨.ref h'.objs.size,_,m.laid (t':=Y) (o:=.tup xs.reverse) (h':=h'.push {cls:=.type "tuple",data:=.seq c.reverse.toArray}) (λb o e=>gb (B b o (ne_of_lt (lt_size e)) (gb e))) (by omega) ?_,rfl,q _ (m.hok.fresh (by omega))⟩;exact⟨by rw[List.length_reverse];exact hz,_,A.reverse,IsTup.new _ _⟩
end
end L2
namespace HH
open PySem L2 PySem.Spec PyProof.Rows
section
variable{X:Cx}{c:Call}{a:Expr}{pa:P}{pos:Pos}
theorem vW{x y:Str}{j n b:Pos}(o:y="tuple")(p:x="reversed")(hc:X.calm=true)(q:Gl X y)(t:X.mg y=none)(u:Gl X x)(w:X.mg x=none)(z:SX X c a pa)(hs:starEach [a] X.env=[(false,eval a X.env)]:=by rfl)(m:starEach [.Call (.Name x j) [a] [] pos] X.env=[(false,eval (.Call (.Name x j) [a] [] pos) X.env)]:=by rfl):SX X c (.Call (.Name y n) [.Call (.Name x j) [a] [] pos] [] b) (.blt .Yr [pa]):=by subst p o;obtain⟨Z,h1,A⟩:=z.bK;refine⟨cR (wN hc q t u w h1 hs m) ?_,λi h=>by cases h⟩;rintro σ H Q⟨F,ρ,r,B,g,e,k⟩;rw[HH.E15]at e;obtain⟨d,C,E,f⟩:=aa e;have G:=aA f;clear f;obtain⟨f,I⟩:=G;subst I;cases d with|lst ds=>cases f;refine A g E ?_;rintro v F' H' s J;obtain⟨ad,xs,rfl,L,M⟩:=J.lst s.gs.sub;exact⟨ad,xs,rfl,L,λl N=>zR s.gs.sub (aB.rev M) N λv O U W Y=>k v O U (s.trans (W.stp s.gs)) (.later s (Y.lZ s.gs))⟩|_=>cases f
end
end HH
end
section
namespace L2
open PySem PySem.Spec PyProof.Rows PySem.Calls
section
variable{X:Cx}
theorem FP:Vu X (Tz X.K):=by
 intro a s σ H x y v u Q I g k h;obtain⟨p,xs,i,z,rfl,rfl,l,he,q⟩:=h;cases g;obtain⟨t,rfl⟩:=k;obtain⟨b,r,e,hz⟩:=I.list l;obtain⟨j,h1,m,C,n,o⟩:=rE he;obtain⟨w,f,A⟩:=r.get m;have B:=r.length;have E:=n8;have fin:EP X a σ Q w s:=⟨z,H,I,A,q⟩;by_cases h0:0<=i
 . have c:i.toNat=j:=by rw[seqIndex_of h0 o]at h1;exact Option.some.inj h1
   exact wpAny_getItem_list e.isList h0 (by omega) (by rw[c];simpa using f) fin
 . have c:(i+(b.toArray.size:Int)).toNat=j:=by rw[seqIndex_neg (by omega) n]at h1;rw[size_toArray,<-B];exact Option.some.inj h1
   exact wpAny_getItem_list_neg e.isList (by omega) (by rw[size_toArray]<;>omega) (by omega) (by rw[c];simpa using f) fin
end
end L2
namespace HH
open PySem L2 PySem.Spec PyProof.Rows PySem.Calls PySem.W
section
variable{X:Cx}{c:Call}{n:Nat}{a b e:Expr}{pa pb p:P}{pos:Pos}
set_option maxHeartbeats 800000 in
theorem xG{k e:Int}{t1 t2 p1 p2 p3}:SX X c (.Dict [some (.Constant (.int k) t1 p1)] [.Constant (.int e) t2 p2] p3) (.xj k e):=by
 refine⟨?_,λi h=>by cases h⟩;intro f s σ H Q I h;obtain⟨F,ρ,r,x,g,m,y⟩:=h;rw[HH.E25]at m;cases m;have A:kW [] [((Sum.inl k:Key),V.int e)]=ent [k] [.int e]:=rfl;have B:=Ia (X:=X) (pos:=p3) (FJ (wX (i:=k) (j:=t1) (pos:=p1)) (wX (i:=e) (j:=t2) (pos:=p2)) Hr) rfl rfl (by simp) (by simp);refine bH (B f s σ H (λv C=>∃q,v=.ref q/\H q=none/\C=upd H q (yS [k] [.int e])) I ?_) λu s1⟨v,H1,I1,r1,q,e1,hn,e2⟩=>?_;.intro q E;refine⟨aH,[(Sum.inl k,.int e)],rfl,by simp,q,rfl,E,?_⟩;rw[xX,A];rfl
 subst e1 e2;obtain⟨o,t⟩:=Inv.Dj I1 (a:=q) (kvs:=ent [k] [.int e]) aH;rw[xX]at t;have G:F q=none:=by cases z:F q with|none=>rfl|some o=>rw[g.sub q o z]at hn;cases hn
 have sm:aF F (upd F q (.cG o (yS [k] [.int e]))):=aF.bL G;refine⟨.ref q,_,t,r1,y _ (upd F q (.cG o (yS [k] [.int e]))) _ (Ext.stp g ⟨aF.bL hn,sm,λb o e=>?_,λb n w=>?_⟩) ?_⟩
 . by_cases l:b=q;.subst l;rw[aH]at e ⊢;exact e
   .rw[ao l]at e ⊢;exact g.sub b o e
 . by_cases l:b=q;.subst l;exact iQ hn
   .rw[ao l]at w;exact absurd n w
 .show Rep X.K _ _ (.dv [k] [.int e]);rw[Rep];exact⟨q,o,[.int e],rfl,aH,.cons (bC _) .nil,rfl⟩
theorem GR{x:Str}{k:Nat}{px o:Pos}{op:Operator}{sub:Bool}(ho:WR X op (ipI λi j=>if sub then i-j else i+j))(hN:X.N[k]?=some x)(hv:tD X.env.scope x)(hi:SX X c b pb)(he:SX X c e p)(ha:∀A iv f,augStore b A iv f=(do holding [f,A,iv] (setItem A iv f);release [f,A,iv] [];pure .next):=by intros;rfl)(hd:(x==("__debug__":Str))=false:=by decide)(E:(x==("__classdict__":Str))=false:=by decide):SS X c n (.AugAssign (.Subscript (.Name x px) b o) op e pos) (.Gf k pb sub p):=by
 obtain⟨ti,G,I⟩:=hi.bK;obtain⟨te,J,L⟩:=he.bK;refine dm (Hz (cT hN hv hd E) G FP J ho set_list ha) ?_;rintro D σ H⟨F,ρ,fl,ac,g,e,kk⟩;rw[HH.Zh]at e;obtain⟨x0,ae,r,Z⟩:=aa e;clear e;obtain⟨e0,xm⟩:=aA r;clear r;subst xm;obtain⟨dk,M,e1,eB⟩:=aa Z;clear Z;obtain⟨l,af,h,eC⟩:=aa eB;clear eB;obtain⟨B,O⟩:=aA h;clear h;subst O;obtain⟨ra,ag,s,eD⟩:=aa eC;clear eC;obtain⟨e3,Q⟩:=aA s;clear s;subst Q;obtain⟨db,ah,e4,t⟩:=aa eD;clear eD;obtain⟨U,Ob,m,_⟩:=rB g e0;refine⟨.ref U,m,I g e1 λvi F1 H1 s1 pi=>?_⟩;split at t
 . rename_i u v bb ds kz q;split at t
   . rename_i j hj;cases t;obtain⟨C,f3,f5⟩:=bB e3;have W:C=kz:=by cases f3;rfl
     subst W;have h:pk M k=some (.lst l):=by
      unfold wC at B;split at B;.rename_i z;cases B;exact z
      .cases B
     obtain⟨o',y,po⟩:=s1.gs.pk h;rw[m]at y;cases y;obtain⟨ad,xs,hr,hL,rs⟩:=po.lst s1.gs.sub;cases hr;obtain⟨j0,h1,h2⟩:=Ej f5;obtain⟨w,h3,h4⟩:=rs.get h2;have Y:Ce xs C=some w:=by unfold Ce;rw[rs.length,h1];exact h3
     have hw:w=.int u:=by rw[Rep]at h4;exact h4
     subst hw;refine⟨U,xs,C,.int u,rfl,pi.int,hL,Y,L s1.gs e4 λvb F2 H2 s2 pb=>⟨u,v,rfl,pb.int,?_⟩⟩;obtain⟨ai,zs,z1,z2,z3,z4⟩:=s2.gs.oA k _ ds q rfl;rw[m]at z1;cases z1;refine⟨U,zs,C,j,rfl,pi.int,z2,by rw[z4.length];exact hj,?_⟩;exact kk F2 σ _ ((s1.trans s2).trans (s2.gs.mut q m (z4.set (bC _) j)))
   .cases t
 .cases t
end
section
variable{X:Cx}{c:Call}{n:Nat}{a b e:Expr}{pa pb p:P}{pos:Pos}
theorem G3{neg:Bool}{o:Op}{op:CmpOp}(h:(op=.In/\neg=false)\/(op=.NotIn/\neg=true))(j:pD o=tX neg)(l:X.A.units+8<cLine)(m:SX X c a pa)(y:SX X c b pb)(B:behindInMarks op b=false):ST X c (.Compare a [op] [b] pos) (.bin o pa pb):=by obtain⟨C,E,h1,G,I⟩:=m.jc y;refine uJ (yL (HB h l) h1 G B) λσ H Q q=>kI (t:=RG (rD X.K (tX neg)) C E) (λQ z=>?_) q;obtain⟨F,ρ,r,J,g,e,k⟩:=z;rw[HH.E3]at e;obtain⟨i,L,M,f⟩:=aa e;have N:=aA f;clear f;obtain⟨f,O⟩:=N;subst O;rw[j]at f;refine I g M λv u U H' s W Y=>⟨U,i.1,i.2,r,s.gs.sub,W,Y,f,λw Z H2 x rn=>?_⟩;exact k w Z H2 (s.trans (x.stp s.gs)) (.later s (rn.lZ s.gs))
theorem O1(f:X.A.units+8<cLine)(g:SX X c a pa)(h:SX X c b pb)(i:behindInMarks .In b=false):ST X c (.Compare a [.In] [b] pos) (.bin .Yq pa pb):=G3 (.inl ⟨rfl,rfl⟩) rfl f g h i
theorem Ni{i:Nat}{x:Str}{h:Pos}{pk:P}{neg:Bool}{op:CmpOp}(f:(op=.In/\neg=false)\/(op=.NotIn/\neg=true))(j:X.A.units+8<cLine)(k:X.N[i]?=some x)(l:tD X.env.scope x)(m:SX X c a pk)(o:behindInMarks op (.Name x h)=false)(hd:(x==("__debug__":Str))=false:=by decide)(g:(x==("__classdict__":Str))=false:=by decide):ST X c (.Compare a [op] [.Name x h] pos) (.KY i pk neg):=uJ (NZ (MT f j k l m hd g) o) λσ H Q q=>kI (λ_ z=>z) q
end
end HH
end
section
namespace L2
open PySem PySem.Spec PyProof.Rows
section
variable{X:Cx}
def PN(K:PySem.W.Frag):V->List V->Hp->VK->Prop:=λx vs H Q=>∃(l:Addr)(ns:List Int)(i:Int),x=.ref l/\vs=[.int i]/\dJ K H l (ns.map V.int)/\ns.length<=1000/\i∈ns/\Q (.int (ns.idxOf i:Nat)) H
theorem tW:∀{ns:List Int}{a:List Value},Vals (ns.map V.int) a->IntsAre a ns|[],_,r=>by cases r;exact .nil|i::ns,_,r=>by cases r with|cons h t=>obtain⟨b,rfl⟩:=h;exact .cons i b (tW t)
theorem DY:MtR X "list.index" (PN X.K):=by
 intro m s σ H x vs v C Q I o p h;obtain⟨l,ns,i,rfl,rfl,w,hz,hi,q⟩:=h;cases o;obtain⟨u,rfl,z⟩:=p.one;obtain⟨t,rfl⟩:=z;obtain⟨b,r,A,_⟩:=I.list w;have a:=tW r;have c:=a.length;have f:ns.idxOf i<ns.length:=List.idxOf_lt_length_iff.mpr hi;obtain⟨⟨cls,E,data,sl⟩,n,ho,hc,e,hd⟩:=A;simp only at hc hd e;subst hc hd e;refine call_meets PySem.F.slot_list_index ⟨_,ho,rfl⟩ PySem.F.entry_list_index (PySem.F.args_list_index_2 _ _) (SeqAt.list_indexAt l b.toArray n none sl (.int i t) (isInt i) (ns.idxOf i) (by simpa[c]using f) (by omega) ?_ ?_) ⟨ho,λy B=>(eq_isInt i t a y (by simpa using B)).at _ _,?_⟩;.show isInt i b[ns.idxOf i]=true;rw[isInt_at i a _ (by omega) f];simpa using List.getElem_idxOf f
 .intro j g k;show isInt i b[j]=false;rw[isInt_at i a j (by simpa using g) (by omega)];exact ne_of_lt_idxOf k _
 .exact⟨.int (ns.idxOf i:Nat),H,I.tok _,⟨_,rfl⟩,q⟩
end
end L2
end
section
namespace HH
open PySem L2 PySem.Spec PyProof.Rows PySem.Calls PySem.W
section
variable{X:Cx}{c:Call}{n:Nat}{a b e:Expr}{pa pb p:P}{pos:Pos}
theorem o6:∀{K:PySem.W.Frag}{F:Hp}{ns:List Int}{f:List D}{vs:List V},f.mapM dW=some ns->aB K F vs f->vs=ns.map V.int|_,_,ns,[],vs,h,r=>by rw[r.dO];cases h;rfl|K,F,ns,d::f,vs,h,r=>by obtain⟨v,g,rfl,h1,j⟩:=r.bO;rw[List.mapM_cons]at h;cases d with
   |int i=>cases hm:f.mapM dW with|none=>rw[hm]at h;cases h|some k=>rw[hm]at h;cases h;rw[Rep]at h1;rw[h1,o6 hm j];rfl
   |_=>cases h
theorem cg.sql{K:PySem.W.Frag}{F H:Hp}{v:V}{g:List D}(sm:aF F H)(h:cg K F H v (.lst g)):∃a xs,v=.ref a/\dJ K H a xs/\aB K F xs g:=by
 rcases h with h|⟨a,xs,i,rfl,h1,f,j⟩;.rw[Rep]at h;obtain⟨a,xs,rfl,h1,f⟩:=h;exact⟨a,xs,rfl,aF.seq sm h1,f⟩
 .cases j;exact⟨a,xs,rfl,.inl (.inl h1),f⟩
theorem O2{x:Str}{k i:Nat}{y m f:Pos}(hN:X.N[k]?=some x)(hv:tD X.env.scope x)(he:SX X c e (.var i))(q:(m.endLine==f.line)=true:=by rfl)(hs:starEach [e] X.env=(false,eval e X.env)::starEach [] X.env:=by rfl)(s:attributeBase (.Name x y) "index" X.env (eval (.Name x y) X.env)=eval (.Name x y) X.env:=by rfl)(u:((backTo f (starEach [e] X.env)).all (λx=>!x.1)&&(backToKw f (keywordEach [] X.env)).all (λx=>x.1.isSome)&&decide ([e].length+([]:List Keyword).length+(if([]:List Keyword).isEmpty then 0 else 1)<30))=true:=by rfl)(hd:(x==("__debug__":Str))=false:=by decide)(z:(x==("__classdict__":Str))=false:=by decide):SX X c (.Call (.Attribute (.Name x y) "index" m) [e] [] f) (.Sg k (.var i)):=by obtain⟨ti,A,B⟩:=he.bK;refine⟨cR (yZ plainAttrs_list PySem.F.slot_list_index PySem.F.type_list_index DY (cT hN hv hd z) (bF A cY hs) s u q hs) ?_,λi h=>by cases h⟩;rintro σ H Q⟨F,ρ,r,ac,g,o,kk⟩;rw[HH.E26]at o;obtain⟨d0,ae,t,o⟩:=aa o;have C:=aA t;clear t;obtain⟨t,xm⟩:=C;subst xm;obtain⟨Y,E,Z,o⟩:=aa o;obtain⟨af,G⟩:=aA (show lift (pk ρ i) ρ=.ok Y E from Z);subst G;obtain⟨d2,ag,w,o⟩:=aa o;have C:=aA w;clear w;obtain⟨w,I⟩:=C;subst I;obtain⟨J,L⟩:=aA o;subst L;rw[t]at w;cases w;obtain⟨v,h1,pv⟩:=g.pk t;cases d0 with
 |lst ds=>obtain⟨l,xs,rfl,h2,h3⟩:=pv.sql g.sub;refine⟨.ref l,h1,.inl ⟨rfl,xs,h2⟩,B g Z λvi F2 H2 s2 pi=>?_⟩;cases Y with|int j=>obtain⟨ns,e4,e5⟩:=bB (show(ds.mapM dW).bind _=_ from J);obtain⟨⟨m1,m2⟩,e6⟩:=aO e5;subst e6;have fX:=o6 e4 h3;subst fX;obtain⟨v',g1,M⟩:=s2.gs.pk t;rw[h1]at g1;cases g1;obtain⟨l',ah,el,O,U⟩:=M.sql s2.gs.sub;cases el;have W:=o6 e4 U;subst W;exact⟨l,ns,j,rfl,by rw[pi.int],O,m2,m1,kk _ F2 H2 s2 (by show Rep X.K F2 _ _;rw[Rep])⟩|_=>cases J
 |_=>cases J
set_option maxHeartbeats 800000 in
end
end HH
end
noncomputable section
set_option maxHeartbeats 4000000
namespace T
open PySem L2 PySem.Spec PyProof.Rows HH
local macro_rules|`(term|⇑$n)=>`(P.con (.int $n))
local macro_rules|`(term|↑$n)=>`(P.var $n)
local macro_rules|`(tactic|ac_rfl)=>`(tactic|first|exact Or.inl rfl|exact Or.inr (Or.inl rfl))
set_option hygiene false
local macro_rules|`(term|↥($a,$b,$d))=>`(kZ Pg w K mg base CP (k+1) f fd $a (Hu K $b (λargs=>enter c n $d args)))
local macro_rules|`(term|↥($a,$b,$d,0))=>`(aZ Pg w K mg base k c $a $b $d)
set_option hygiene true
local macro_rules|`(term|⇑($x))=>`(λ_ _ _ _ _=>$x)
local macro_rules|`(term|nofun)=>`(⟨rfl,rfl,rfl,by decide+kernel,rfl,by decide+kernel,by decide+kernel⟩)
local macro_rules|`(tactic|exists$e)=>`(tactic|with_reducible refine$e)
local macro_rules|`(tactic|lia)=>`(tactic|with_reducible refine aR ?_ ?_)
set_option hygiene false
local macro_rules|`(tactic|exists$i,$e)=>`(tactic|((with_reducible refine nC (i:=$i) ?_ ?_ ?_ ?_ ?_ ?_);exact nd;exact rfl;exact oi;rotate_left;rfl;exact oi;exact$e))
local macro_rules|`(tactic|exists$i,$e,0)=>`(tactic|((with_reducible refine xY (i:=$i) ?_ ?_ ?_ ?_ ?_ ?_ ?_ ?_ ?_);exact PassesOwn.never;exact hc;exact nd;exact rfl;exact oi;exact$e;rotate_left;(· intro _;rfl);exact oi))
local macro_rules|`(tactic|exists$a,$b,0,0)=>`(tactic|(refine U4 $a $b rfl rfl λcdv A outer s H E hr=>?_;have nd:=($b).nd))
local macro_rules|`(tactic|exists(),$e)=>`(tactic|((with_reducible refine Qd ?_);exact$e))
set_option hygiene true
local macro_rules|`(term|‹$l›)=>`((show(($l):List Str).Nodup by decide+kernel))
theorem hc:true=true:=rfl
theorem oi{b:Type}{a:b}{p:Prop}:a=a\/p:=.inl rfl
theorem bu{X:Cx}{c:Call}{a:Expr}{es:List Expr}{b:P}{ps:List P}(e:SX X c a b)(hr:SG X c es ps)(h:ZR a=true):SG X c (a::es) (b::ps):=Hc e hr (gG h)
theorem di{X:Cx}{c:Call}{a:Expr}{es:List Expr}{b:P}{ps:List P}(e:SX X c a b)(hr:SA X c es ps)(h:ZR a=true):SA X c (a::es) (b::ps):=za e hr (gG h)
variable{Pg:Program}{w:World}{K:PySem.W.Frag}{mg:Str->Option Value}{base:Heap}{f:Addr}{fd:FuncData}{k n:Nat}{c:Call}{cl:Nat->Addr}
noncomputable def top(i:Nat):Stmt:=PySem.Challenge.pw_hourhaul_k78_most_from_starts.main.body.getD i (.Pass ⟨0,0,0,0⟩)
abbrev s0:Stmt:=top 1
noncomputable def b0:List S:=[.asg 2 (.idx (.idx ↑0 ⇑1) (.idx ↑1 ⇑0)),.ret (.JB (.idx ↑1 ⇑1) (.tup [.idx ↑2 ⇑0,.idx ↑2 ⇑1]) (.tup [.idx ↑2 ⇑1,.idx ↑2 ⇑0]))]
def f0:Fd:=⟨2,3,b0⟩
theorem sc0:aL ["net","step","way"] ["net","step"] (aC s0):=nofun
include cl in
theorem d0(a:iZ K "step_places" "step_places" s0 f fd):↥(["net","step"],2,f0):=by
 exists a,sc0,0,0;refine aR ?_ ?_;.exists 2,au (au (sv 0) aj) (au (sv 1) aj)
 lia;.exists(),nM (nu (au (sv 1) aj)) (cQ (di (au (sv 2) aj) (di (au (sv 2) aj) aJ rfl) rfl)) (cQ (di (au (sv 2) aj) (di (au (sv 2) aj) aJ rfl) rfl))
 exact aD
abbrev s1:Stmt:=top 2
noncomputable def b1:List S:=[.asg 2 (.idx (.idx (.idx ↑0 ⇑1) (.idx ↑1 ⇑0)) ⇑3),.ret (.JB (.idx ↑1 ⇑1) ↑2 (.neg ↑2))]
def f1:Fd:=⟨2,3,b1⟩
theorem sc1:aL ["net","step","hours"] ["net","step"] (aC s1):=nofun
include cl in
theorem d1(a:iZ K "step_hours" "step_hours" s1 f fd):↥(["net","step"],2,f1):=by
 exists a,sc1,0,0;refine aR ?_ ?_;.exists 2,au (au (au (sv 0) aj) (au (sv 1) aj)) aj
 lia;.exists(),nM (nu (au (sv 1) aj)) (sv 2) (De (sv 2))
 exact aD
abbrev s2:Stmt:=top 3
noncomputable def b2:List S:=[.asg 3 (.idx ↑1 (.idx ↑2 ⇑0)),.ret (.JB (.idx ↑2 ⇑1) (.bin .sub (.idx (.idx (.idx ↑0 ⇑1) (.idx ↑2 ⇑0)) ⇑2) ↑3) ↑3)]
def f2:Fd:=⟨3,4,b2⟩
theorem sc2:aL ["net","stream","step","loads"] ["net","stream","step"] (aC s2):=nofun
include cl in
theorem d2(a:iZ K "step_room" "step_room" s2 f fd):↥(["net","stream","step"],3,f2):=by
 exists a,sc2,0,0;refine aR ?_ ?_;.exists 3,au (sv 1) (au (sv 2) aj)
 lia;.exists(),nM (nu (au (sv 2) aj)) (az cW (au (au (au (sv 0) aj) (au (sv 2) aj)) aj) (sv 3)) (sv 3)
 exact aD
abbrev s3:Stmt:=top 4
noncomputable def b3:List S:=[.ret (.blt .sum [.comp ↑1 1 [2] true none (.call 1 [↑0,↑2])])]
def f3:Fd:=⟨2,2,b3⟩
theorem sc3:aL ["net","steps"] ["net","steps"] (aC s3):=nofun
include cl in
theorem d3(a:iZ K "steps_hours" "steps_hours" s3 f fd)(qI:mg "sum"=none)(b:↥(1,"step_hours",2,0)):↥(["net","steps"],2,f3):=by
 exists a,sc3,0,0;refine aR ?_ ?_;.exists(),Du rfl hc (by rfl) qI (fM (N':=["net","steps","step"]) hc (Gy rfl (by rfl)) (cZ (sv 1)) ⇑(bh (i:=2) ‹["net","steps","step"]› rfl (Or.inl rfl) (Or.inr rfl)) (cX (cL)) ⇑(iK) ⇑((fc b hr (bu (sv 0) (bu (sv 2) aG rfl) rfl))))
 exact aD
abbrev s4:Stmt:=top 5
noncomputable def b4:List S:=[.Gi 2 (.qG ⇑0 (.idx ↑0 ⇑0)) 1 [5] true (.lst []),.Bb (.qG ⇑0 (.blt .len [.idx ↑0 ⇑1])) [3] true [.Bb (.tup [.tup [↑3,.con (.bl true)],.tup [↑3,.con (.bl false)]]) [4] true [.ifs (.cmp .gt (.call 2 [↑0,↑1,↑4]) ⇑0) [.Gj 2 (.idx (.call 0 [↑0,↑4]) ⇑0) ↑4] []]],.cG 2,.ret ↑2]
def f4:Fd:=⟨2,5,b4⟩
theorem sc4:aL ["net","stream","steps","number","step"] ["net","stream"] (aC s4):=nofun
include cl in
theorem d4(a:iZ K "open_steps" "open_steps" s4 f fd)(dH:mg "len"=none)(aV:mg "range"=none)(b:↥(0,"step_places",2,0))(e:↥(2,"step_room",3,0)):↥(["net","stream"],2,f4):=by exists a,sc4,0,0;exact(by(refine Hv (i:=2) (N':=["net","stream","steps","number","step","place"]) (g:=ig 5) ?_ ?_ ?_ ?_ ?_ ?_ ?_ ?_ ?_ ?_ ?_ ?_ ?_ ?_);exact hc;exact nd;exact rfl;exact oi;exact Gy rfl (by rfl);exact fL rfl (by rfl) aV (au (sv 0) aj);exact ⇑(bh (i:=5) ‹["net","stream","steps","number","step","place"]› rfl (Or.inl rfl) (Or.inr rfl));exact cX (cL);exact ⇑(iK);exact ⇑((bU aJ));(· exists Cu ?_ ?_;(· exists xP (g:=ig 3) ?_ ?_ ?_ ?_ ?_ ?_ ?_;exact PassesOwn.never;exact hc;(· exists Et ?_ ?_ ?_ ?_ ?_;exact rfl;rfl;exact aV;exact kh rfl (by rfl) dH (au (sv 0) aj);rfl);exact bh (i:=3) nd rfl oi oi;(· rw[j9];exact qR 3);(· exists oW ?_ ?_;(· exists xP (g:=ig 4) ?_ ?_ ?_ ?_ ?_ ?_ ?_;exact PassesOwn.never;exact hc;exact Hf (cQ (di (cQ (di (sv 3) (di pL aJ rfl) rfl)) (di (cQ (di (sv 3) (di pL aJ rfl) rfl)) aJ rfl) rfl));exact bh (i:=4) nd rfl oi oi;(· rw[j9];exact qR 4);(· exists oW ?_ ?_;(· exists Pj ?_ ?_ ?_;exact cC ni (fc e hr (bu (sv 0) (bu (sv 1) (bu (sv 4) aG rfl) rfl) rfl)) aj (cU _);(· exists oW ?_ ?_;(· exists CN (k:=2) ?_ ?_ ?_ ?_ ?_ ?_ ?_ ?_ ?_ ?_ ?_ ?_;exact rfl;(· first|exact Or.inl rfl|exact Or.inr (Or.inl rfl));exact au (fc b hr (bu (sv 0) (bu (sv 4) aG rfl) rfl)) aj;exact sv 4;(· intro _ _;rfl);rfl;rfl;rfl;rfl;rfl;rfl;rfl);exact mL);exact mL);exact mL);(· intro _;rfl));exact mL);(· intro _;rfl));(· exists Ig ?_;(· lia;(· exists(),sv 2);exact aD)));rfl;(· intro _;rfl);exact oi)
abbrev s5:Stmt:=top 6
noncomputable def b5:List S:=[.asg 3 (.call 4 [↑0,↑1]),.Bc 4,.gJ (.blt .keys [↑2]) [5] true [.fj 4 ↑5 (.tup [.bin .Az ↑2 ↑5,⇑0,.con .non])],.asg 6 (.blt .R9 [↑2]),.whl (.cmp .gt (.blt .len [↑6]) ⇑0) [.Bc 7,.gJ ↑6 [5] true [.gJ (.idx ↑3 ↑5) [8] true [.asg 9 (.idx (.call 0 [↑0,↑8]) ⇑1),.asg 10 (.tup [.bin .add (.idx (.KQ 4 ↑5) ⇑0) (.call 1 [↑0,↑8]),.bin .add (.idx (.KQ 4 ↑5) ⇑1) ⇑1]),.ifs (.or (.KY 4 ↑9 true) (.cmp .lt ↑10 (.slice (.KQ 4 ↑9) (.con .non) ⇑2))) [.fj 4 ↑9 (.bin .add ↑10 (.tup [↑8])),.fj 7 ↑9 (.con (.bl true))] []]],.asg 6 (.blt .R9 [.vw 7])],.ret ↑4]
def f5:Fd:=⟨3,11,b5⟩
theorem sc5:aL ["net","stream","begun","steps","come","place","row","changed","step","to","found"] ["net","stream","begun"] (aC s5):=nofun
include cl in
theorem d5(a:iZ K "shortest_come" "shortest_come" s5 f fd)(dH:mg "len"=none)(fZ:mg "list"=none)(b:↥(4,"open_steps",2,0))(e:↥(1,"step_hours",2,0))(g:↥(0,"step_places",2,0)):↥(["net","stream","begun"],3,f5):=by
 exists a,sc5,0,0;refine aR ?_ ?_;.exists 3,fc b hr (bu (sv 0) (bu (sv 1) aG rfl) rfl)
 lia;.exact(xU (i:=4) nd rfl oi (by rfl) (Or.inl rfl))
 lia;.exists 5,G7 (sv 2),0;(· lia;exact qK (i:=4) (bN hr) rfl (by ac_rfl) (sv 5) (cQ (di (sJ (bN hr) (sv 2) (sv 5) (λ_ _=>rfl)) (di aj (di CW aJ rfl) rfl) rfl)) (by rfl);exact aD)
 lia;.exists 6,Ff rfl hc (by rfl) fZ (sv 2)
 lia;.exact(wD PassesOwn.never (cC ni (kh rfl (by rfl) dH (sv 6)) aj (cU _)) (by lia;exact xU (i:=7) nd rfl oi (by rfl) (Or.inl rfl);(· lia;(· exists 5,cZ (sv 6),0;(· lia;(· exists 8,cZ (au (sv 3) (sv 5)),0;(· lia;(· exists 9,au (fc g hr (bu (sv 0) (bu (sv 8) aG rfl) rfl)) aj);(· lia;(· exists 10,cQ (di (az aW (au (wF (i:=4) (bN hr) rfl (by ac_rfl) (sv 5) (λ_ _=>rfl)) aj) (fc e hr (bu (sv 0) (bu (sv 8) aG rfl) rfl))) (di (az aW (au (wF (i:=4) (bN hr) rfl (by ac_rfl) (sv 5) (λ_ _=>rfl)) aj) aj) aJ rfl) rfl));(· lia;(· exists oJ ?_ ?_ ?_;exact SW.st (zf (Ni (i:=4) (Or.inr ⟨rfl,rfl⟩) (bN hr) rfl (by ac_rfl) (sv 9) (by with_unfolding_all rfl)) (wJ (cC (Ml (bN hr)) (sv 10) (uA (wF (i:=4) (bN hr) rfl (by ac_rfl) (sv 9) (λ_ _=>rfl)) xZ (zj aj)) (cU _))));(· lia;exact qK (i:=4) (bN hr) rfl (by ac_rfl) (sv 9) (az aW (sv 10) (cQ (di (sv 8) aJ rfl))) (by rfl);(· lia;exact qK (i:=7) (bN hr) rfl (by ac_rfl) (sv 9) pL (by rfl);exact aD));exact aD);exact aD))));exact aD));(· lia;(· exists 6,Ff rfl hc (by rfl) fZ (Kd (i:=7) rfl (by ac_rfl)));exact aD))))
 lia;.exists(),sv 4
 exact aD
abbrev s6:Stmt:=top 7
noncomputable def b6:List S:=[.asg 3 (.lst []),.asg 4 ↑2,.whl (.cmp .Jz (.idx (.bin .Az ↑1 ↑4) ⇑2) (.con .non)) [.asg 5 (.idx (.bin .Az ↑1 ↑4) ⇑2),.app 3 ↑5,.asg 4 (.idx (.call 0 [↑0,↑5]) ⇑0)],.ret (.blt .Yr [↑3])]
def f6:Fd:=⟨3,6,b6⟩
theorem sc6:aL ["net","come","place","steps","here","step"] ["net","come","place"] (aC s6):=nofun
include cl in
theorem d6(a:iZ K "steps_to" "steps_to" s6 f fd)(jy:mg "reversed"=none)(cP:mg "tuple"=none)(b:↥(0,"step_places",2,0)):↥(["net","come","place"],3,f6):=by
 exists a,sc6,0,0;refine aR ?_ ?_;.exists 3,bU aJ
 lia;.exists 4,sv 2
 lia;.exact(wD PassesOwn.never (cC Ir (au (sJ (bN hr) (sv 1) (sv 4) (λ_ _=>rfl)) aj) CW (cU _)) (by lia;(· exists 5,au (sJ (bN hr) (sv 1) (sv 4) (λ_ _=>rfl)) aj);(· lia;exact fK (k:=3) rfl (by ac_rfl) (sv 5);(· lia;(· exists 4,au (fc b hr (bu (sv 0) (bu (sv 5) aG rfl) rfl)) aj);exact aD))))
 lia;.exists(),vW rfl rfl hc (by rfl) cP (by rfl) jy (sv 3)
 exact aD
abbrev s7:Stmt:=top 8
noncomputable def b7:List S:=[.asg 3 (.blt .list [↑0]),.gJ ↑1 [4,5] false [.Gf 3 ↑4 false (.JB ↑5 ↑2 (.neg ↑2))],.ret ↑3]
def f7:Fd:=⟨3,6,b7⟩
theorem sc7:aL ["stream","steps","loads","changed","number","forth"] ["stream","steps","loads"] (aC s7):=nofun
include cl in
theorem d7(a:iZ K "stream_with" "stream_with" s7 f fd)(fZ:mg "list"=none):↥(["stream","steps","loads"],3,f7):=by
 exists a,sc7,0,0;refine aR ?_ ?_;.exists 3,Hh rfl (by rfl) fZ (sv 0)
 lia;.exact(qL PassesOwn.never hc (cZ (sv 1)) (rM hc (cN (bh (i:=4) nd rfl oi oi) (cN (bh (i:=5) nd rfl oi oi) mV))) (wz rfl (fJ _ _ (fJ _ _ sE 5) 4)) (by lia;exact GR (k:=3) (sub:=false) Je rfl (by ac_rfl) (sv 4) (nM (nu (sv 5)) (sv 2) (De (sv 2)));exact aD))
 lia;.exists(),sv 3
 exact aD
abbrev s8:Stmt:=top 9
noncomputable def b8:List S:=[.asg 1 (.bin .sub (.idx ↑0 ⇑0) ⇑1),.asg 2 (.bin .mul (.lst [⇑0]) (.blt .len [.idx ↑0 ⇑1])),.asg 3 (.lst []),.asg 4 (.call 5 [↑0,↑2,.xj 0 0]),.whl (.bin .Yq ↑1 ↑4) [.asg 5 (.call 6 [↑0,↑4,↑1]),.asg 6 (.blt .xg [.comp ↑5 1 [7] true none (.call 2 [↑0,↑2,↑7])]),.app 3 (.tup [↑5,↑6]),.asg 2 (.call 7 [↑2,↑5,↑6]),.asg 4 (.call 5 [↑0,↑2,.xj 0 0])],.ret ↑3]
def f8:Fd:=⟨1,7,b8⟩
theorem sc8:aL ["net","end","stream","chains","come","steps","loads"] ["net"] (aC s8):=nofun
include cl in
theorem d8(b:iZ K "chains_to_end" "chains_to_end" s8 f fd)(dH:mg "len"=none)(gO:mg "min"=none)(a:↥(5,"shortest_come",3,0))(e:↥(2,"step_room",3,0))(g:↥(6,"steps_to",3,0))(h:↥(7,"stream_with",3,0)):↥(["net"],1,f8):=by
 exists b,sc8,0,0;refine aR ?_ ?_;.exists 1,az cW (au (sv 0) aj) aj
 lia;.exists nC (i:=2) ?_ ?_ ?_ ?_ ?_ ?_;exact nd;exact rfl;exact Or.inr rfl;rotate_left;rfl;exact oi;exact az dR (bU (di aj aJ rfl)) (kh rfl (by rfl) dH (au (sv 0) aj))
 lia;.exists 3,bU aJ
 lia;.exists 4,fc a hr (bu (sv 0) (bu (sv 2) (bu xG aG rfl) rfl) rfl)
 lia;.exact(wD PassesOwn.never (O1 (bN hr) (sv 1) (sv 4) (by with_unfolding_all rfl)) (by lia;(· exists 5,fc g hr (bu (sv 0) (bu (sv 4) (bu (sv 1) aG rfl) rfl) rfl));(· lia;(· exists 6,yg rfl hc (by rfl) gO (fM (N':=["net","end","stream","chains","come","steps","loads","step"]) hc (Gy rfl (by rfl)) (cZ (sv 5)) ⇑(bh (i:=7) ‹["net","end","stream","chains","come","steps","loads","step"]› rfl (Or.inl rfl) (Or.inr rfl)) (cX (cL)) ⇑(iK) ⇑((fc e hr (bu (sv 0) (bu (sv 2) (bu (sv 7) aG rfl) rfl) rfl)))));(· lia;exact fK (k:=3) rfl (by ac_rfl) (cQ (di (sv 5) (di (sv 6) aJ rfl) rfl));(· lia;(· exists nC (i:=2) ?_ ?_ ?_ ?_ ?_ ?_;exact nd;exact rfl;exact Or.inr rfl;rotate_left;rfl;exact oi;exact fc h hr (bu (sv 2) (bu (sv 5) (bu (sv 6) aG rfl) rfl) rfl));(· lia;(· exists 4,fc a hr (bu (sv 0) (bu (sv 2) (bu xG aG rfl) rfl) rfl));exact aD))))))
 lia;.exists(),sv 3
 exact aD
abbrev s9:Stmt:=top 11
noncomputable def b9:List S:=[.Gh 1 false,.gJ (.call 8 [↑0]) [2,3] false [.asg 4 (.call 3 [↑0,↑2]),.dput 1 ↑4 (.bin .add (.Sd 1 ↑4 ⇑0) ↑3)],.ret (.blt .Ge [.vw 1])]
def f9:Fd:=⟨1,5,b9⟩
theorem sc9:aL ["net","bends","steps","loads","length"] ["net"] (aC s9):=nofun
include cl in
theorem d9(a:iZ K "bends_of" "bends_of" s9 f fd)(o9:mg "sorted"=none)(b:↥(8,"chains_to_end",1,0))(e:↥(3,"steps_hours",2,0)):↥(["net"],1,f9):=by
 exists a,sc9,0,0;refine aR ?_ ?_;.exact(G5 (i:=1) nd rfl oi (by rfl) (Or.inl rfl))
 lia;.exact(qL PassesOwn.never hc (cZ (fc b hr (bu (sv 0) aG rfl))) (rM hc (cN (bh (i:=2) nd rfl oi oi) (cN (bh (i:=3) nd rfl oi oi) mV))) (wz rfl (fJ _ _ (fJ _ _ sE 3) 2)) (by lia;(· exists 4,fc e hr (bu (sv 0) (bu (sv 2) aG rfl) rfl));(· lia;exact Iu (i:=1) (bN hr) rfl (by ac_rfl) (sv 4) (az aW (M7 (i:=1) (bN hr) rfl (by ac_rfl) (sv 4) aj ⟨rfl,rfl,rfl,rfl⟩) (sv 3)) (by rfl);exact aD)))
 lia;.exists(),GX rfl hc (by rfl) o9 rfl (Kd (i:=1) rfl (by ac_rfl))
 exact aD
abbrev jb:Stmt:=top 13
noncomputable def b10:List S:=[.ret (.blt .sum [.comp ↑0 2 [2,3] false (some (.cmp .le ↑2 ↑1)) (.bin .mul ↑3 (.bin .add (.bin .sub ↑1 ↑2) ⇑1))])]
def W7:Fd:=⟨2,2,b10⟩
theorem aaJ:aL ["bends","last"] ["bends","last"] (aC jb):=nofun
include cl in
theorem d10(a:iZ K "most_of" "most_of" jb f fd)(qI:mg "sum"=none):↥(["bends","last"],2,W7):=by
 exists a,aaJ,0,0;refine aR ?_ ?_;.exists(),Du rfl hc (by rfl) qI (fM (N':=["bends","last","length","loads"]) hc (Gy rfl (by rfl)) (cZ (sv 0)) ⇑(rM hc (cN (bh (i:=2) ‹["bends","last","length","loads"]› rfl (Or.inl rfl) (Or.inr rfl)) (cN (bh (i:=3) ‹["bends","last","length","loads"]› rfl (Or.inl rfl) (Or.inr rfl)) mV))) (Ht rfl (ud (show 2<=2 by decide) (ud (show 2<=3 by decide) HJ))) ⇑(mY (cC M3 (sv 2) (sv 1) (cU _))) ⇑((az dR (sv 3) (az aW (az cW (sv 1) (sv 2)) aj))))
 exact aD
abbrev WN:Stmt:=top 14
noncomputable def b11:List S:=[.ret (.call 10 [.call 9 [↑0],↑1])]
def f11:Fd:=⟨2,2,b11⟩
theorem YJ:aL ["net","last"] ["net","last"] (aC WN):=nofun
include cl in
theorem d11(a:iZ K "most_by" "most_by" WN f fd)(b:↥(9,"bends_of",1,0))(e:↥(10,"most_of",2,0)):↥(["net","last"],2,f11):=by
 exists a,YJ,0,0;refine aR ?_ ?_;.exists(),fc e hr (bu (fc b hr (bu (sv 0) aG rfl)) (bu (sv 1) aG rfl) rfl)
 exact aD
abbrev s12:Stmt:=top 16
noncomputable def b12:List S:=[.asg 2 (.comp (.qG ⇑0 (.idx ↑0 ⇑0)) 1 [3] true (some (.cmp .zu ↑3 ↑1)) ↑3),.ret (.comp (.qG ⇑0 (.idx ↑0 ⇑0)) 1 [3] true none (.JB (.cmp .inn ↑3 ↑1) ⇑0 (.bin .add (.Sg 2 ↑3) ⇑1)))]
def Xg:Fd:=⟨2,3,b12⟩
theorem aa2:aL ["net","starts","others"] ["net","starts"] (aC s12):=nofun
include cl in
theorem d12(a:iZ K "joined_places" "joined_places" s12 f fd)(aV:mg "range"=none):↥(["net","starts"],2,Xg):=by
 exists a,aa2,0,0;refine aR ?_ ?_;.exists nC (i:=2) ?_ ?_ ?_ ?_ ?_ ?_;exact nd;exact rfl;exact Or.inr rfl;rotate_left;rfl;exact oi;exact fM (N':=["net","starts","others","place"]) hc (Gy rfl (by rfl)) (fL rfl (by rfl) aV (au (sv 0) aj)) ⇑(bh (i:=3) ‹["net","starts","others","place"]› rfl (Or.inl rfl) (Or.inr rfl)) (cX (cL)) ⇑(mY (cC Ar (sv 3) (sv 1) (by with_unfolding_all rfl))) ⇑((sv 3))
 lia;.exists(),fM (N':=["net","starts","others","place"]) hc (Gy rfl (by rfl)) (fL rfl (by rfl) aV (au (sv 0) aj)) ⇑(bh (i:=3) ‹["net","starts","others","place"]› rfl (Or.inl rfl) (Or.inr rfl)) (cX (cL)) ⇑(iK) ⇑((nM (cC yp (sv 3) (sv 1) (by with_unfolding_all rfl)) aj (az aW (O2 (k:=2) rfl (by ac_rfl) (sv 3)) aj)))
 exact aD
abbrev s13:Stmt:=top 17
noncomputable def b13:List S:=[.asg 2 (.call 12 [↑0,↑1]),.asg 3 (.comp (.idx ↑0 ⇑1) 1 [4] true none (.tup [.idx ↑2 (.idx ↑4 ⇑0),.idx ↑2 (.idx ↑4 ⇑1),.idx ↑4 ⇑2,.idx ↑4 ⇑3])),.ret (.tup [.bin .add (.blt .Gd [↑2]) ⇑1,.blt .tuple [.comp ↑3 1 [4] true (some (.cmp .ne (.idx ↑4 ⇑0) (.idx ↑4 ⇑1))) ↑4]])]
def Xw:Fd:=⟨2,4,b13⟩
theorem aav:aL ["net","starts","joined","ways"] ["net","starts"] (aC s13):=nofun
include cl in
theorem d13(a:iZ K "joined_net" "joined_net" s13 f fd)(eZ:mg "max"=none)(cP:mg "tuple"=none)(b:↥(12,"joined_places",2,0)):↥(["net","starts"],2,Xw):=by
 exists a,aav,0,0;refine aR ?_ ?_;.exists nC (i:=2) ?_ ?_ ?_ ?_ ?_ ?_;exact nd;exact rfl;exact Or.inr rfl;rotate_left;rfl;exact oi;exact fc b hr (bu (sv 0) (bu (sv 1) aG rfl) rfl)
 lia;.exact(Jk (i:=3) (N':=["net","starts","joined","ways","way"]) hc nd rfl oi (Gy rfl (by rfl)) (cZ (au (sv 0) aj)) ⇑(bh (i:=4) ‹["net","starts","joined","ways","way"]› rfl (Or.inl rfl) (Or.inr rfl)) (cX (cL)) ⇑(iK) ⇑((cQ (di (au (sv 2) (au (sv 4) aj)) (di (au (sv 2) (au (sv 4) aj)) (di (au (sv 4) aj) (di (au (sv 4) aj) aJ rfl) rfl) rfl) rfl))) (by rfl) (by intro _;rfl) (Or.inl rfl))
 lia;.exists(),cQ (di (az aW (Jd rfl hc (by rfl) eZ (sv 2)) aj) (di (nW rfl (by rfl) cP (fM (N':=["net","starts","joined","ways","way"]) hc (Gy rfl (by rfl)) (cZ (sv 3)) ⇑(bh (i:=4) ‹["net","starts","joined","ways","way"]› rfl (Or.inl rfl) (Or.inr rfl)) (cX (cL)) ⇑(mY (cC (oM (bN hr)) (au (sv 4) aj) (au (sv 4) aj) (cU _))) ⇑((sv 4)))) aJ rfl) rfl)
 exact aD
abbrev s14:Stmt:=top 18
noncomputable def b14:List S:=[.ret (.call 11 [.call 13 [↑0,↑1],↑2])]
def Wo:Fd:=⟨3,3,b14⟩
theorem aal:aL ["net","starts","last"] ["net","starts","last"] (aC s14):=nofun
include cl in
theorem d14(a:iZ K "most_from" "most_from" s14 f fd)(b:↥(13,"joined_net",2,0))(e:↥(11,"most_by",2,0)):↥(["net","starts","last"],3,Wo):=by
 exists a,aal,0,0;refine aR ?_ ?_;.exists(),fc e hr (bu (fc b hr (bu (sv 0) (bu (sv 1) aG rfl) rfl)) (bu (sv 2) aG rfl) rfl)
 exact aD
abbrev s15:Stmt:=top 20
noncomputable def b15:List S:=[.ret (.lst [.blt .max2 [⇑0,.bin .sub ↑0 (.bin .pow ⇑10 ⇑18)],.bin .mod ↑0 (.bin .pow ⇑10 ⇑18),⇑0])]
def Yi:Fd:=⟨1,1,b15⟩
theorem Z4:aL ["cell"] ["cell"] (aC s15):=nofun
include cl in
theorem d15(a:iZ K "_law_pool" "_law_pool" s15 f fd)(eZ:mg "max"=none):↥(["cell"],1,Yi):=by
 exists a,Z4,0,0;refine aR ?_ ?_;.exists(),bU (di (mQ rfl hc (by rfl) eZ (di aj (di (az cW (sv 0) (az rZ aj aj)) aJ rfl) rfl)) (di (az dB (sv 0) (az rZ aj aj)) (di aj aJ rfl) rfl) rfl)
 exact aD
abbrev ZJ:Stmt:=top 21
noncomputable def b16:List S:=[.ifs (.cmp .gt (.idx ↑0 ⇑0) ⇑0) [.asg 2 (.bin .mod (.idx ↑0 ⇑0) ↑1),.Ba 0 ⇑0 (.bin .fdiv (.idx ↑0 ⇑0) ↑1),.ret ↑2] [],.Ba 0 ⇑2 (.bin .add (.idx ↑0 ⇑2) ⇑1),.asg 3 (.bin .mod (.bin .add (.idx ↑0 ⇑1) (.bin .mul ⇑7919 (.idx ↑0 ⇑2))) ⇑1000000007),.asg 4 (.bin .mod (.bin .mul (.bin .add ↑3 ⇑11) (.bin .add ↑3 ⇑48271)) ⇑998244353),.ret (.bin .mod (.bin .fdiv (.bin .mod (.bin .mul ↑4 ↑4) ⇑2147483647) ⇑8) ↑1)]
def XJ:Fd:=⟨2,5,b16⟩
theorem aaf:aL ["pool","base","digit","near","stir"] ["pool","base"] (aC ZJ):=nofun
include cl in
theorem d16(a:iZ K "_law_next" "_law_next" ZJ f fd):↥(["pool","base"],2,XJ):=by
 exists a,aaf,0,0;refine aR ?_ ?_;.exists oJ ?_ ?_ ?_;exact cC ni (au (sv 0) aj) aj (cU _);(· lia;(· exists 2,az dB (au (sv 0) aj) (sv 1));(· lia;exact rT (k:=0) rfl (by ac_rfl) aj (az vd (au (sv 0) aj) (sv 1));(· lia;(· exists(),sv 2);exact aD)));exact aD
 lia;.exact(rT (k:=0) rfl (by ac_rfl) aj (az aW (au (sv 0) aj) aj))
 lia;.exists 3,az dB (az aW (au (sv 0) aj) (az dR aj (au (sv 0) aj))) aj
 lia;.exists 4,az dB (az dR (az aW (sv 3) aj) (az aW (sv 3) aj)) aj
 lia;.exists(),az dB (az vd (az dB (az dR (sv 4) (sv 4)) aj) aj) (sv 1)
 exact aD
abbrev Zy:Stmt:=top 22
noncomputable def b17:List S:=[.ret (.bin .mod (.bin .add (.bin .mul (.call 16 [↑0,⇑1000000]) ⇑1000000) (.call 16 [↑0,⇑1000000])) ↑1)]
def XH:Fd:=⟨2,2,b17⟩
theorem aaa:aL ["pool","base"] ["pool","base"] (aC Zy):=nofun
include cl in
theorem d17(b:iZ K "_law_wide" "_law_wide" Zy f fd)(a:↥(16,"_law_next",2,0)):↥(["pool","base"],2,XH):=by
 exists b,aaa,0,0;refine aR ?_ ?_;.exists(),az dB (az aW (az dR (fc a hr (bu (sv 0) (bu aj aG rfl) rfl)) aj) (fc a hr (bu (sv 0) (bu aj aG rfl) rfl))) (sv 1)
 exact aD
abbrev Zn:Stmt:=top 23
noncomputable def b18:List S:=[.asg 4 (.bin .add ⇑2 (.call 16 [↑0,⇑5])),.asg 5 (.lst []),.gJ (.qG ⇑0 (.idx (.lst [↑1,.call 16 [↑0,.bin .add ↑1 ⇑1]]) (.call 16 [↑0,⇑2]))) [6] true [.asg 7 (.call 16 [↑0,↑4]),.asg 8 (.bin .mod (.bin .add (.bin .add ↑7 ⇑1) (.call 16 [↑0,.bin .sub ↑4 ⇑1])) ↑4),.ifs (.cmp .gt (.call 16 [↑0,⇑4]) ⇑0) [.par 7 8 (.blt .min2 [↑7,↑8]) (.blt .max2 [↑7,↑8])] [],.app 5 (.tup [↑7,↑8,.call 17 [↑0,↑2],.bin .add ⇑1 (.call 17 [↑0,↑3])])],.ret (.tup [↑4,.blt .tuple [↑5]])]
def Xm:Fd:=⟨4,9,b18⟩
theorem ZZ:aL ["pool","most","rooms","hours","many","ways","k","one","other"] ["pool","most","rooms","hours"] (aC Zn):=nofun
include cl in
theorem d18(e:iZ K "_law_net" "_law_net" Zn f fd)(eZ:mg "max"=none)(gO:mg "min"=none)(aV:mg "range"=none)(cP:mg "tuple"=none)(a:↥(16,"_law_next",2,0))(b:↥(17,"_law_wide",2,0)):↥(["pool","most","rooms","hours"],4,Xm):=by
 exists e,ZZ,0,0;refine aR ?_ ?_;.exists 4,az aW aj (fc a hr (bu (sv 0) (bu aj aG rfl) rfl))
 lia;.exists 5,bU aJ
 lia;.exists 6,fL rfl (by rfl) aV (au (bU (di (sv 1) (di (fc a hr (bu (sv 0) (bu (az aW (sv 1) aj) aG rfl) rfl)) aJ rfl) rfl)) (fc a hr (bu (sv 0) (bu aj aG rfl) rfl))),0;(· lia;(· exists 7,fc a hr (bu (sv 0) (bu (sv 4) aG rfl) rfl));(· lia;(· exists 8,az dB (az aW (az aW (sv 7) aj) (fc a hr (bu (sv 0) (bu (az cW (sv 4) aj) aG rfl) rfl))) (sv 4));(· lia;(· exists oJ ?_ ?_ ?_;exact cC ni (fc a hr (bu (sv 0) (bu aj aG rfl) rfl)) aj (cU _);(· lia;exact Mi (i:=7) (j:=8) hc nd rfl rfl (by decide) rfl rfl (yx rfl hc (by rfl) gO (di (sv 7) (di (sv 8) aJ rfl) rfl)) (mQ rfl hc (by rfl) eZ (di (sv 7) (di (sv 8) aJ rfl) rfl));exact aD);exact aD);(· lia;exact fK (k:=5) rfl (by ac_rfl) (cQ (di (sv 7) (di (sv 8) (di (fc b hr (bu (sv 0) (bu (sv 2) aG rfl) rfl)) (di (az aW aj (fc b hr (bu (sv 0) (bu (sv 3) aG rfl) rfl))) aJ rfl) rfl) rfl) rfl));exact aD))))
 lia;.exists(),cQ (di (sv 4) (di (nW rfl (by rfl) cP (sv 5)) aJ rfl) rfl)
 exact aD
abbrev s19:Stmt:=top 24
noncomputable def b19:List S:=[.ret (.blt .tuple [.comp (.qG ⇑0 (.bin .sub ↑1 ⇑1)) 1 [2] true (some (.cmp .gt (.call 16 [↑0,⇑3]) ⇑0)) ↑2])]
def WQ:Fd:=⟨2,2,b19⟩
theorem YG:aL ["pool","many"] ["pool","many"] (aC s19):=nofun
include cl in
theorem d19(a:iZ K "_law_starts" "_law_starts" s19 f fd)(aV:mg "range"=none)(cP:mg "tuple"=none)(b:↥(16,"_law_next",2,0)):↥(["pool","many"],2,WQ):=by
 exists a,YG,0,0;refine aR ?_ ?_;.exists(),nW rfl (by rfl) cP (fM (N':=["pool","many","place"]) hc (Gy rfl (by rfl)) (fL rfl (by rfl) aV (az cW (sv 1) aj)) ⇑(bh (i:=2) ‹["pool","many","place"]› rfl (Or.inl rfl) (Or.inr rfl)) (cX (cL)) ⇑(mY (cC ni (fc b hr (bu (sv 0) (bu aj aG rfl) rfl)) aj (cU _))) ⇑((sv 2)))
 exact aD
abbrev s20:Stmt:=top 25
noncomputable def b20:List S:=[.asg 3 (.lst [.lst []]),.gJ (.qG ⇑0 ↑0) [4] true [.asg 5 (.blt .zx [.qG ⇑0 (.bin .add ↑2 ⇑2)]),.ifs (.cmp .inn ↑4 ↑1) [.asg 5 (.lst [⇑0])] [],.ifs (.cmp .eq ↑4 (.bin .sub ↑0 ⇑1)) [.asg 5 (.lst [.bin .add ↑2 ⇑1])] [],.asg 6 (.lst []),.gJ ↑3 [7] true [.Gg 6 (.comp ↑5 1 [8] true none (.bin .add ↑7 (.lst [↑8])))],.asg 3 ↑6],.ret ↑3]
def Xj:Fd:=⟨3,8,b20⟩
theorem ZW:aL ["many","starts","last","rows","place","some","longer","row"] ["many","starts","last"] (aC s20):=nofun
include cl in
theorem d20(a:iZ K "_law_all_closed" "_law_all_closed" s20 f fd)(fZ:mg "list"=none)(aV:mg "range"=none):↥(["many","starts","last"],3,Xj):=by
 exists a,ZW,0,0;refine aR ?_ ?_;.exists 3,bU (di (bU aJ) aJ rfl)
 lia;.exists 4,fL rfl (by rfl) aV (sv 0),0;(· lia;(· exists 5,zX rfl rfl hc (by rfl) fZ (by rfl) aV (az aW (sv 2) aj));(· lia;(· exists oJ ?_ ?_ ?_;exact cC yp (sv 4) (sv 1) (by with_unfolding_all rfl);(· lia;(· exists 5,bU (di aj aJ rfl));exact aD);exact aD);(· lia;(· exists oJ ?_ ?_ ?_;exact cC (Lw (bN hr)) (sv 4) (az cW (sv 0) aj) (cU _);(· lia;(· exists 5,bU (di (az aW (sv 2) aj) aJ rfl));exact aD);exact aD);(· lia;(· exists 6,bU aJ);(· lia;(· exists xY (i:=7) ?_ ?_ ?_ ?_ ?_ ?_ ?_ ?_ ?_;exact PassesOwn.never;exact hc;exact nd;exact rfl;exact Or.inr rfl;exact cZ (sv 3);(· lia;exact Oz (k:=6) rfl (by ac_rfl) (fM (N':=["many","starts","last","rows","place","some","longer","row","hour"]) hc (Gy rfl (by rfl)) (cZ (sv 5)) ⇑(bh (i:=8) ‹["many","starts","last","rows","place","some","longer","row","hour"]› rfl (Or.inl rfl) (Or.inr rfl)) (cX (cL)) ⇑(iK) ⇑((az aW (sv 7) (bU (di (sv 8) aJ rfl)))));exact aD);(· intro _;rfl);exact oi);(· lia;(· exists 3,sv 6);exact aD))))))
 lia;.exists(),sv 3
 exact aD
abbrev s21:Stmt:=top 26
noncomputable def b21:List S:=[.asg 3 (.lst []),.gJ (.call 20 [.idx ↑0 ⇑0,↑1,↑2]) [4] true [.asg 5 ⇑0,.gJ (.idx ↑0 ⇑1) [6,7,8,9] false [.asg 5 (.bin .add ↑5 (.bin .mul ↑8 (.blt .max2 [⇑0,.bin .sub (.bin .sub (.idx ↑4 ↑7) (.idx ↑4 ↑6)) ↑9])))],.app 3 ↑5],.ret (.blt .xg [↑3])]
def W6:Fd:=⟨3,10,b21⟩
theorem aaL:aL ["net","starts","last","sums","closed","found","begin","end","room","hours"] ["net","starts","last"] (aC s21):=nofun
include cl in
theorem d21(a:iZ K "_law_least" "_law_least" s21 f fd)(eZ:mg "max"=none)(gO:mg "min"=none)(b:↥(20,"_law_all_closed",3,0)):↥(["net","starts","last"],3,W6):=by
 exists a,aaL,0,0;refine aR ?_ ?_;.exists 3,bU aJ
 lia;.exists 4,cZ (fc b hr (bu (au (sv 0) aj) (bu (sv 1) (bu (sv 2) aG rfl) rfl) rfl)),0;(· lia;(· exists 5,aj);(· lia;exact qL PassesOwn.never hc (cZ (au (sv 0) aj)) (rM hc (cN (bh (i:=6) nd rfl oi oi) (cN (bh (i:=7) nd rfl oi oi) (cN (bh (i:=8) nd rfl oi oi) (cN (bh (i:=9) nd rfl oi oi) mV))))) (wz rfl (fJ _ _ (fJ _ _ (fJ _ _ (fJ _ _ sE 9) 8) 7) 6)) (by lia;(· exists 5,az aW (sv 5) (az dR (sv 8) (mQ rfl hc (by rfl) eZ (di aj (di (az cW (az cW (au (sv 4) (sv 7)) (au (sv 4) (sv 6))) (sv 9)) aJ rfl) rfl))));exact aD);(· lia;exact fK (k:=3) rfl (by ac_rfl) (sv 5);exact aD)))
 lia;.exists(),yg rfl hc (by rfl) gO (sv 3)
 exact aD
abbrev s22:Stmt:=top 27
noncomputable def b22:List S:=[.ret (.and (.inst [.int] ↑0) (.not (.inst [.bool] ↑0)))]
def Ye:Fd:=⟨1,1,b22⟩
theorem Zf:aL ["found"] ["found"] (aC s22):=nofun
include cl in
theorem d22(a:iZ K "_law_whole" "_law_whole" s22 f fd)(xu:mg "bool"=none)(Gp:mg "int"=none)(dX:mg "isinstance"=none):↥(["found"],1,Ye):=by
 exists a,Zf,0,0;refine aR ?_ ?_;.exists(),Ph (tO .int rfl (by rfl) dX (sv 0) (by rfl) Gp (by kernel_rfl) (by decide) (by rfl)) (Hw (My (tO .bool rfl (by rfl) dX (sv 0) (by rfl) xu (by kernel_rfl) (by decide) (by rfl))))
 exact aD
abbrev Y6:Stmt:=top 28
noncomputable def b23:List S:=[.asg 2 (.bin .mul (.lst [⇑0]) ↑1),.gJ (.qG ⇑0 (.blt .len [↑0])) [3] true [.Ba 2 (.bin .mod ↑3 ↑1) (.bin .add (.bin .mul (.idx ↑2 (.bin .mod ↑3 ↑1)) ⇑1000003) (.idx ↑0 ↑3))],.ret (.slice ↑2 (.con .non) (.blt .max2 [⇑1,.blt .min2 [.blt .len [↑0],↑1]]))]
def W3:Fd:=⟨2,4,b23⟩
theorem aaU:aL ["script","most","cells","k"] ["script","most"] (aC Y6):=nofun
include cl in
theorem d23(a:iZ K "_law_folded" "_law_folded" Y6 f fd)(dH:mg "len"=none)(eZ:mg "max"=none)(gO:mg "min"=none)(aV:mg "range"=none):↥(["script","most"],2,W3):=by
 exists a,aaU,0,0;refine aR ?_ ?_;.exists 2,az dR (bU (di aj aJ rfl)) (sv 1)
 lia;.exists 3,fL rfl (by rfl) aV (kh rfl (by rfl) dH (sv 0)),0;(· lia;exact rT (k:=2) rfl (by ac_rfl) (az dB (sv 3) (sv 1)) (az aW (az dR (au (sv 2) (az dB (sv 3) (sv 1))) aj) (au (sv 0) (sv 3)));exact aD)
 lia;.exists(),uA (sv 2) xZ (zj (mQ rfl hc (by rfl) eZ (di aj (di (yx rfl hc (by rfl) gO (di (kh rfl (by rfl) dH (sv 0)) (di (sv 1) aJ rfl) rfl)) aJ rfl) rfl)))
 exact aD
abbrev Zu:Stmt:=top 29
noncomputable def b24:List S:=[.gJ (.call 23 [↑0,⇑8]) [1] true [.asg 2 (.call 15 [↑1]),.asg 3 (.idx (.lst [⇑2,⇑4,⇑30,.bin .add (.bin .pow ⇑10 ⇑9) ⇑1]) (.call 16 [↑2,⇑4])),.asg 4 (.call 18 [↑2,⇑12,↑3,.idx (.lst [⇑2,⇑3,⇑5]) (.call 16 [↑2,⇑3])]),.gJ (.qG ⇑0 ⇑2) [5] true [.asg 6 (.call 19 [↑2,.idx ↑4 ⇑0]),.asg 7 (.idx (.lst [⇑12,⇑12,⇑12,⇑6,⇑3,⇑1]) (.bin .sub (.bin .sub (.idx ↑4 ⇑0) ⇑1) (.blt .len [↑6]))),.asg 8 (.idx (.lst [↑7,.call 16 [↑2,.bin .add ↑7 ⇑1]]) (.call 16 [↑2,⇑2])),.asg 9 (.call 21 [↑4,↑6,↑8]),.asg 10 (.call 14 [↑4,↑6,↑8]),.ifs (.or (.not (.call 22 [↑10])) (.or (.cmp .ne ↑10 ↑9) (.cmp .ne (.call 14 [↑4,↑6,↑8]) ↑9))) [.ret (.con (.bl false))] [],.ifs (.or (.cmp .ne (.call 14 [↑4,.tup [⇑0],↑8]) (.call 11 [↑4,↑8])) (.cmp .ne (.call 14 [↑4,.tup [],↑8]) ⇑0)) [.ret (.con (.bl false))] []]],.ret (.con (.bl true))]
def Xy:Fd:=⟨1,11,b24⟩
theorem Zm:aL ["script","cell","pool","rooms","net","k","starts","latest","last","due","found"] ["script"] (aC Zu):=nofun
include cl in
theorem d24(e:iZ K "law" "law" Zu f fd)(dH:mg "len"=none)(aV:mg "range"=none)(g:↥(23,"_law_folded",2,0))(h:↥(21,"_law_least",3,0))(i:↥(18,"_law_net",4,0))(a:↥(16,"_law_next",2,0))(j:↥(15,"_law_pool",1,0))(l:↥(19,"_law_starts",2,0))(m:↥(22,"_law_whole",1,0))(o:↥(11,"most_by",2,0))(b:↥(14,"most_from",3,0)):↥(["script"],1,Xy):=by
 exists e,Zm,0,0;refine aR ?_ ?_;.exists 1,cZ (fc g hr (bu (sv 0) (bu aj aG rfl) rfl)),0;(· lia;(· exists 2,fc j hr (bu (sv 1) aG rfl));(· lia;(· exists 3,au (bU (mU [2,4,30] rfl (di (az aW (az rZ aj aj) aj) aJ rfl))) (fc a hr (bu (sv 2) (bu aj aG rfl) rfl)));(· lia;(· exists 4,fc i hr (bu (sv 2) (bu aj (bu (sv 3) (bu (au (bU (mU [2,3,5] rfl aJ)) (fc a hr (bu (sv 2) (bu aj aG rfl) rfl))) aG rfl) rfl) rfl) rfl));(· lia;(· exists 5,fL rfl (by rfl) aV aj,0;(· lia;(· exists 6,fc l hr (bu (sv 2) (bu (au (sv 4) aj) aG rfl) rfl));(· lia;(· exists 7,au (bU (mU [12,12,12,6,3,1] rfl aJ)) (az cW (az cW (au (sv 4) aj) aj) (kh rfl (by rfl) dH (sv 6))));(· lia;(· exists 8,au (bU (di (sv 7) (di (fc a hr (bu (sv 2) (bu (az aW (sv 7) aj) aG rfl) rfl)) aJ rfl) rfl)) (fc a hr (bu (sv 2) (bu aj aG rfl) rfl)));(· lia;(· exists 9,fc h hr (bu (sv 4) (bu (sv 6) (bu (sv 8) aG rfl) rfl) rfl));(· lia;(· exists 10,fc b hr (bu (sv 4) (bu (sv 6) (bu (sv 8) aG rfl) rfl) rfl));(· lia;(· exists oJ ?_ ?_ ?_;exact SW.st (zf (Qn (nu (fc m hr (bu (sv 10) aG rfl)))) (zf (cC (oM (bN hr)) (sv 10) (sv 9) (cU _)) (wJ (cC (oM (bN hr)) (fc b hr (bu (sv 4) (bu (sv 6) (bu (sv 8) aG rfl) rfl) rfl)) (sv 9) (cU _)))));(· lia;(· exists(),pL);exact aD);exact aD);(· lia;(· exists oJ ?_ ?_ ?_;exact SW.st (zf (cC (oM (bN hr)) (fc b hr (bu (sv 4) (bu (cQ (di aj aJ rfl)) (bu (sv 8) aG rfl) rfl) rfl)) (fc o hr (bu (sv 4) (bu (sv 8) aG rfl) rfl)) (cU _)) (wJ (cC (oM (bN hr)) (fc b hr (bu (sv 4) (bu (cQ aJ) (bu (sv 8) aG rfl) rfl) rfl)) aj (cU _))));(· lia;(· exists(),pL);exact aD);exact aD);exact aD))))))));exact aD))))
 lia;.exists(),pL
 exact aD
end T
end
noncomputable section
namespace T
open PySem L2 PySem.Spec PyProof.Rows HH
def Γ:Tab:=λi=>[f0,f1,f2,f3,f4,f5,f6,f7,f8,f9,W7,f11,Xg,Xw,Wo,Yi,XJ,XH,Xm,WQ,Xj,W6,Ye,W3,Xy][i]?
end T
end
noncomputable section
namespace T
open HH
variable{w n j N l:Nat}{z m a b g p i k:Int}{Q:R->List Sl->Prop}{f:Bool}{ch:List Int}{F q:Int->Int}{ρ:List Sl}{kvs r:List (Int×Int)}
local macro_rules|`(tactic|symm)=>`(tactic|first|apply ak|apply zW)
abbrev big:Int:=1606938044258990275541962092341162602522202993782792835301376
theorem bQ{x y:Int}(h0:0<m)(c:m<big)(k:∀d x z:Int,0<=d->d<m->Q (.val (.int d)) [.own true [.int x,.int y,.int z],.val false (.int m)]):(run Γ w (n+1) 16 [.own true [.int x,.int y,.int z],.val false (.int m)]).sat Q:=by
 have e:m<1606938044258990275541962092341162602522202993782792835301376:=c;refine aU (d:=XJ) rfl rfl (by decide) ?_;symm;simp[XJ];constructor;.intro _;symm;simp[h0];apply ak;simp[h0,e,gQ];apply ak;simp;exact k _ _ _ (Int.emod_nonneg _ (by omega)) (Int.emod_lt_of_pos _ h0)
 . intro _;symm;simp[gQ];apply ak;simp;generalize s:(y+7919*(z+1))%1000000007=q;have t:0<=q/\q<1000000007:=by omega
   have h:-18446744073709551616<q+11/\q+11<18446744073709551616:=by omega
   symm;simp[h];generalize hs:(q+11)*(q+48271)%998244353=st;have o:-18446744073709551616<st/\st<18446744073709551616:=by omega
   symm;simp[o,h0];exact k _ _ _ (Int.emod_nonneg _ (by omega)) (Int.emod_lt_of_pos _ h0)
theorem Fb{x:Int}(k:∀a b c:Int,Q (.own [.int a,.int b,.int c]) [.val false (.int x)]):(run Γ w (n+1) 15 [.val false (.int x)]).sat Q:=by refine aU (d:=Yi) rfl rfl (by decide) ?_;symm;simp[Yi];exact k _ _ _
structure Wy where(s t r h:Int)
variable{ws:List Wy}{v:Wy}
def Wy.d(w:Wy):D:=.tup [.int w.s,.int w.t,.int w.r,.int w.h]
structure Wy.Ok(m:Int)(w:Wy):Prop where
 s0:0<=w.s
 s1:w.s<m
 t0:0<=w.t
 t1:w.t<m
 ne:w.s≠w.t
 r0:0<=w.r
 r1:w.r<=1000000000
 h0:1<=w.h
 h1:w.h<=1000000
theorem other(h1:0<=a)(c:a<m)(o:0<=b)(s:b<m-1):0<=(a+1+b)%m/\(a+1+b)%m<m/\(a+1+b)%m≠a:=by
 by_cases h:a+1+b<m;.rw[Int.emod_eq_of_lt (by omega) h];omega
 . have e:(a+1+b)%m=a+1+b-m:=by rw[<-Int.sub_emod_right,Int.emod_eq_of_lt (by omega) (by omega)]
   rw[e];omega
def bw(m:Int)(ws:List Wy):D:=.tup [.int m,.tup (ws.map Wy.d)]
structure gh(m:Int)(ws:List Wy):Prop where
 m0:2<=m
 m1:m<=7
 len:ws.length<=12
 ok:∀w∈ws,w.Ok m
@[simp]theorem ab1{m:Int}{ws:List Wy}:HX (bw m ws) (.int 0)=some (.val (.int m)):=rfl
@[simp]theorem acp{m:Int}{ws:List Wy}:HX (bw m ws) (.int 1)=some (.val (.tup (ws.map Wy.d))):=rfl
def dD(j:Nat)(f:Bool):D:=.tup [.int j,.bl f]
def frm(v:Wy)(f:Bool):Int:=if f then v.s else v.t
def too(v:Wy)(f:Bool):Int:=if f then v.t else v.s
theorem ju(e:ws[j]?=some v)(k:Q (.val (.tup [.int (frm v f),.int (too v f)])) [.val false (bw m ws),.val false (dD j f)]):(run Γ w (n+1) 0 [.val false (bw m ws),.val false (dD j f)]).sat Q:=by refine aU (d:=f0) rfl rfl (by decide) ?_;symm;simp[f0,dD,gW e];apply ak;cases f with|true=>simp[Wy.d];exact k|false=>simp[Wy.d];exact k
def hsp(v:Wy)(f:Bool):Int:=if f then v.h else-v.h
theorem pP(e:ws[j]?=some v)(k:Q (.val (.int (hsp v f))) [.val false (bw m ws),.val false (dD j f)]):(run Γ w (n+1) 1 [.val false (bw m ws),.val false (dD j f)]).sat Q:=by refine aU (d:=f1) rfl rfl (by decide) ?_;symm;simp[f1,dD,gW e,Wy.d];apply ak;cases f with|true=>simp;exact k|false=>simp;exact k
def Vv(s:Sl)(fs:List Int):Prop:=s=.val false (.lst (fs.map D.int))\/∃b,s=.own b (fs.map D.int)
def lV(v:Wy)(g:Int)(f:Bool):Int:=if f then v.r-g else g
theorem qx{s:Sl}{fs:List Int}(hs:Vv s fs)(e:ws[j]?=some v)(c:fs[j]?=some g)(k:Q (.val (.int (lV v g f))) [.val false (bw m ws),s,.val false (dD j f)]):(run Γ w (n+1) 2 [.val false (bw m ws),s,.val false (dD j f)]).sat Q:=by refine aU (d:=f2) rfl rfl (by decide) ?_;symm;rcases hs with rfl|⟨b,rfl⟩;all_goals simp[f2,dD,gW c];apply ak;cases f with|true=>simp[gW e,Wy.d];exact k|false=>simp;exact k
@[simp]theorem W4{c:Call}{n x k:Nat}{src o:P}{is:List Nat}{one:Bool}{ρ:List Sl}:ex c n (.Gi x src k is one o) ρ=(srcOf (isVar src) (ev c src) ρ).bind λu e=>if u.length<=lim then(dM is one (ev c o) u [] (e++replicate k .aP)).bind λs h=>(lift (put (aX ρ (isVar src) (h.take e.length)) x (.hold s)) ρ).bind λt _=>.ok .next t else .stuck:=(rfl)
@[simp]theorem Xi{c:Call}{n:Nat}{src:P}{is:List Nat}{one:Bool}{body:List S}{ρ:List Sl}:ex c n (.Bb src is one body) ρ=(ev c src ρ).bind λr e=>(lift (items r.d) e).bind λh e=>fU is one (fX c n body) h e:=(rfl)
@[simp]theorem Zi{c:Call}{n x:Nat}{ρ:List Sl}:ex c n (.cG x) ρ=match ρ[x]?with|some (.hold e)=>.ok .next (ρ.set x (.val false (.lst (e.map D.lst))))|_=>.stuck:=(rfl)
@[simp]theorem WK{c:Call}{n x:Nat}{i e:P}{ρ:List Sl}:ex c n (.Gj x i e) ρ=(bK (isVar i) (ev c i) ρ).bind λk ρ=>(lift (sy ρ x k) ρ).bind λ_ ρ=>(ev c e ρ).bind λr ρ=>Ae ρ x ((gM ρ x).bind λh=>(dW k).bind λk=>iG h k λrow=>if row.length<lim then some (row++[r.d])else none):=(rfl)
@[simp]theorem Wu{a:Sl}{l:List Sl}{x:Nat}:gM (a::l) x=match(a::l)[x]?with|some (.hold c)=>some c|_=>none:=rfl
@[simp]theorem QK{ρ:List Sl}{x:Nat}{c:List (List D)}:Ae ρ x (some c)=.ok .next (ρ.set x (.hold c)):=rfl
@[simp]theorem aaG{a:Sl}{l:List Sl}{x:Nat}{k:Int}:sy (a::l) x (.int k)=match(a::l)[x]?with|some (.hold c)=>rowAt c k|_=>none:=by unfold sy gM;cases h:(a::l)[x]?with|none=>rfl|some s=>cases s<;>rfl
theorem o8{is:List Nat}{one:Bool}{s:Ev}(J:List Sl->Prop)(g:D->List D){Q:List (List D)->List Sl->Prop}:∀{u:List D}{c:List (List D)}{ρ:List Sl},J ρ->(∀d,d∈u->∀ρ,J ρ->∃o,bV ρ is one d=some o/\(s o).sat λr t=>r=.own (g d)/\J t)->(∀ρ,J ρ->Q (c++u.map g) ρ)->(dM is one s u c ρ).sat Q|[],c,ρ,j,h,k=>by rw[dM];simpa using k ρ j|d::r,c,ρ,j,h,k=>by obtain⟨o,e,h1⟩:=h d (by simp) ρ j;rw[dM,e];show((s o).bind _).sat Q;rw[bz];refine h1.imp λx t⟨B,j3⟩=>?_;subst B;exact o8 J g j3 (λd' y=>h d' (by simp[y])) λA C=>by simpa using k A C
@[simp]theorem aax{c:Call}{x:Nat}{k:P}{ρ:List Sl}:ev c (.KQ x k) ρ=match ρ[x]?with
 |some (.cA _)=>(bK (isVar k) (ev c k) ρ).bind λe ρ=>match ρ[x]?with|some (.cA kvs)=>lift ((dW e).bind λk=>(jr kvs k).map .val) ρ|_=>.stuck
 |_=>.stuck:=(rfl)
def pg(kvs:List (Int×D))(k:Int):Bool:=(kvs.map (·.1)).contains k
def Gs(kvs:List (Int×D)):List Int:=kvs.map (·.1)
def dsV(kvs:List (Int×D)):List D:=kvs.map (·.2)
@[simp]theorem YH{c:Call}{x:Nat}{k:P}{neg:Bool}{ρ:List Sl}:ev c (.KY x k neg) ρ=(bK (isVar k) (ev c k) ρ).bind λe ρ=>match ρ[x]?with|some (.cA kvs)=>lift ((dW e).map λk=>.val (.bl (if neg then !pg kvs k else pg kvs k))) ρ|_=>.stuck:=(rfl)
@[simp]theorem Xd{c:Call}{k e:Int}{ρ:List Sl}:ev c (.xj k e) ρ=.ok (.val (.dv [k] [.int e])) ρ:=(rfl)
@[simp]theorem acv{c:Call}{x:Nat}{ρ:List Sl}:ev c (.vw x) ρ=match ρ[x]?with|some (.fC m)=>.ok (.val (.cH m)) (ρ.set x (.val false (.cH m)))|some (.cA kvs)=>.ok (.val (.dv (Gs kvs) (dsV kvs))) (ρ.set x (.val false (.dv (Gs kvs) (dsV kvs))))|some (.own b e)=>.ok (.val (.lst e)) (ρ.set x (.val b (.lst e)))|some (.val _ d)=>.ok (.val d) ρ|_=>.stuck:=(rfl)
@[simp]theorem Wn{c:Call}{n x:Nat}{ρ:List Sl}:ex c n (.Bc x) ρ=match ρ[x]?with|some .aP=>.ok .next (ρ.set x (.cA []))|some (.cA _)=>.ok .next (ρ.set x (.cA []))|some (.val false _)=>.ok .next (ρ.set x (.cA []))|_=>.stuck:=(rfl)
@[simp]theorem W9{c:Call}{n x:Nat}{k e:P}{ρ:List Sl}:ex c n (.fj x k e) ρ=(ev c e ρ).bind λr ρ=>match ρ[x]?with
 |some (.cA _)=>(bK (isVar k) (ev c k) ρ).bind λh ρ=>match ρ[x]?,h with|some (.cA kvs),.int k=>if kvs.length<lim then .ok .next (ρ.set x (.cA (fj kvs k r.d)))else .stuck|_,_=>.stuck
 |_=>.stuck:=(rfl)
@[simp]theorem Yh{c:Call}{n x:Nat}{i e:P}{sub:Bool}{ρ:List Sl}:ex c n (.Gf x i sub e) ρ=(lift (wC ρ x) ρ).bind λ_ ρ=>(bK (isVar i) (ev c i) ρ).bind λk ρ=>(lift (wC ρ x) ρ).bind λl ρ=>(lift ((dW k).bind λi=>at' l i) ρ).bind λa ρ=>(bK (isVar e) (ev c e) ρ).bind λb ρ=>match a,b,ρ[x]?,k with
 |.int u,.int v,some (.own o h),.int k=>match gQ h.length k with|some j=>.ok .next (ρ.set x (.own o (h.set j (.int (if sub then u-v else u+v)))))|none=>.stuck
 |_,_,_,_=>.stuck:=(rfl)
@[simp]theorem Ra{x:Nat}{k:P}:isVar (.KQ x k)=none:=rfl
@[simp]theorem R5{x:Nat}{k:P}{b:Bool}:isVar (.KY x k b)=none:=rfl
@[simp]theorem UW{x:Nat}:isVar (.vw x)=none:=rfl
@[simp]theorem MF{k e:Int}:isVar (.xj k e)=none:=rfl
@[simp]theorem Z1{kvs:List (Int×D)}:fr (.cA kvs)=false:=rfl
@[simp]theorem XS{r:List (List D)}:fr (.hold r)=false:=rfl
@[simp]theorem Uw:pD .Az=yF:=rfl
@[simp]theorem Xu:pD .Yq=tX false:=rfl
@[simp]theorem U0{ks:List Int}{c:List D}{k:Int}:yF (.dv ks c) (.int k)=(jr (ks.zip c) k).map .val:=rfl
@[simp]theorem WL{ks:List Int}{c:List D}{k:Int}:tX false (.int k) (.dv ks c)=some (.val (.bl (ks.contains k))):=rfl
@[simp]theorem Q7{ks:List Int}{c:List D}:blt .keys [.dv ks c]=some (.val (.tup (ks.map D.int))):=rfl
@[simp]theorem Wv{ks:List Int}{c:List D}:blt .R9 [.dv ks c]=if ks.length<=16777216 then some (.own (ks.map D.int))else none:=rfl
@[simp]theorem Xh{c:List D}:blt .Yr [.lst c]=some (.val (.tup c.reverse)):=rfl
@[simp]theorem Rp{kvs:List (Int×D)}{x:Option Sl}:dq (.cA kvs) x=.cA kvs:=by cases x<;>rfl
@[simp]theorem N8{r:List (List D)}{x:Option Sl}:dq (.hold r) x=.hold r:=by cases x<;>rfl
structure HN(m:Int)(ws:List Wy):Prop where
 m0:2<=m
 m1:m<=7
 len:ws.length<=12
 ok:∀w∈ws,(0<=w.s/\w.s<m)/\(0<=w.t/\w.t<m)/\0<=w.h
theorem HN.of(h:gh m ws):HN m ws:=⟨h.m0,h.m1,h.len,λw c=>by have:=h.ok w c;exact⟨⟨this.s0,this.s1⟩,⟨this.t0,this.t1⟩,by have:=this.h0;omega⟩⟩
abbrev aq:=Nat×Bool
variable{s:aq}{x:Nat×(Option aq×Int)}{o:Option aq×Int}{c:List aq}{cs:List (List aq×Int)}
def sD(s:aq):D:=dD s.1 s.2
def iJ(ws:List Wy)(fs:List Int)(p:Int)(s:aq):Bool:=match ws[s.1]?,fs[s.1]?with|some v,some g=>decide (frm v s.2=p)&&decide (0<lV v g s.2)|_,_=>false
theorem lq{fs:List Int}(e:ws[s.1]?=some v)(h:fs[s.1]?=some g):iJ ws fs p s=(decide (frm v s.2=p)&&decide (0<lV v g s.2)):=by unfold iJ;rw[e,h]
def gV(ws:List Wy)(fs:List Int)(M:Nat)(l:List aq):List (List aq):=(List.range M).map λ(p:Nat)=>l.filter (iJ ws fs (p:Int))
def rD(l:List (List aq)):List (List D):=l.map λr=>r.map sD
def fV(N:Nat):List aq:=(List.range N).flatMap λj=>[(j,true),(j,false)]
theorem qe:fV (N+1)=(fV N++[(N,true)])++[(N,false)]:=by simp[fV,range_succ]
theorem u0:(fV N).length=2*N:=by induction N with|zero=>rfl|succ N e=>rw[qe];simp[e];omega
theorem Qe(h:HN m ws)(e:ws[j]?=some v)(f:Bool):0<=frm v f/\frm v f<m:=by have:=h.ok v (mem_of_getElem? e);cases f<;>simp only[frm]<;>simp<;>omega
theorem BZ(h:HN m ws)(e:ws[j]?=some v)(f:Bool):0<=too v f/\too v f<m:=by have:=h.ok v (mem_of_getElem? e);cases f<;>simp only[too]<;>simp<;>omega
theorem By{fs:List Int}{M:Nat}{l:List aq}(e:ws[s.1]?=some v)(t:fs[s.1]?=some g)(h:¬ 0<lV v g s.2):gV ws fs M (l++[s])=gV ws fs M l:=by unfold gV;refine map_congr_left λp _=>?_;rw[filter_append];simp[lq e t,h]
theorem Iw{fs:List Int}{l:List aq}(e:ws[s.1]?=some v)(u:fs[s.1]?=some g)(h:0<lV v g s.2)(y:0<=frm v s.2/\frm v s.2<m)(E:l.length<1000):(∃row,rowAt (rD (gV ws fs m.toNat l)) (frm v s.2)=some row)/\iG (rD (gV ws fs m.toNat l)) (frm v s.2) (λrow=>if row.length<lim then some (row++[sD s])else none)=some (rD (gV ws fs m.toNat (l++[s]))):=by
 have t:(rD (gV ws fs m.toNat l)).length=m.toNat:=by simp[rD,gV]
 have A:gQ (rD (gV ws fs m.toNat l)).length (frm v s.2)=some (frm v s.2).toNat:=by unfold gQ;rw[t,if_pos y.1,if_pos (by omega)]
 have B:(rD (gV ws fs m.toNat l))[(frm v s.2).toNat]?=some ((l.filter (iJ ws fs (frm v s.2))).map sD):=by simp[rD,gV,show(frm v s.2).toNat<m.toNat by omega,toNat_of_nonneg y.1]
 refine⟨⟨_,by unfold rowAt;rw[A];exact B⟩,?_⟩;unfold iG;rw[A];show((rD (gV ws fs m.toNat l))[(frm v s.2).toNat]?).bind _=_;rw[B];have C:((l.filter (iJ ws fs (frm v s.2))).map sD).length<lim:=by have:=List.length_filter_le (iJ ws fs (frm v s.2)) l;rw[length_map];show _<16777216;omega
 show Option.map _ (if _ then _ else _)=_;rw[if_pos C];show some _=some _;congr 1;refine List.ext_getElem (by simp[rD,gV]) λi G H=>?_;rw[List.getElem_set];by_cases c:(frm v s.2).toNat=i
 . rw[if_pos c];have:(i:Int)=frm v s.2:=by omega
   simp[rD,gV,this,filter_append,lq e u,h]
 . rw[if_neg c];have:¬ frm v s.2=(i:Int):=by omega
   simp[rD,gV,filter_append,lq e u,this]
inductive JOp(m:Int)(ws:List Wy)(fs:List Int)(s:Sl)(i:Nat)(ρ:List Sl):Prop where|mk(s3 s4:Sl)(q0:ρ=[.val false (bw m ws),s,.hold (rD (gV ws fs m.toNat (fV i))),s3,s4])(q1:fr s3=true)(q2:fr s4=true)
inductive JOq(m:Int)(ws:List Wy)(fs:List Int)(s:Sl)(i:Nat)(r:List D)(ρ:List Sl):Prop where|mk(l us:List aq)(s4:Sl)(q0:ρ=[.val false (bw m ws),s,.hold (rD (gV ws fs m.toNat l)),.val false (.int i),s4])(q1:fr s4=true)(q2:r=us.map sD)(q3:l++us=fV (i+1))(q4:∀u∈us,u.1=i)
inductive F1n(a b c d e:Sl)(ρ:List Sl):Prop where|mk(s:Sl)(q0:ρ=[a,b,c,d,e,s])(q1:fr s=true)
theorem Fq{s:Sl}{fs:List Int}(hs:Vv s fs)(h:HN m ws)(X:fs.length=ws.length)(k:Q (.val (.lst ((rD (gV ws fs m.toNat (fV ws.length))).map D.lst))) [.val false (bw m ws),s]):(run Γ w (n+2) 4 [.val false (bw m ws),s]).sat Q:=by
 have Y:=h.len;have m0:=h.m0;have m1:=h.m1;refine aU (d:=f4) rfl rfl (by decide) ?_;refine cu (λρ=>ρ=[.val false (bw m ws),s,.hold (rD (gV ws fs m.toNat (fV 0))),.aP,.aP]) ?_ ?_
 . simp[f4,show m<=1000000000 by omega,show-1000000000<=m by omega];refine⟨λ_=>?_,by omega⟩;rw[bz];refine o8 (F1n _ _ _ _ _) (λ_=>[]) ⟨.aP,rfl,rfl⟩ ?_ ?_;.rintro d hd _⟨M,rfl,y⟩;simp[y];exact⟨_,rfl,rfl⟩
   .rintro _⟨M,rfl,y⟩;simp[rD,gV,fV]
 rintro _ rfl;refine cu (JOp m ws fs s ws.length) ?_ ?_
 . simp[show(ws.length:Int)<=1000000000 by omega];refine iC (JOp m ws fs s) ?_ ?_ ⟨.aP,.aP,rfl,rfl,rfl⟩
   . rintro i _ hi⟨s3,s4,rfl,E,t⟩;have H:i<fs.length:=by omega
     have A:ws[i]?=some ws[i]:=by simp[hi]
     have I:fs[i]?=some fs[i]:=by simp[H]
     generalize ws[i]=v at*;generalize fs[i]=g at*;simp[E];apply ak;simp;refine bM (JOq m ws fs s i) ?_ ?_ ⟨fV i,[(i,true),(i,false)],s4,rfl,t,rfl,by rw[qe];simp,by simp⟩;.rintro d r _⟨l,e,s4,rfl,t,hr,B,G⟩;cases e with|nil=>cases hr|cons u e=>
         obtain⟨rfl,rfl⟩:d=sD u/\r=e.map sD:=by simpa using hr
         obtain rfl:=G u (by simp);have C:(l++[u])++e=fV (u.1+1):=by rw[append_assoc];exact B
         have J:l.length<1000:=by have:=congrArg List.length B;rw[u0]at this;simp at this;omega
         simp[t];apply ak;rcases hs with rfl|⟨b,rfl⟩;all_goals
          simp[sD];refine qx (by first|exact .inl rfl|exact .inr ⟨_,rfl⟩) A I ?_;simp;refine⟨λho=>?_,λho=>?_⟩;.obtain⟨⟨row,O⟩,U⟩:=Iw (ws:=ws) (fs:=fs) (l:=l) A I ho (Qe h A u.2) J;symm;simp;refine ju A ?_;simp[O];have W:iG (rD (gV ws fs m.toNat l)) (frm v u.2) (λrow=>if row.length<lim then some (row++[dD u.1 u.2])else none)=_:=U;rw[W];simp;exact⟨l++[u],e,_,rfl,rfl,rfl,C,λx L=>G x (by simp[L])⟩
          .exact⟨l++[u],e,_,by rw[By A I (by omega)],rfl,rfl,C,λx L=>G x (by simp[L])⟩
     . rintro _⟨l,e,s4,rfl,t,hr,B,G⟩;have:e=[]:=by cases e with|nil=>rfl|cons _ _=>cases hr
       subst this;rw[append_nil]at B;subst B;simp;exact⟨_,_,rfl,rfl,t⟩
   .rintro _⟨s3,s4,rfl,E,t⟩;exact⟨rfl,_,_,rfl,E,t⟩
 rintro _⟨s3,s4,rfl,E,t⟩;symm;simp;apply ak;simp;exact k
abbrev En:=Int×Nat×(Option aq×Int)
variable{es qJ:List En}
def oS:Option aq->D|none=>.non|some s=>sD s
def yu(e:En):D:=.tup [.int e.2.2.2,.int (e.2.1:Int),oS e.2.2.1]
def en(e:En):Int×D:=(e.1,yu e)
def jT(es:List En):D:=.dv (es.map (·.1)) (es.map yu)
def vJ(p:Int):Int×D:=(p,.bl true)
@[simp]theorem Qk{l:List Int}:Gs (l.map vJ)=l:=by simp[Gs,vJ,Function.comp_def]
theorem wg{l:List En}:Gs (l.map en)=l.map (·.1):=by simp[Gs,en,Function.comp_def]
theorem v5{l:List En}:pg (l.map en) p=true↔∃n o,(p,n,o)∈l:=by show(Gs (l.map en)).contains p=true↔_;rw[wg];simp
theorem kin_no{l:List En}(h:¬ ∃n o,(p,n,o)∈l):pg (l.map en) p=false:=by cases e:pg (l.map en) p with|false=>rfl|true=>exact absurd (v5.mp e) h
theorem qN{u:Type}{p:Int}{x y:u}:∀{l:List (Int×u)},(l.map (·.1)).Nodup->(p,x)∈l->(p,y)∈l->x=y
 |[],_,h,_=>by cases h|e::l,t,h1,h2=>by
   rw[map_cons,nodup_cons]at t;rcases mem_cons.mp h1 with h1|h1<;>rcases mem_cons.mp h2 with h2|h2;.rw[<-h2]at h1;cases h1;rfl
   .exact absurd (mem_map.mpr ⟨_,h2,by rw[<-h1]⟩) t.1
   .exact absurd (mem_map.mpr ⟨_,h1,by rw[<-h2]⟩) t.1
   .exact qN t.2 h1 h2
theorem mJ{p:Int}{x:Nat×(Option aq×Int)}:∀{l:List En},(l.map (·.1)).Nodup->(p,x)∈l->jr (l.map en) p=some (yu (p,x))
 |[],_,h=>by cases h|e::l,t,h=>by
   have u:=t;rw[map_cons,nodup_cons]at t;unfold jr;rw[map_cons,find?_cons];by_cases c:e.1=p;.obtain⟨q,y⟩:=e;cases c;have:=qN u h (by simp:(q,y)∈(q,y)::l);subst this;simp[en]
   . have h':(p,x)∈l:=by
      rcases mem_cons.mp h with h|h;.exact absurd (by rw[<-h]) c
      .exact h
     simp[en,c];have:=mJ t.2 h';unfold jr at this;simpa[en]using this
theorem oX{kvs:List (Int×D)}{d:D}(h:pg kvs p=false):fj kvs p d=kvs++[(p,d)]:=by
 unfold fj;rw[if_neg];intro t;obtain⟨x,u,e⟩:=any_eq_true.mp t;have:pg kvs p=true:=by show(kvs.map (·.1)).contains p=true;rw[List.contains_iff_mem];exact mem_map.mpr ⟨x,u,by simpa using e⟩
 rw[this]at h;cases h
theorem uQ{kvs:List (Int×D)}{d:D}(h:pg kvs p=true):fj kvs p d=kvs.map λe=>if e.1=p then(p,d)else e:=by
 unfold fj;rw[if_pos]
 . refine map_congr_left λe _=>?_;by_cases c:e.1=p;.simp[c]
   .simp[c]
 .have h':(kvs.map (·.1)).contains p=true:=h;rw[List.contains_iff_mem]at h';obtain⟨x,t,e⟩:=mem_map.mp h';exact any_eq_true.mpr ⟨x,t,by simpa using e⟩
def uP(p:Int)(x:Nat×(Option aq×Int))(e:En):En:=if e.1=p then(p,x)else e
def mq(es:List En)(p:Int)(x:Nat×(Option aq×Int)):List En:=if p∈es.map (·.1)then es.map (uP p x)else es++[(p,x)]
def nQ(ch:List Int)(p:Int):List Int:=if p∈ch then ch else ch++[p]
theorem Hd:fj (es.map en) p (yu (p,x))=(mq es p x).map en:=by
 have h:pg (es.map en) p=true↔p∈es.map (·.1):=by show(Gs (es.map en)).contains p=true↔_;rw[wg,List.contains_iff_mem]
 unfold mq;by_cases c:p∈es.map (·.1)
 . rw[if_pos c,uQ (h.mpr c),map_map,map_map];refine map_congr_left λe _=>?_;show(if e.1=p then _ else _)=en (uP p x e);unfold uP;by_cases z:e.1=p;.rw[if_pos z,if_pos z];rfl
   .rw[if_neg z,if_neg z]
 .rw[if_neg c,oX (by cases e:pg (es.map en) p with|false=>rfl|true=>exact absurd (h.mp e) c)];simp[en]
theorem IV:fj (ch.map vJ) p (.bl true)=(nQ ch p).map vJ:=by
 have h:pg (ch.map vJ) p=true↔p∈ch:=by show(Gs (ch.map vJ)).contains p=true↔_;rw[Qk,List.contains_iff_mem]
 unfold nQ;by_cases c:p∈ch
 . rw[if_pos c,uQ (h.mpr c),map_map];refine map_congr_left λe _=>?_;show(if e=p then _ else _)=vJ e;by_cases z:e=p;.rw[if_pos z,z];rfl
   .rw[if_neg z]
 .rw[if_neg c,oX (by cases e:pg (ch.map vJ) p with|false=>rfl|true=>exact absurd (h.mp e) c)];simp[vJ]
theorem uG{q:Int}:q∈nQ ch p↔q∈ch\/q=p:=by
 unfold nQ;split;.exact⟨.inl,λh=>h.elim id λe=>by rw[e];assumption⟩
 .simp
theorem ym(h:ch.Nodup):(nQ ch p).Nodup:=by
 unfold nQ;split;.exact h
 .rename_i t;rw[nodup_append];exact⟨h,by simp,λa u b y e=>t (by rw[<-mem_singleton.mp y,<-e];exact u)⟩
theorem Ak:(mq es p x).map (·.1)=nQ (es.map (·.1)) p:=by
 unfold mq nQ;split
 . rw[map_map];refine map_congr_left λe _=>?_;show(uP p x e).1=e.1;unfold uP;split;.rename_i h;exact h.symm
   .rfl
 .simp
theorem eY{q:Int}{y:Nat×(Option aq×Int)}:(q,y)∈mq es p x↔(q=p/\y=x)\/(q≠p/\(q,y)∈es):=by
 unfold mq;split
 . rename_i t;obtain⟨E,u,A⟩:=mem_map.mp t;rw[mem_map];constructor
   . rintro⟨e,he,h⟩;unfold uP at h;split at h;.cases h;exact .inl ⟨rfl,rfl⟩
     .rename_i B;subst h;exact .inr ⟨B,he⟩
   . rintro(⟨rfl,rfl⟩|⟨h1,C⟩);.exact⟨E,u,by unfold uP;rw[if_pos A]⟩
     .exact⟨_,C,by unfold uP;rw[if_neg h1]⟩
 . rename_i t;rw[mem_append,mem_singleton];constructor
   . rintro(h|h);.refine .inr ⟨λe=>t ?_,h⟩;rw[<-e];exact mem_map.mpr ⟨_,h,rfl⟩
     .cases h;exact .inl ⟨rfl,rfl⟩
   . rintro(⟨rfl,rfl⟩|⟨_,C⟩);.exact .inr rfl
     .exact .inl C
theorem jC{h:Type}[BEq h][LawfulBEq h]:∀{l l2:List h},l.Nodup->(∀a∈l,a∈l2)->l.length<=l2.length
 |[],_,_,_=>rK|a::l,l2,A,hs=>by
   have u:=hs a (by simp);have e:=nodup_cons.mp A;have:=jC (l:=l) (l2:=l2.erase a) e.2 λb y=>by
    have t:b≠a:=by rintro rfl;exact e.1 y
    exact(List.mem_erase_of_ne t).mpr (hs b (by simp[y]))
   rw[List.length_erase_of_mem u]at this;have:=List.length_pos_of_mem u;simp only[length_cons];omega
theorem six{l:List Int}(m1:m<=7)(e:l.Nodup)(h:∀p∈l,0<=p/\p<m):l.length<=7:=by
 have:=jC (l2:=[0,1,2,3,4,5,6]) e λq t=>by
  have:=h q t;have:q=0\/q=1\/q=2\/q=3\/q=4\/q=5\/q=6:=by omega
  simpa using this
 simpa using this
theorem nj{fs:List Int}(h:iJ ws fs p s=true):∃v g,ws[s.1]?=some v/\fs[s.1]?=some g/\frm v s.2=p/\0<lV v g s.2:=by
 unfold iJ at h;split at h;.rename_i v g e t;simp at h;exact⟨v,g,e,t,h.1,h.2⟩
 .cases h
theorem uo(h:s.1<N):s∈fV N:=by unfold fV;rw[List.mem_flatMap];refine⟨s.1,by simp[h],?_⟩;obtain⟨j,f⟩:=s;cases f<;>simp
def gq(ws:List Wy)(b:Int):List aq->Int->Prop|[],a=>a=b|s::c,a=>∃v,ws[s.1]?=some v/\frm v s.2=a/\gq ws b c (too v s.2)
def hst(ws:List Wy)(s:aq):Int:=match ws[s.1]?with|some v=>hsp v s.2|none=>0
theorem fY(e:ws[s.1]?=some v):hst ws s=hsp v s.2:=by unfold hst;rw[e]
def bD(ws:List Wy):List aq->Int|[]=>0|s::c=>hst ws s+bD ws c
theorem iU{ws:List Wy}{c2:List aq}:∀{c1:List aq},bD ws (c1++c2)=bD ws c1+bD ws c2|[]=>by simp[bD]|s::c=>by rw[cons_append,bD,iU,bD];omega
def pN(ws:List Wy)(fs:List Int)(c:List aq):Prop:=∀s∈c,∃v,ws[s.1]?=some v/\iJ ws fs (frm v s.2) s=true
theorem gq.app{ws:List Wy}{b q:Int}{c2:List aq}(t:gq ws b c2 q):∀{c1:List aq}{a:Int},gq ws q c1 a->gq ws b (c1++c2) a|[],a,h=>by have:a=q:=h;rw[this];exact t|s::c,a,⟨v,e,u,h⟩=>⟨v,e,u,gq.app t h⟩
theorem yj{ws:List Wy}{b:Int}{c2:List aq}:∀{c1:List aq}{a:Int},gq ws b (c1++c2) a->∃q,gq ws q c1 a/\gq ws b c2 q|[],a,h=>⟨a,rfl,h⟩|s::c,a,⟨v,e,t,h⟩=>by obtain⟨q,h1,u⟩:=yj (c1:=c) h;exact⟨q,⟨v,e,t,h1⟩,u⟩
def Pt(ws:List Wy)(fs:List Int)(F:Int->Int):Prop:=∀(s:aq)(v:Wy),ws[s.1]?=some v->iJ ws fs (frm v s.2) s=true->F (too v s.2)<=F (frm v s.2)+hsp v s.2
theorem kY{ws:List Wy}{fs:List Int}{F:Int->Int}(h:Pt ws fs F){b:Int}:∀{c:List aq}{a:Int},gq ws b c a->pN ws fs c->F b<=F a+bD ws c|[],a,t,_=>by have:a=b:=t;rw[this,bD];omega|s::c,a,⟨v,e,A,t⟩,ho=>by have h1:=kY h t λu B=>ho u (mem_cons_of_mem _ B);obtain⟨E,y,o⟩:=ho s (by simp);rw[e]at y;cases y;have C:=h s v e o;rw[A]at C;rw[bD,fY e];omega
def vG(ws:List Wy)(s:aq):Int:=match ws[s.1]?with|some v=>too v s.2|none=>0
def uT(ws:List Wy):List aq->Int->List Int|[],a=>[a]|s::c,a=>a::uT ws c (vG ws s)
theorem yR{ws:List Wy}:∀{c:List aq}{a:Int},(uT ws c a).length=c.length+1|[],_=>rfl|s::c,a=>by rw[uT,length_cons,yR];rfl
theorem Ep{m:Int}{ws:List Wy}{b:Int}(t:HN m ws):∀{c:List aq}{a:Int},gq ws b c a->0<=a/\a<m->∀q∈uT ws c a,0<=q/\q<m
 |[],a,_,h,q,hq=>by rw[uT,mem_singleton]at hq;rw[hq];exact h|s::c,a,⟨v,e,y,u⟩,h,q,hq=>by
   rw[uT,mem_cons]at hq;rcases hq with rfl|hq;.exact h
   . have:vG ws s=too v s.2:=by unfold vG;rw[e]
     rw[this]at hq;exact Ep t u (BZ t e s.2) q hq
theorem yP{ws:List Wy}{b q:Int}:∀{c:List aq}{a:Int},gq ws b c a->q∈uT ws c a->∃c1 c2,c=c1++c2/\gq ws q c1 a/\gq ws b c2 q
 |[],a,h,hq=>by rw[uT,mem_singleton]at hq;exact⟨[],[],rfl,hq.symm,by rw[hq];exact h⟩|s::c,a,h,hq=>by
   rw[uT,mem_cons]at hq;rcases hq with rfl|hq;.exact⟨[],s::c,rfl,rfl,h⟩
   . obtain⟨v,e,t,u⟩:=h;have:vG ws s=too v s.2:=by unfold vG;rw[e]
     rw[this]at hq;obtain⟨c1,c2,rfl,h1,y⟩:=yP u hq;exact⟨s::c1,c2,rfl,⟨v,e,t,h1⟩,y⟩
theorem xR{ws:List Wy}{b:Int}:∀{c:List aq}{a:Int},gq ws b c a->¬(uT ws c a).Nodup->∃c1 c2 c3 q,c=c1++(c2++c3)/\0<c2.length/\gq ws q c1 a/\gq ws q c2 q/\gq ws b c3 q
 |[],a,_,h=>absurd (by simp[uT]) h|s::c,a,⟨v,e,u,y⟩,h=>by
   have B:vG ws s=too v s.2:=by unfold vG;rw[e]
   rw[uT,B,nodup_cons]at h;by_cases A:a∈uT ws c (too v s.2);.obtain⟨c1,c2,rfl,h1,t⟩:=yP y A;exact⟨[],s::c1,c2,a,rfl,by simp,rfl,⟨v,e,u,h1⟩,t⟩
   .obtain⟨c1,c2,c3,q,rfl,h0,h1,t,C⟩:=xR y λz=>h ⟨A,z⟩;exact⟨s::c1,c2,c3,q,rfl,h0,⟨v,e,u,h1⟩,t,C⟩
def Le(h:Int)(n:Nat)(h':Int)(e:Nat):Prop:=h<h'\/(h=h'/\n<=e)
theorem Le.refl{h:Int}:Le h n h n:=.inr ⟨rfl,cL⟩
theorem Le.trans{c:Int}{k:Nat}(h1:Le a k b l)(e:Le b l c n):Le a k c n:=by unfold Le at*;omega
theorem Le.add{k:Nat}(x:Int)(h1:Le a k b l):Le (a+x) (k+1) (b+x) (l+1):=by unfold Le at*;omega
theorem short{fs:List Int}(A:HN m ws)(h:Pt ws fs F)(B:0<=a/\a<m):∀(n:Nat){c:List aq},c.length<=n->gq ws b c a->pN ws fs c->∃e,gq ws b e a/\pN ws fs e/\e.length<=6/\Le (bD ws e) e.length (bD ws c) c.length/\(uT ws e a).Nodup:=by
 intro n;have done:∀{c:List aq},gq ws b c a->(uT ws c a).Nodup->c.length<=6:=λt u=>by have:=six A.m1 u (Ep A t B);rw[yR]at this;omega
 induction n with|zero=>intro c hc t ho;have:c=[]:=List.eq_nil_of_length_eq_zero (by omega);subst this;exact⟨[],t,ho,by simp,.refl,by simp[uT]⟩|succ n C=>
   intro c hc t ho;by_cases u:(uT ws c a).Nodup;.exact⟨c,t,ho,done t u,.refl,u⟩
   .obtain⟨c1,c2,c3,q,rfl,h0,h1,E,G⟩:=xR t u;have y:pN ws fs c2:=λs hs=>ho s (by simp[hs]);have hr:=kY h E y;simp only[length_append]at hc;obtain⟨e,H,I,J,L,M⟩:=C (c:=c1++c3) (by simp only[length_append];omega) (gq.app G h1) λs hs=>ho s (by rcases mem_append.mp hs with hs|hs<;>simp[hs]);refine⟨e,H,I,J,L.trans ?_,M⟩;rw[iU,iU,iU];simp only[length_append];unfold Le;omega
structure zT(m:Int)(ws:List Wy)(fs:List Int)(bs:List (Int×Int))(es:List En):Prop where
 nd:(es.map (·.1)).Nodup
 Wa:∀p l o,(p,l,o)∈es->0<=p/\p<m
 z:(0,0,(none,0))∈es
 wk:∀p l o,(p,l,o)∈es->∃a b c,(a,b)∈bs/\gq ws p c a/\pN ws fs c/\c.length=l/\b+bD ws c=o.2
 stp:∀p l o,(p,l,o)∈es->(o.1=none/\(p,o.2)∈bs/\l=0)\/∃(s:aq)(v:Wy)(l':Nat)(o':Option aq×Int),o.1=some s/\ws[s.1]?=some v/\too v s.2=p/\iJ ws fs (frm v s.2) s=true/\(frm v s.2,l',o')∈es/\Le (o'.2+hsp v s.2) (l'+1) o.2 l
theorem zT.len{fs:List Int}{bs:List (Int×Int)}(h:zT m ws fs bs es)(m1:m<=7):es.length<=7:=by
 have:=six m1 h.nd λp e=>by obtain⟨⟨p,l,o⟩,he,rfl⟩:=mem_map.mp e;exact h.Wa p l o he
 simpa using this
theorem gZ{l:List En}{a b:Nat}{u:Option aq×Int}(e:(l.map (·.1)).Nodup)(h1:(p,a,o)∈l)(h:(p,b,u)∈l):a=b/\o=u:=by have:=qN e h1 h;cases this;exact⟨rfl,rfl⟩
def At(es:List En)(p h:Int)(n:Nat):Prop:=∃l o,(p,l,o)∈es/\Le o.2 l h n
theorem At.le{h h':Int}{e:Nat}(a:At es p h n)(z:Le h n h' e):At es p h' e:=by obtain⟨l,o,h1,t⟩:=a;exact⟨l,o,h1,t.trans z⟩
structure Wh(m:Int)(ws:List Wy)(fs:List Int)(bs:List (Int×Int))(n:Nat)(R:List Int)(es:List En):Prop where
 cm:zT m ws fs bs es
 row:∀p∈R,∃l o,(p,l,o)∈es
 nr:R.Nodup
 wl:∀a b c p,(a,b)∈bs->gq ws p c a->pN ws fs c->c.length<=n->At es p (b+bD ws c) c.length
 cl:∀l o(s:aq)v,ws[s.1]?=some v->frm v s.2∉R->(frm v s.2,l,o)∈es->iJ ws fs (frm v s.2) s=true->At es (too v s.2) (o.2+hsp v s.2) (l+1)few:7<=n->R=[]
structure In(m:Int)(ws:List Wy)(fs:List Int)(bs:List (Int×Int))(n:Nat)(R:List Int)(qJ:List En)(K:aq->Prop)(es:List En)(ch:List Int):Prop where
 wh:Wh m ws fs bs n R qJ
 cm:zT m ws fs bs es
 le:∀p l o,(p,l,o)∈qJ->At es p o.2 l
 out:∀p l o,p∉ch->(p,l,o)∈es->(p,l,o)∈qJ
 chg:∀p∈ch,∃l o,(p,l,o)∈es
 nc:ch.Nodup
 dn:∀s,K s->∀v,ws[s.1]?=some v->∀l o,(frm v s.2,l,o)∈qJ->At es (too v s.2) (o.2+hsp v s.2) (l+1)few:6<=n->ch=[]
theorem In.row{m:Int}{ws:List Wy}{fs:List Int}{bs:List (Int×Int)}{n:Nat}{R:List Int}{qJ:List En}{K:aq->Prop}{es:List En}{ch:List Int}(h:In m ws fs bs n R qJ K es ch){p:Int}(e:p∈R):∃l o,(p,l,o)∈es:=by obtain⟨l,o,z⟩:=h.wh.row p e;obtain⟨l,o,z,_⟩:=h.le _ _ _ z;exact⟨l,o,z⟩
theorem In.keep{fs:List Int}{bs:List (Int×Int)}{R:List Int}{K:aq->Prop}(h:In m ws fs bs n R qJ K es ch)(e:ws[s.1]?=some v)(A:(frm v s.2,l,o)∈es)(B:At es (too v s.2) (o.2+hsp v s.2) (l+1)):In m ws fs bs n R qJ (λu=>K u\/u=s) es ch:=by
 refine⟨h.wh,h.cm,h.le,h.out,h.chg,h.nc,λu t=>?_,h.few⟩;rcases t with t|rfl;.exact h.dn u t
 .intro G y H I h0;rw[e]at y;cases y;obtain⟨J,L,C,E⟩:=h.le _ _ _ h0;obtain⟨rfl,rfl⟩:=gZ h.cm.nd A C;exact B.le (E.add _)
theorem In.put{fs:List Int}{bs:List (Int×Int)}{R:List Int}{K:aq->Prop}(h:In m ws fs bs n R qJ K es ch)(L:HN m ws)(hF:Pt ws fs F)(hb:∀a b,(a,b)∈bs->0<=a/\a<m)(hZ:∀a b c,(a,b)∈bs->gq ws 0 c a->pN ws fs c->0<=b+bD ws c)(e:ws[s.1]?=some v)(M:(frm v s.2,l,o)∈es)(ho:iJ ws fs (frm v s.2) s=true)(O:¬ At es (too v s.2) (o.2+hsp v s.2) (l+1)):In m ws fs bs n R qJ (λu=>K u\/u=s) (mq es (too v s.2) (l+1,(some s,o.2+hsp v s.2))) (nQ ch (too v s.2)):=by
 have m0:=L.m0;obtain⟨E,b0,c,c0,c1,c2,c3,c4⟩:=h.cm.wk _ _ _ M;have H:gq ws (too v s.2) (c++[s]) E:=gq.app (c2:=[s]) ⟨v,e,rfl,rfl⟩ c1;have U:pN ws fs (c++[s]):=λu hu=>by
  rcases mem_append.mp hu with hu|hu;.exact c2 u hu
  .rw[mem_singleton.mp hu];exact⟨v,e,ho⟩
 have w3:(c++[s]).length=l+1:=by simp[c3]
 have W:b0+bD ws (c++[s])=o.2+hsp v s.2:=by rw[iU,<-c4,bD,bD,fY e];omega
 have A:(too v s.2,l+1,(some s,o.2+hsp v s.2))∈mq es (too v s.2) (l+1,(some s,o.2+hsp v s.2)):=eY.mpr (.inl ⟨rfl,rfl⟩);have mono:∀{q l2 t},(q,l2,t)∈es->At (mq es (too v s.2) (l+1,(some s,o.2+hsp v s.2))) q t.2 l2:=λ{q l2 t}z=>by
  by_cases c:q=too v s.2;.subst c;refine⟨_,_,A,?_⟩;have:¬ Le t.2 l2 (o.2+hsp v s.2) (l+1):=λy=>O ⟨_,_,z,y⟩;unfold Le at this ⊢;simp only;omega
  .exact⟨l2,t,eY.mpr (.inr ⟨c,z⟩),.refl⟩
 have K4:∀{q h n},At es q h n->At (mq es (too v s.2) (l+1,(some s,o.2+hsp v s.2))) q h n:=λ⟨l2,t,G,X⟩=>(mono G).le X;refine⟨h.wh,⟨by rw[Ak];exact ym h.cm.nd,λp l o z=>?_,?_,λp l2 t z=>?_,λp l2 t z=>?_⟩,λp l o z=>K4 (h.le p l o z),λp l o hc z=>?_,λp hc=>?_,ym h.nc,λu hu=>?_,λh5=>?_⟩
 . rcases eY.mp z with⟨rfl,_⟩|⟨_,z⟩;.exact BZ L e s.2
   .exact h.cm.Wa p l o z
 .refine eY.mpr (.inr ⟨λz=>O ?_,h.cm.z⟩);have:=hZ E b0 _ c0 (by rw[<-z]at H;exact H) U;rw[W]at this;rw[<-z];exact⟨_,_,h.cm.z,by unfold Le;simp only;omega⟩
 . rcases eY.mp z with⟨rfl,y⟩|⟨_,z⟩;.cases y;exact⟨E,b0,_,c0,H,U,w3,W⟩
   .exact h.cm.wk p l2 t z
 . rcases eY.mp z with⟨rfl,y⟩|⟨_,z⟩;.cases y;obtain⟨l',o',B,C⟩:=mono M;exact .inr ⟨s,v,l',o',rfl,e,rfl,ho,B,C.add _⟩
   . rcases h.cm.stp p l2 t z with z|⟨s',I,l',o',G,z3,z4,z5,z6,z7⟩;.exact .inl z
     .obtain⟨Y,Z,B,C⟩:=mono z6;exact .inr ⟨s',I,Y,Z,G,z3,z4,z5,B,(C.add _).trans z7⟩
 . rw[uG,not_or]at hc;rcases eY.mp z with⟨rfl,_⟩|⟨_,z⟩;.exact absurd rfl hc.2
   .exact h.out p l o hc.1 z
 . rcases uG.mp hc with hc|rfl;.obtain⟨l2,t,z⟩:=h.chg p hc;obtain⟨Y,Z,z,_⟩:=mono z;exact⟨Y,Z,z⟩
   .exact⟨_,_,A⟩
 . rcases hu with hu|rfl;.exact λI J l0 o0 h0=>K4 (h.dn u hu I J l0 o0 h0)
   .intro I J l0 o0 h0;rw[e]at J;cases J;obtain⟨l1,o1,B,C⟩:=h.le _ _ _ h0;obtain⟨rfl,rfl⟩:=gZ h.cm.nd M B;exact⟨_,_,A,C.add _⟩
 .obtain⟨c',B,C,q3,q4,_⟩:=short L hF (hb E b0 c0) _ (cL) H U;obtain⟨l1,o1,G,X⟩:=h.wh.wl E b0 c' _ c0 B C (by omega);rw[w3]at q4;refine absurd ((h.le _ _ _ G).le (X.trans ?_)) O;rw[<-W];unfold Le at q4 ⊢;omega
def bE(p:Int×Int):En:=(p.1,0,(none,p.2))
theorem Wh.start{fs:List Int}{bs:List (Int×Int)}(A:∀a b,(a,b)∈bs->0<=a/\a<m)(h0:(0,0)∈bs)(y:(bs.map (·.1)).Nodup):Wh m ws fs bs 0 (bs.map (·.1)) (bs.map bE):=by
 have B:(bs.map bE).map (·.1)=bs.map (·.1):=by rw[map_map];rfl
 have un:∀{p l o},(p,l,o)∈bs.map bE->l=0/\o.1=none/\(p,o.2)∈bs:=λ{p l o}z=>by obtain⟨⟨a,b⟩,h1,e⟩:=mem_map.mp z;cases e;exact⟨rfl,rfl,h1⟩
 have to:∀{a b},(a,b)∈bs->(a,0,(none,b))∈bs.map bE:=λh=>mem_map.mpr ⟨_,h,rfl⟩;refine⟨⟨by rw[B];exact y,λp l o z=>A _ _ (un z).2.2,to h0,λp l o z=>?_,λp l o z=>.inl ⟨(un z).2.1,(un z).2.2,(un z).1⟩⟩,λp t=>?_,y,λa b c p u t _ hc=>?_,λl o s v _ C z=>?_,λh=>by omega⟩;.exact⟨p,o.2,[],(un z).2.2,rfl,λs hs=>(by cases hs),(un z).1.symm,by rw[bD];omega⟩
 .obtain⟨⟨a,b⟩,h1,rfl⟩:=mem_map.mp t;exact⟨_,_,to h1⟩
 .cases c with|nil=>have:a=p:=t;subst this;exact⟨0,(none,b),to u,by unfold Le bD;simp⟩|cons _ _=>simp at hc
 .exact absurd (mem_map.mpr ⟨_,(un z).2.2,rfl⟩) C
theorem Wh.to{fs:List Int}{bs:List (Int×Int)}{R:List Int}(h:Wh m ws fs bs n R es):In m ws fs bs n R es (λ_=>False) es []:=⟨h,h.cm,λp l o z=>⟨l,o,z,.refl⟩,λp l o _ z=>z,λp e=>(by cases e),.nil,λs hs=>hs.elim,λ_=>rfl⟩
theorem In.out'{fs:List Int}{bs:List (Int×Int)}{R:List Int}(h:In m ws fs bs n R qJ (λs=>∃p∈R,iJ ws fs p s=true) es ch):Wh m ws fs bs (n+1) ch es:=by
 have t:∀{p h' k},At qJ p h' k->At es p h' k:=λ⟨l,o,A,B⟩=>(h.le _ _ _ A).le B;have G:∀(s:aq)v l o,ws[s.1]?=some v->(frm v s.2,l,o)∈qJ->iJ ws fs (frm v s.2) s=true->At es (too v s.2) (o.2+hsp v s.2) (l+1):=λs v l o e z ho=>by
  by_cases c:frm v s.2∈R;.exact h.dn s ⟨_,c,ho⟩ v e l o z
  .exact t (h.wh.cl l o s v e c z ho)
 refine⟨h.cm,h.chg,h.nc,λa b c p y H ho hc=>?_,λl o s v e hc z hs=>G s v l o e (h.out _ _ _ hc z) hs,λO=>h.few (by omega)⟩;rcases List.eq_nil_or_concat c with rfl|⟨C,s,rfl⟩;.exact t (h.wh.wl a b [] p y H ho (rK))
 . rw[List.concat_eq_append]at*;obtain⟨q,h1,v,e,rfl,E⟩:=yj H;have E:too v s.2=p:=E;subst E;obtain⟨U,I,J⟩:=ho s (by simp);rw[e]at I;cases I;simp only[length_append,length_cons,length_nil]at hc;obtain⟨l,o,A,B⟩:=h.wh.wl a b C _ y h1 (λu L=>ho u (by simp[L])) (by omega);refine(G s v l o e A J).le ?_;have:=B.add (hsp v s.2);have M:bD ws (C++[s])=bD ws C+hsp v s.2:=by rw[iU,bD,bD,fY e];omega
   rw[M,<-Int.add_assoc];simpa using this
structure Cy(m:Int)(ws:List Wy)(fs:List Int)(bs:List (Int×Int))(es:List En):Prop where
 cm:zT m ws fs bs es
 cl:∀l o(s:aq)v,ws[s.1]?=some v->(frm v s.2,l,o)∈es->iJ ws fs (frm v s.2) s=true->At es (too v s.2) (o.2+hsp v s.2) (l+1)bg:∀a b,(a,b)∈bs->At es a b 0
theorem Wh.fin{fs:List Int}{bs:List (Int×Int)}(h:Wh m ws fs bs n [] es):Cy m ws fs bs es:=⟨h.cm,λl o s v e z ho=>h.cl l o s v e (by simp) z ho,λa b t=>by have:=h.wl a b [] a t rfl (λs hs=>by cases hs) (rK);simpa[bD]using this⟩
abbrev Cme(m:Int)(ws:List Wy)(fs:List Int)(es:List En):Prop:=zT m ws fs [(0,0)] es
abbrev gH(m:Int)(ws:List Wy)(fs:List Int)(es:List En):Prop:=Cy m ws fs [(0,0)] es
theorem In.imp{fs:List Int}{bs:List (Int×Int)}{R:List Int}{K e:aq->Prop}(h:In m ws fs bs n R qJ K es ch)(z:∀s,e s->K s):In m ws fs bs n R qJ e es ch:=⟨h.wh,h.cm,h.le,h.out,h.chg,h.nc,λs hs=>h.dn s (z s hs),h.few⟩
theorem Nv{fs:List Int}{l:List aq}(e:0<=p/\p<m):at' ((rD (gV ws fs m.toNat l)).map D.lst) p=some (.lst ((l.filter (iJ ws fs p)).map sD)):=by rw[oH e.1 (by simp[rD,gV];omega)];simp[rD,gV,show p.toNat<m.toNat by omega,toNat_of_nonneg e.1]
@[simp]theorem cut3{a b c:D}:JQ (.tup [a,b,c]) (part (.con .non) .non) (part (.con (.int 2)) (.int 2))=some (.val (.tup [a,b])):=rfl
theorem Np{j:Int}:cm .lt (.tup [.int a,.int i]) (.tup [.int b,.int j])=some (aY [a,i] [b,j]):=rfl
theorem lex_lt{i:Nat}:aY [a,(i:Int)] [b,(j:Int)]=true↔¬ Le b j a i:=by unfold Le;simp[aY];omega
def vD(bs:List (Int×Int)):Sl:=.val false (.dv (bs.map (·.1)) (bs.map λp=>.int p.2))
abbrev bg:Sl:=vD [(0,0)]
inductive JC2(m:Int)(ws:List Wy)(fs:List Int)(bs:List (Int×Int))(a0 a1 a2 a3 a6:Sl)(n:Nat)(R:List Int)(qJ:List En)(pre:List Int)(p:Int)(r:List D)(ρ:List Sl):Prop where|mk(es:List En)(ch:List Int)(bJ us:List aq)(s8 s9 jb:Sl)(q0:ρ=[a0,a1,a2,a3,.cA (es.map en),.val false (.int p),a6,.cA (ch.map vJ),s8,s9,jb])(q1:A3 (fr s8=true) (fr s9=true) (fr jb=true))(q2:r=us.map sD)(q3:bJ++us=(fV ws.length).filter (iJ ws fs p))(q4:In m ws fs bs n R qJ (λs=>(∃q∈pre,iJ ws fs q s=true)\/s∈bJ) es ch)
inductive JC1(m:Int)(ws:List Wy)(fs:List Int)(bs:List (Int×Int))(a0 a1 a2 a3 a6:Sl)(n:Nat)(R:List Int)(qJ:List En)(r:List D)(ρ:List Sl):Prop where|mk(es:List En)(ch pre qs:List Int)(s5 s8 s9 jb:Sl)(q0:ρ=[a0,a1,a2,a3,.cA (es.map en),s5,a6,.cA (ch.map vJ),s8,s9,jb])(q1:A4 (fr s5=true) (fr s8=true) (fr s9=true) (fr jb=true))(q2:r=qs.map D.int)(q3:pre++qs=R)(q4:In m ws fs bs n R qJ (λs=>∃q∈pre,iJ ws fs q s=true) es ch)
inductive JCw(m:Int)(ws:List Wy)(fs:List Int)(bs:List (Int×Int))(a0 a1 a2 a3:Sl)(M:Nat)(ρ:List Sl):Prop where|mk(n:Nat)(R:List Int)(es:List En)(s5 s7 s8 s9 jb:Sl)(q0:ρ=[a0,a1,a2,a3,.cA (es.map en),s5,.own false (R.map D.int),s7,s8,s9,jb])(q1:A4 (fr s5=true) (fr s8=true) (fr s9=true) (fr jb=true))(q2:(s7=.aP\/∃d,s7=.val false d))(q3:Wh m ws fs bs n R es)(q4:8<=n+M)
inductive JC0(a0 a1 a2 a3:Sl)(bs:List (Int×Int))(r:List D)(ρ:List Sl):Prop where|mk(bJ us:List (Int×Int))(s5:Sl)(q0:ρ=[a0,a1,a2,a3,.cA ((bJ.map bE).map en),s5,.aP,.aP,.aP,.aP,.aP])(q1:fr s5=true)(q2:r=(us.map (·.1)).map D.int)(q3:bJ++us=bs)
theorem xH{a b:Int}:∀{bs:List (Int×Int)},(bs.map (·.1)).Nodup->(a,b)∈bs->jr ((bs.map (·.1)).zip (bs.map λp=>D.int p.2)) a=some (.int b)
 |[],_,h=>by cases h|p::bs,e,h=>by
   rw[map_cons,nodup_cons]at e;unfold jr;rw[map_cons,map_cons,List.zip_cons_cons,find?_cons];rcases mem_cons.mp h with h|h;.subst h;simp
   .have t:p.1≠a:=λz=>e.1 (by rw[z];exact mem_map.mpr ⟨_,h,rfl⟩);have:=xH e.2 h;unfold jr at this;simpa[t]using this
theorem zO{s:Sl}{fs:List Int}{bs:List (Int×Int)}(hw:100<=w)(hF:Pt ws fs F)(hb:∀a b,(a,b)∈bs->0<=a/\a<m)(h0:(0,0)∈bs)(J:(bs.map (·.1)).Nodup)(hZ:∀a b c,(a,b)∈bs->gq ws 0 c a->pN ws fs c->0<=b+bD ws c)(hs:Vv s fs)(h:HN m ws)(hf:fs.length=ws.length)(k:∀es,Cy m ws fs bs es->Q (.val (jT es)) [.val false (bw m ws),s,vD bs]):(run Γ w (n+3) 5 [.val false (bw m ws),s,vD bs]).sat Q:=by
 have hn:=h.len;have m0:=h.m0;have m1:=h.m1;refine aU (d:=f5) rfl rfl (by decide) ?_;refine cu (λρ=>ρ=[.val false (bw m ws),s,vD bs,.val false (.lst ((rD (gV ws fs m.toNat (fV ws.length))).map D.lst)),.aP,.aP,.aP,.aP,.aP,.aP,.aP]) ?_ ?_;.have ap:=hs;rcases hs with rfl|⟨b,rfl⟩;all_goals simp[f5,vD];refine Fq (by first|exact .inl rfl|exact .inr ⟨_,rfl⟩) h hf ?_;simp
 rintro _ rfl;generalize hA:((rD (gV ws fs m.toNat (fV ws.length))).map D.lst)=A;have ar:bs.length<=7:=by
  have:=six m1 J λp hp=>by obtain⟨⟨a,b⟩,h1,rfl⟩:=mem_map.mp hp;exact hb a b h1
  simpa using this
 apply ak;simp;apply ak;simp[vD];refine bM (JC0 (.val false (bw m ws)) s (vD bs) (.val false (.lst A)) bs) ?_ ?_ ⟨[],bs,.aP,rfl,rfl,by rw[map_map],rfl⟩;.rintro d r _⟨G,C,s5,rfl,U,hr,hd⟩;cases C with|nil=>cases hr|cons u C=>
     obtain⟨rfl,rfl⟩:d=.int u.1/\r=(C.map (·.1)).map D.int:=by simpa using hr
     have ag:(G++[u])++C=bs:=by rw[append_assoc];exact hd
     have hg:=xH (a:=u.1) (b:=u.2) J (by rw[<-hd];simp);have hk:pg ((G.map bE).map en) u.1=false:=kin_no λ⟨l,o,z⟩=>by obtain⟨⟨a,b⟩,h1,e⟩:=mem_map.mp z;cases e;rw[<-hd,map_append,nodup_append]at J;exact J.2.2 u.1 (mem_map.mpr ⟨_,h1,rfl⟩) u.1 (by simp) rfl
     have hp:fj ((G.map bE).map en) u.1 (.tup [.int u.2,.int 0,.non])=((G++[u]).map bE).map en:=by rw[oX hk,map_append,map_append];rfl
     have av:G.length<=bs.length:=by rw[<-hd];simp
     simp[U];apply ak;rw[map_map]at hp;simp[vD,hg];refine⟨λ_=>⟨G++[u],C,.val false (.int u.1),by rw[hp],rfl,(map_map ..).symm,ag⟩,by show _<16777216;omega⟩
 rintro _⟨G,C,s5,rfl,U,hr,hd⟩;have:C=[]:=by cases C with|nil=>rfl|cons _ _=>cases hr
 subst this;rw[append_nil]at hd;obtain rfl:bs=G:=hd.symm;simp;apply ak;simp[vD,show bs.length<=16777216 by omega];apply ak;simp;rw[show map (en ∘ bE) bs=(bs.map bE).map en from(map_map ..).symm,show map (D.int ∘ λx=>x.1) bs=(bs.map (·.1)).map D.int from(map_map ..).symm];refine ik (JCw m ws fs bs _ _ _ _) ?_ (k:=w) (m:=50) (by omega) ⟨0,bs.map (·.1),bs.map bE,s5,.aP,.aP,.aP,.aP,rfl,⟨U,rfl,rfl,rfl⟩,.inl rfl,Wh.start hb h0 J,by omega⟩;rintro M _⟨n',R,es,s5,s7,s8,s9,jb,rfl,⟨U,W,X,E⟩,h7,hW,hM⟩;by_cases hR:R=[];.subst hR;simp;apply ak;simp;have:=k es hW.fin;simp[Function.comp_def,en];exact this
 . have ah:0<R.length:=by cases R with|nil=>exact absurd rfl hR|cons _ _=>simp
   simp[ah];refine cu (λρ=>ρ=[.val false (bw m ws),s,vD bs,.val false (.lst A),.cA (es.map en),s5,.own false (R.map D.int),.cA [],s8,s9,jb]) ?_ ?_
   . rcases h7 with rfl|⟨d,rfl⟩;.simp[vD]
     .simp[vD]
   rintro _ rfl;symm;simp;refine bM (JC1 m ws fs bs _ _ _ _ _ n' R es) ?_ ?_ ⟨es,[],[],R,s5,s8,s9,jb,rfl,⟨U,W,X,E⟩,rfl,rfl,hW.to.imp λs hs=>by obtain⟨q,hq,_⟩:=hs;cases hq⟩;.rintro d r _⟨t,ch,pre,qs,s5,s8,s9,jb,rfl,⟨U,W,X,E⟩,hr,L,B⟩;cases qs with|nil=>cases hr|cons p qs=>
       obtain⟨rfl,rfl⟩:d=.int p/\r=qs.map D.int:=by simpa using hr
       have af:p∈R:=by rw[<-L];simp
       have ai:0<=p/\p<m:=by obtain⟨l,o,ho⟩:=B.row af;exact B.cm.Wa _ _ _ ho
       have Z:=Nv (ws:=ws) (fs:=fs) (l:=fV ws.length) ai;rw[hA]at Z;simp[U];apply ak;simp[Z];refine bM (JC2 m ws fs bs _ _ _ _ _ n' R es pre p) ?_ ?_ ⟨t,ch,[],_,s8,s9,jb,rfl,⟨W,X,E⟩,rfl,rfl,B.imp λs hs=>by rcases hs with hs|hs;exact hs;cases hs⟩;.rintro d r _⟨t,ch,G,C,s8,s9,jb,rfl,⟨W,X,E⟩,hr,O,B⟩;cases C with|nil=>cases hr|cons u C=>
           obtain⟨rfl,rfl⟩:d=sD u/\r=C.map sD:=by simpa using hr
           have hu:iJ ws fs p u=true:=by
            have:u∈(fV ws.length).filter (iJ ws fs p):=by rw[<-O];simp
            exact(List.mem_filter.mp this).2
           obtain⟨v,g,e1,e2,e3,e4⟩:=nj hu;have Wb:(G++[u])++C=(fV ws.length).filter (iJ ws fs p):=by rw[append_assoc];exact O
           obtain⟨I,op,ac⟩:=B.row af;subst e3;have gp:=mJ B.cm.nd ac;have am:=B.cm.len m1;have al:ch.length<=7:=six m1 B.nc λq hq=>by obtain⟨l,o,z⟩:=B.chg q hq;exact B.cm.Wa _ _ _ z
           have Wc:∀s,((∃q∈pre,iJ ws fs q s=true)\/s∈G++[u])->((∃q∈pre,iJ ws fs q s=true)\/s∈G)\/s=u:=λs hs=>by
            rcases hs with hs|hs;.exact .inl (.inl hs)
            . rcases mem_append.mp hs with hs|hs;.exact .inl (.inr hs)
              .exact .inr (by simpa using hs)
           simp[W];apply ak;simp[sD];refine ju e1 ?_;simp[X];apply ak;simp[gp,yu];refine pP e1 ?_;simp[gp,yu,E];apply ak;have keep:At t (too v u.2) (op.2+hsp v u.2) (I+1)->JC2 m ws fs bs (.val false (bw m ws)) s (vD bs) (.val false (.lst A)) (.lent (R.map D.int)) n' R es pre (frm v u.2) (C.map sD) [.val false (bw m ws),s,vD bs,.val false (.lst A),.cA (t.map en),.val false (.int (frm v u.2)),.lent (R.map D.int),.cA (ch.map vJ),.val false (dD u.1 u.2),.val false (.int (too v u.2)),.val false (.tup [.int (op.2+hsp v u.2),.int ((I:Int)+1)])]:=λH=>⟨t,ch,G++[u],C,_,_,_,rfl,⟨rfl,rfl,rfl⟩,rfl,Wb,(B.keep e1 ac H).imp Wc⟩;have Wd:¬ At t (too v u.2) (op.2+hsp v u.2) (I+1)->JC2 m ws fs bs (.val false (bw m ws)) s (vD bs) (.val false (.lst A)) (.lent (R.map D.int)) n' R es pre (frm v u.2) (C.map sD) [.val false (bw m ws),s,vD bs,.val false (.lst A),.cA ((mq t (too v u.2) (I+1,(some u,op.2+hsp v u.2))).map en),.val false (.int (frm v u.2)),.lent (R.map D.int),.cA ((nQ ch (too v u.2)).map vJ),.val false (dD u.1 u.2),.val false (.int (too v u.2)),.val false (.tup [.int (op.2+hsp v u.2),.int ((I:Int)+1)])]:=λH=>⟨_,_,G++[u],C,_,_,_,rfl,⟨rfl,rfl,rfl⟩,rfl,Wb,(B.put h hF hb hZ e1 ac hu H).imp Wc⟩;have p1:fj (t.map en) (too v u.2) (.tup [.int (op.2+hsp v u.2),.int ((I:Int)+1),dD u.1 u.2])=(mq t (too v u.2) (I+1,(some u,op.2+hsp v u.2))).map en:=by rw[<-Hd];simp[yu,oS,sD]
           have p2:fj (ch.map vJ) (too v u.2) (.bl true)=(nQ ch (too v u.2)).map vJ:=IV;by_cases hq:∃l o,(too v u.2,l,o)∈t
           . obtain⟨l,o,Y⟩:=hq;have gt:=mJ B.cm.nd Y;have kt:pg (t.map en) (too v u.2)=true:=v5.mpr ⟨l,o,Y⟩;have ae:=lex_lt (a:=op.2+hsp v u.2) (i:=I+1) (b:=o.2) (j:=l);rw[show((I+1:Nat):Int)=(I:Int)+1 by omega]at ae;simp[kt,gt,yu,Np];refine⟨λz=>?_,λz=>?_⟩
             . have H:¬ At t (too v u.2) (op.2+hsp v u.2) (I+1):=λ⟨l2,o2,y1,y2⟩=>by obtain⟨rfl,rfl⟩:=gZ B.cm.nd Y y1;exact ae.mp z y2
               symm;simp[p1];refine⟨by decide,λ_=>?_,by show _<16777216;omega⟩;symm;simp[p2];refine⟨λ_=>Wd H,by show _<16777216;omega⟩
             . have H:At t (too v u.2) (op.2+hsp v u.2) (I+1):=by
                refine⟨l,o,Y,?_⟩;by_cases y:Le o.2 l (op.2+hsp v u.2) (I+1);.exact y
                .rw[ae.mpr y]at z;cases z
               exact keep H
           .have kt:pg (t.map en) (too v u.2)=false:=kin_no hq;simp[kt];apply ak;simp[p1];refine⟨by decide,λ_=>?_,by show _<16777216;omega⟩;symm;simp[p2];exact⟨λ_=>Wd λ⟨l2,o2,y1,_⟩=>hq ⟨l2,o2,y1⟩,by show _<16777216;omega⟩
       . rintro _⟨t,ch,G,C,s8,s9,jb,rfl,⟨W,X,E⟩,hr,O,B⟩;have:C=[]:=by cases C with|nil=>rfl|cons _ _=>cases hr
         subst this;rw[append_nil]at O;simp;refine⟨t,ch,pre++[p],qs,_,_,_,_,rfl,⟨rfl,W,X,E⟩,rfl,by rw[append_assoc];exact L,B.imp λs hs=>?_⟩;obtain⟨q,hq,hs⟩:=hs;rcases mem_append.mp hq with hq|hq;.exact .inl ⟨q,hq,hs⟩
         . obtain rfl:q=p:=by simpa using hq
           refine .inr ?_;rw[O];obtain⟨v,g,e1,_⟩:=nj hs;exact List.mem_filter.mpr ⟨uo (dw e1).1,hs⟩
   . rintro _⟨t,ch,pre,qs,s5,s8,s9,jb,rfl,⟨U,W,X,E⟩,hr,L,B⟩;have:qs=[]:=by cases qs with|nil=>rfl|cons _ _=>cases hr
     subst this;rw[append_nil]at L;subst L;have al:ch.length<=7:=six m1 B.nc λq hq=>by obtain⟨l,o,z⟩:=B.chg q hq;exact B.cm.Wa _ _ _ z
     have hO:=B.out';have aw:n'<7:=by
      by_cases c:7<=n';.exact absurd (hW.few c) hR
      .omega
     simp;apply ak;simp[show ch.length<=16777216 by omega];exact⟨M-1,by omega,n'+1,ch,t,_,_,_,_,_,rfl,⟨U,W,X,E⟩,.inr ⟨_,rfl⟩,hO,by omega⟩
theorem uB{s:Sl}{fs:List Int}(u:100<=w)(t:Pt ws fs F)(hs:Vv s fs)(h:HN m ws)(y:fs.length=ws.length)(k:∀es,gH m ws fs es->Q (.val (jT es)) [.val false (bw m ws),s,bg]):(run Γ w (n+3) 5 [.val false (bw m ws),s,bg]).sat Q:=by
 have m0:=h.m0;have one:∀{a b:Int},(a,b)∈[((0:Int),(0:Int))]->a=0/\b=0:=λe=>by have:=mem_singleton.mp e;cases this;exact⟨rfl,rfl⟩
 refine zO u t (λa b e=>by obtain⟨rfl,rfl⟩:=one e;omega) (by simp) (by simp) (λa b c e A ho=>?_) hs h y k;obtain⟨rfl,rfl⟩:=one e;have:=kY t A ho;omega
theorem gH.all{m:Int}{ws:List Wy}{fs:List Int}{es:List En}(h:gH m ws fs es){b:Int}:∀{c:List aq}{a:Int}{l:Nat}{o:Option aq×Int},gq ws b c a->pN ws fs c->(a,l,o)∈es->At es b (o.2+bD ws c) (l+c.length)|[],a,l,o,t,_,z=>by have:a=b:=t;subst this;exact⟨l,o,z,by unfold Le bD;simp⟩|s::c,a,l,o,⟨v,e,A,t⟩,ho,z=>by subst A;obtain⟨J,y,B⟩:=ho s (by simp);rw[e]at y;cases y;obtain⟨L,M,C,O⟩:=h.cl l o s v e z B;obtain⟨l2,E,G,H⟩:=gH.all h t (λu I=>ho u (mem_cons_of_mem _ I)) C;refine⟨l2,E,G,H.trans ?_⟩;rw[bD,fY e,length_cons];unfold Le at*;omega
theorem gH.l5{fs:List Int}(h:gH m ws fs es)(t:HN m ws)(u:Pt ws fs F)(z:(p,l,o)∈es):l<=6:=by
 have m0:=t.m0;obtain⟨a,b,c,e,c1,c2,c3,c4⟩:=h.cm.wk p l o z;obtain⟨rfl,rfl⟩:a=0/\b=0:=by have:=mem_singleton.mp e;cases this;exact⟨rfl,rfl⟩
 obtain⟨G,y,A,H,B,_⟩:=short t u ⟨by omega,by omega⟩ _ (cL) c1 c2;obtain⟨l2,I,C,E⟩:=h.all y A h.cm.z;obtain⟨rfl,rfl⟩:=gZ h.cm.nd z C;rw[Int.zero_add]at c4;rw[c3,c4]at B;unfold Le at*;simp only at E;omega
theorem gH.on{fs:List Int}(h:gH m ws fs es)(z:(p,l,o)∈es):(o=(none,0)/\p=0/\l=0)\/∃(s:aq)(v:Wy)(t:Nat)(e:Option aq×Int),o=(some s,e.2+hsp v s.2)/\l=t+1/\ws[s.1]?=some v/\too v s.2=p/\iJ ws fs (frm v s.2) s=true/\(frm v s.2,t,e)∈es:=by
 rcases h.cm.stp p l o z with⟨h1,u,rfl⟩|⟨s,v,t,e,h1,y,rfl,A,B,E⟩
 . obtain⟨rfl,_⟩:p=0/\o.2=0:=by have:=mem_singleton.mp u;exact⟨congrArg Prod.fst this,congrArg Prod.snd this⟩
   exact .inl ⟨(gZ h.cm.nd z h.cm.z).2,rfl,rfl⟩
 . obtain⟨l2,G,C,H⟩:=h.cl t e s v y B A;obtain⟨rfl,rfl⟩:=gZ h.cm.nd z C;refine .inr ⟨s,v,t,e,?_,?_,y,rfl,A,B⟩;.exact Prod.ext_iff.mpr ⟨h1,by show _=e.2+hsp v s.2;unfold Le at*;omega⟩
   .unfold Le at*;omega
structure Kh(ws:List Wy)(fs:List Int)(es:List En)(p:Int)(L:Nat)(H:Int)(a:Int)(l:Nat)(h:Int)(c:List aq):Prop where
 Gq:gq ws p c a
 gV:pN ws fs c
 nd:(c.map (·.1)).Nodup
 lv:∀s∈c,∀v,ws[s.1]?=some v->∃l1 o1 o2,(frm v s.2,l1,o1)∈es/\(too v s.2,l1+1,o2)∈es/\l<=l1
 len:c.length+l=L
 hrs:bD ws c+h=H
theorem jW{g:Bool}(h:g≠f):frm v g=too v f/\too v g=frm v f:=by cases f<;>cases g<;>first|exact absurd rfl h|exact⟨rfl,rfl⟩
theorem Kh.cons{m:Int}{ws:List Wy}{fs:List Int}{es:List En}{p:Int}{L l:Nat}{H x:Int}{c:List aq}{s:aq}{v:Wy}{o I:Option aq×Int}(hc:Cme m ws fs es)(h:Kh ws fs es p L H (too v s.2) (l+1) (x+hsp v s.2) c)(e:ws[s.1]?=some v)(h1:(too v s.2,l+1,o)∈es)(B:(frm v s.2,l,I)∈es)(ho:iJ ws fs (frm v s.2) s=true):Kh ws fs es p L H (frm v s.2) l x (s::c):=by
 refine⟨⟨v,e,rfl,h.Gq⟩,λu hu=>?_,?_,λu hu x ex=>?_,by have:=h.len;simp only[length_cons];omega,by have:=h.hrs;rw[bD,fY e];omega⟩
 . rcases mem_cons.mp hu with rfl|hu;.exact⟨v,e,ho⟩
   .exact h.gV u hu
 . rw[map_cons,nodup_cons];refine⟨λJ=>?_,h.nd⟩;obtain⟨t,ht,M⟩:=mem_map.mp J;obtain⟨C,E,G,y,A,O⟩:=h.lv t ht v (by rw[M];exact e);by_cases z:t.2=s.2;.rw[z]at y;have:=(gZ hc.nd y B).1;omega
   .rw[(jW z).2]at A;have:=(gZ hc.nd A B).1;omega
 . rcases mem_cons.mp hu with rfl|hu;.rw[e]at ex;cases ex;exact⟨l,_,_,B,h1,cL⟩
   .obtain⟨C,E,G,y,A,O⟩:=h.lv u hu x ex;exact⟨C,E,G,y,A,by omega⟩
theorem Fw(e:(es.map (·.1)).Nodup)(h:(p,x)∈es):jr ((es.map (·.1)).zip (es.map yu)) p=some (yu (p,x)):=by
 have:(es.map (·.1)).zip (es.map yu)=es.map en:=by rw[List.zip_map'];rfl
 rw[this];exact mJ e h
inductive JSt(m:Int)(ws:List Wy)(fs:List Int)(es:List En)(p:Int)(L:Nat)(H:Int)(a0 a1 a2:Sl)(M:Nat)(ρ:List Sl):Prop where|mk(a:Int)(l:Nat)(o:Option aq×Int)(c:List aq)(s5:Sl)(q0:ρ=[a0,a1,a2,.own false (c.reverse.map sD),.val false (.int a),s5])(q1:fr s5=true)(q2:(a,l,o)∈es)(q3:Kh ws fs es p L H a l o.2 c)(q4:l<=M)
theorem Am{L:Nat}{fs:List Int}(H:100<=w)(h:gH m ws fs es)(I:L<=6)(C:(p,L,o)∈es)(k:∀c,Kh ws fs es p L o.2 0 0 0 c->Q (.val (.tup (c.map sD))) [.val false (bw m ws),.val false (jT es),.val false (.int p)]):(run Γ w (n+2) 6 [.val false (bw m ws),.val false (jT es),.val false (.int p)]).sat Q:=by
 refine aU (d:=f6) rfl rfl (by decide) ?_;symm;simp[f6];apply ak;simp;apply ak;simp;refine ik (JSt m ws fs es p L o.2 _ _ _) ?_ (k:=w) (m:=L) (by omega) ⟨p,L,o,[],.aP,rfl,rfl,C,⟨rfl,λs hs=>(by cases hs),by simp,by simp,by simp,by rw[bD];omega⟩,cL⟩;rintro M _⟨a,l,J,c,s5,rfl,E,t,hc,O⟩;have u:=Fw h.cm.nd t;rcases h.on t with⟨rfl,rfl,rfl⟩|⟨s,v,A,G,rfl,rfl,e,rfl,ho,B⟩;.simp[jT,u,yu,oS];symm;simp;exact k c hc
 . simp[jT,u,yu,oS,sD,dD];symm;simp[u,yu,oS,E];apply ak;have y:c.length<16777216:=by have:=hc.len;omega
   simp[y];apply ak;simp[sD];refine ju e ?_;simp;exact⟨A,by omega,frm v s.2,A,G,s::c,.val false (dD s.1 s.2),by simp[jT,sD],rfl,B,hc.cons h.cm e t B ho,cL⟩
def sg(x:Int)(f:Bool):Int:=if f then x else-x
def jE(x:Int)(fs:List Int)(s:aq):List Int:=fs.set s.1 ((fs[s.1]?.getD 0)+sg x s.2)
def aug(x:Int)(fs:List Int)(c:List aq):List Int:=c.foldl (jE x) fs
@[simp]theorem tY{x:Int}{fs:List Int}{s:aq}:(jE x fs s).length=fs.length:=by simp[jE]
theorem rY{x:Int}:∀{c:List aq}{fs:List Int},(aug x fs c).length=fs.length|[],_=>rfl|s::c,fs=>by show(aug x (jE x fs s) c).length=_;rw[rY,tY]
theorem mK{x:Int}{j:Nat}:∀{c:List aq}{fs:List Int},j∉c.map (·.1)->(aug x fs c)[j]?=fs[j]?|[],_,_=>rfl|s::c,fs,h=>by rw[map_cons,mem_cons,not_or]at h;show(aug x (jE x fs s) c)[j]?=_;rw[mK h.2];unfold jE;rw[getElem?_set_ne (λz=>h.1 z.symm)]
theorem wV{x:Int}:∀{c:List aq}{fs:List Int}{s:aq}{g:Int},(c.map (·.1)).Nodup->s∈c->fs[s.1]?=some g->(aug x fs c)[s.1]?=some (g+sg x s.2)
 |[],_,_,_,_,h,_=>by cases h|t::c,fs,s,g,u,h,e=>by
   rw[map_cons,nodup_cons]at u;show(aug x (jE x fs t) c)[s.1]?=_;have y:=(dw e).1;rcases mem_cons.mp h with rfl|h;.rw[mK u.1];unfold jE;rw[getElem?_set_self y,e];rfl
   .refine wV u.2 h ?_;unfold jE;rw[getElem?_set_ne (λz=>u.1 (by rw[z];exact mem_map.mpr ⟨s,h,rfl⟩))];exact e
inductive JWt(x:Int)(fs:List Int)(c:List aq)(a0 a1 a2:Sl)(r:List D)(ρ:List Sl):Prop where|mk(bJ us:List aq)(s4 s5:Sl)(q0:ρ=[a0,a1,a2,.own false ((aug x fs bJ).map D.int),s4,s5])(q1:fr s4=true)(q2:fr s5=true)(q3:r=us.map sD)(q4:bJ++us=c)
theorem CQ{s:Sl}{x:Int}{fs:List Int}(hs:Vv s fs)(hc:∀s∈c,s.1<fs.length)(k:Q (.own ((aug x fs c).map D.int)) [s,.val false (.tup (c.map sD)),.val false (.int x)]):(run Γ w (n+1) 7 [s,.val false (.tup (c.map sD)),.val false (.int x)]).sat Q:=by
 refine aU (d:=f7) rfl rfl (by decide) ?_;refine cu (λρ=>ρ=[s,.val false (.tup (c.map sD)),.val false (.int x),.own false (fs.map D.int),.aP,.aP]) ?_ ?_;.rcases hs with rfl|⟨b,rfl⟩;all_goals simp[f7]
 rintro _ rfl;symm;simp;refine bM (JWt x fs c _ _ _) ?_ ?_ ⟨[],c,.aP,.aP,rfl,rfl,rfl,rfl,rfl⟩;.rintro d r _⟨e,h,s4,s5,rfl,A,B,hr,hd⟩;cases h with|nil=>cases hr|cons u h=>
     obtain⟨rfl,rfl⟩:d=sD u/\r=h.map sD:=by simpa using hr
     have E:u.1<(aug x fs e).length:=by rw[rY];exact hc u (by rw[<-hd];simp)
     have y:(aug x fs e)[u.1]?=some (aug x fs e)[u.1]:=by simp[E]
     have C:gQ (aug x fs e).length (u.1:Int)=some u.1:=by unfold gQ;rw[if_pos (by omega),if_pos (by omega)];simp
     have he:aug x fs (e++[u])=(aug x fs e).set u.1 ((aug x fs e)[u.1]+sg x u.2):=by unfold aug;rw[List.foldl_append];show jE x (aug x fs e) u=_;unfold jE;rw[y];rfl
     have t:(e++[u])++h=c:=by rw[append_assoc];exact hd
     generalize(aug x fs e)[u.1]=g at*;simp[sD,dD,A,B];apply ak;obtain⟨j,f⟩:=u;cases f with|true=>simp[gW y,C];exact⟨e++[(j,true)],h,_,_,by rw[he,map_set];rfl,rfl,rfl,rfl,t⟩|false=>simp[gW y,C];exact⟨e++[(j,false)],h,_,_,by rw[he,map_set];rfl,rfl,rfl,rfl,t⟩
 . rintro _⟨e,h,s4,s5,rfl,A,B,hr,hd⟩;have:h=[]:=by cases h with|nil=>rfl|cons _ _=>cases hr
   subst this;rw[append_nil]at hd;subst hd;simp;apply ak;simp;exact k
def Bg(F:Int->Int)(D:Int):List En->Int->Int|[],p=>F p+D|e::es,p=>if e.1=p then e.2.2.2 else Bg F D es p
theorem gD{F:Int->Int}{D p:Int}{l:Nat}{o:Option aq×Int}:∀{es:List En},(es.map (·.1)).Nodup->(p,l,o)∈es->Bg F D es p=o.2
 |[],_,h=>by cases h|e::es,t,h=>by
   rw[map_cons,nodup_cons]at t;rw[Bg];rcases mem_cons.mp h with rfl|h;.rw[if_pos rfl]
   .rw[if_neg (λz=>t.1 (by rw[z];exact mem_map.mpr ⟨_,h,rfl⟩))];exact gD t.2 h
theorem mD{F:Int->Int}{D p:Int}:∀{es:List En},(¬ ∃l o,(p,l,o)∈es)->Bg F D es p=F p+D|[],_=>rfl|e::es,h=>by rw[Bg,if_neg (λz=>h ⟨e.2.1,e.2.2,by rw[<-z];simp⟩)];exact mD λ⟨l,o,z⟩=>h ⟨l,o,mem_cons_of_mem _ z⟩
theorem ye(F:Int->Int):∀(es:List En),∃D,∀p l o,(p,l,o)∈es->o.2<=F p+D
 |[]=>⟨0,λ_ _ _ h=>by cases h⟩|e::es=>by
   obtain⟨D,h⟩:=ye F es;refine⟨max D (e.2.2.2-F e.1),λp l o z=>?_⟩;rcases mem_cons.mp z with rfl|z;.simp only;omega
   .have:=h p l o z;omega
theorem gH.pt{fs:List Int}{D:Int}(h:gH m ws fs es)(t:Pt ws fs F)(u:∀p l o,(p,l,o)∈es->o.2<=F p+D):Pt ws fs (Bg F D es):=λs v e ho=>by
 by_cases c:∃l o,(frm v s.2,l,o)∈es;.obtain⟨l,o,c⟩:=c;obtain⟨l2,y,c2,c3⟩:=h.cl l o s v e c ho;rw[gD h.cm.nd c,gD h.cm.nd c2];unfold Le at c3;omega
 . rw[mD c];have h1:=t s v e ho;by_cases c2:∃l o,(too v s.2,l,o)∈es;.obtain⟨l2,y,c2⟩:=c2;rw[gD h.cm.nd c2];have:=u _ _ _ c2;omega
   .rw[mD c2];omega
theorem FZ{fs:List Int}{G:Int->Int}(d:Int)(h:Pt ws fs F)(t:Pt ws fs G):Pt ws fs (λp=>min (F p) (G p+d)):=λs v e ho=>by have h1:=h s v e ho;have u:=t s v e ho;simp only;omega
theorem qC{ws:List Wy}{fs:List Int}{F:Int->Int}(h:Pt ws fs F){b:Int}:∀{c:List aq}{a:Int},gq ws b c a->pN ws fs c->F b=F a+bD ws c->∀s∈c,∀v,ws[s.1]?=some v->F (too v s.2)=F (frm v s.2)+hsp v s.2
 |[],_,_,_,_,s,hs,_,_=>by cases hs|s::c,a,⟨v,e,y,A⟩,ho,he,u,hu,x,ex=>by
   have t:pN ws fs c:=λu hu=>ho u (mem_cons_of_mem _ hu);have h1:=kY h A t;obtain⟨E,B,o⟩:=ho s (by simp);rw[e]at B;cases B;have C:=h s v e o;rw[y]at C;rw[bD,fY e]at he;rcases mem_cons.mp hu with rfl|hu;.rw[e]at ex;cases ex;rw[y];omega
   .exact qC h A t (by omega) u hu x ex
theorem m5{fs:List Int}{x:Int}{t:aq}(hc:pN ws fs c)(e:ws[t.1]?=some v)(h:iJ ws (aug x fs c) (frm v t.2) t=true):iJ ws fs (frm v t.2) t=true\/∃s∈c,s.1=t.1/\t.2≠s.2:=by
 by_cases z:t.1∈c.map (·.1)
 . obtain⟨s,hs,es⟩:=mem_map.mp z;by_cases q:t.2=s.2;.have:t=s:=Prod.ext_iff.mpr ⟨es.symm,q⟩;subst this;obtain⟨y,u,o⟩:=hc t hs;rw[e]at u;cases u;exact .inl o
   .exact .inr ⟨s,hs,es,q⟩
 .refine .inl ?_;unfold iJ at h ⊢;rwa[mK z]at h
theorem Pt.aug{ws:List Wy}{fs:List Int}{F:Int->Int}(h:Pt ws fs F){a b x:Int}{c:List aq}(y:gq ws b c a)(ho:pN ws fs c)(he:F b=F a+bD ws c):Pt ws (aug x fs c) F:=λt v e o=>by
 rcases m5 ho e o with o|⟨u,A,B,ne⟩;.exact h t v e o
 . have:=qC h y ho he u A v (by rw[B];exact e);rw[(jW ne).1,(jW ne).2];have:hsp v t.2=-hsp v u.2:=by cases h1:t.2<;>cases h2:u.2<;>simp[hsp]<;>(rw[h1,h2]at ne;exact absurd rfl ne)
   omega
def eG(G:Wy->Int):List Wy->List Int->Int|v::ws,g::fs=>G v*g+eG G ws fs|_,_=>0
def pq(H:Wy->Int):List Wy->Int|[]=>0|v::ws=>H v+pq H ws
theorem Bl{G H:Wy->Int}:∀{ws:List Wy}{fs:List Int},fs.length=ws.length->(∀(j:Nat)v g,ws[j]?=some v->fs[j]?=some g->G v*g<=H v)->eG G ws fs<=pq H ws|[],[],_,_=>Int.le_refl _|[],_::_,h,_=>by simp at h|_::_,[],h,_=>by simp at h|v::ws,g::fs,h,k=>by have h1:=k 0 v g rfl rfl;have u:=Bl (G:=G) (H:=H) (ws:=ws) (fs:=fs) (by simpa using h) λj v g e t=>k (j+1) v g (by simpa using e) (by simpa using t);rw[eG,pq];omega
theorem Dv{G H:Wy->Int}:∀{ws:List Wy}{fs:List Int},fs.length=ws.length->(∀(j:Nat)v g,ws[j]?=some v->fs[j]?=some g->H v<=G v*g)->pq H ws<=eG G ws fs|[],[],_,_=>Int.le_refl _|[],_::_,h,_=>by simp at h|_::_,[],h,_=>by simp at h|v::ws,g::fs,h,k=>by have h1:=k 0 v g rfl rfl;have u:=Dv (G:=G) (H:=H) (ws:=ws) (fs:=fs) (by simpa using h) λj v g e t=>k (j+1) v g (by simpa using e) (by simpa using t);rw[eG,pq];omega
theorem yc{G:Wy->Int}{v:Wy}{g y:Int}:∀{j:Nat}{ws:List Wy}{fs:List Int},ws[j]?=some v->fs[j]?=some g->eG G ws (fs.set j (g+y))=eG G ws fs+G v*y|_,[],_,e,_=>by simp at e|_,_::_,[],_,e=>by simp at e|0,u::ws,f::fs,h,t=>by simp at h t;subst h t;rw[List.set_cons_zero,eG,eG,mul_add];omega|j+1,u::ws,f::fs,h,t=>by rw[List.set_cons_succ,eG,eG,yc (j:=j) (by simpa using h) (by simpa using t)];omega
def gap(k:Int)(q:Int->Int)(v:Wy):Int:=q v.t-q v.s-k*v.h
theorem BL{x:Int}:gap k q v*sg x f=x*(q (too v f)-q (frm v f)-k*hsp v f):=by cases f with|true=>show(q v.t-q v.s-k*v.h)*x=x*(q v.t-q v.s-k*v.h);exact mul_comm _ _|false=>show(q v.t-q v.s-k*v.h)*(-x)=x*(q v.s-q v.t-k*(-v.h));rw[mul_neg,mul_neg k,show q v.s-q v.t- -(k*v.h)=-(q v.t-q v.s-k*v.h)by omega,mul_neg,mul_comm]
theorem xK{k x:Int}{q:Int->Int}{ws:List Wy}{b:Int}:∀{c:List aq}{fs:List Int}{a:Int},fs.length=ws.length->gq ws b c a->eG (gap k q) ws (aug x fs c)=eG (gap k q) ws fs+x*(q b-q a-k*bD ws c)
 |[],fs,a,_,h=>by have:a=b:=h;subst this;show _=_+x*(q a-q a-k*0);simp;rfl|s::c,fs,a,u,⟨v,e,A,B⟩=>by
   show eG (gap k q) ws (aug x (jE x fs s) c)=_;have t:s.1<fs.length:=by rw[u];exact(dw e).1
   have y:fs[s.1]?=some fs[s.1]:=by simp[t]
   rw[xK (by rw[tY];exact u) B];have:jE x fs s=fs.set s.1 (fs[s.1]+sg x s.2):=by unfold jE;rw[y];rfl
   rw[this,yc e y,BL,A,Int.add_assoc,<-mul_add,bD,fY e,mul_add k];congr 2;omega
structure JS(ws:List Wy)(fs:List Int):Prop where
 len:fs.length=ws.length
 ok:∀(j:Nat)v g,ws[j]?=some v->fs[j]?=some g->0<=g/\g<=v.r
theorem JS.aug{ws:List Wy}{fs:List Int}{c:List aq}{x:Int}(h:JS ws fs)(B:(c.map (·.1)).Nodup)(C:0<x)(hc:∀s∈c,∃v g,ws[s.1]?=some v/\fs[s.1]?=some g/\x<=lV v g s.2):JS ws (aug x fs c):=by
 refine⟨by rw[rY];exact h.len,λj v g t e=>?_⟩;by_cases z:j∈c.map (·.1);.obtain⟨s,hs,rfl⟩:=mem_map.mp z;obtain⟨E,g',u,y,A⟩:=hc s hs;rw[t]at u;cases u;rw[wV B hs y]at e;cases e;have:=h.ok _ _ _ t y;cases hf:s.2<;>rw[hf]at A<;>simp[lV,sg]at A ⊢<;>omega
 .rw[mK z]at e;exact h.ok _ _ _ t e
def du(q:Int->Int)(v:Wy):Int:=v.r*max 0 (q v.t-q v.s-v.h)
def cJ(q:Int->Int)(ws:List Wy):Int:=pq (du q) ws
theorem Tt:gap 1 q v=q v.t-q v.s-v.h:=by unfold gap;omega
theorem xN{fs:List Int}(h:JS ws fs):eG (gap 1 q) ws fs<=cJ q ws:=Bl h.len λj v g e u=>by
 have:=h.ok _ _ _ e u;rw[Tt];unfold du;generalize q v.t-q v.s-v.h=y;by_cases c:0<=y;.rw[Int.max_eq_right c,mul_comm];exact Int.mul_le_mul_of_nonneg_right this.2 c
 .rw[max_eq_left (by omega),mul_zero];exact Int.mul_nonpos_of_nonpos_of_nonneg (by omega) this.1
theorem HQ{fs:List Int}(h:JS ws fs)(A:Pt ws fs q):cJ q ws=eG (gap 1 q) ws fs:=by
 refine Int.le_antisymm (Dv h.len λj v g e u=>?_) (xN h);have E:=h.ok _ _ _ e u;have C:0<v.r-g->q v.t<=q v.s+v.h:=λz=>A (j,true) v e (by rw[lq (s:=(j,true)) e u];simp[frm,lV];omega);have B:0<g->q v.s<=q v.t+-v.h:=λz=>A (j,false) v e (by rw[lq (s:=(j,false)) e u];simp[frm,lV];omega);rw[Tt];unfold du;generalize G:q v.t-q v.s-v.h=y;by_cases c:g=v.r
 . subst c;by_cases c0:0<v.r;.have:=B c0;rw[Int.max_eq_right (by omega),mul_comm];exact Int.le_refl _
   . have:v.r=0:=by omega
     rw[this];simp
 . have:=C (by omega);rw[max_eq_left (by omega),mul_zero];by_cases c0:0<g;.have:=B c0;rw[show y=0 by omega];simp
   .rw[show g=0 by omega];simp
def U5(fs:List Int)(x:List aq×Int):List Int:=aug x.2 fs x.1
def flow(N:Nat)(cs:List (List aq×Int)):List Int:=cs.foldl U5 (replicate N 0)
theorem Cr{x:List aq×Int}:flow N (cs++[x])=aug x.2 (flow N cs) x.1:=by unfold flow;rw[List.foldl_append];rfl
def cM(H:List aq×Int->Int):List (List aq×Int)->Int|[]=>0|x::cs=>H x+cM H cs
theorem jK{H:List aq×Int->Int}{x:List aq×Int}:∀{cs:List (List aq×Int)},cM H (cs++[x])=cM H cs+H x|[]=>by simp[cM]|y::cs=>by rw[cons_append,cM,cM,jK];omega
theorem mF{H K:List aq×Int->Int}:∀{cs:List (List aq×Int)},(∀x∈cs,H x=K x)->cM H cs=cM K cs|[],_=>rfl|x::cs,h=>by rw[cM,cM,h x (by simp),mF λy e=>h y (by simp[e])]
theorem Fe{H:List aq×Int->Int}:∀{cs:List (List aq×Int)},(∀x∈cs,1<=H x)->(cs.length:Int)<=cM H cs|[],_=>by simp[cM]|x::cs,h=>by have h1:=h x (by simp);have t:=Fe (H:=H) (cs:=cs) λy e=>h y (by simp[e]);rw[cM,length_cons];omega
def VD(ws:List Wy)(T:Int)(x:List aq×Int):Int:=if bD ws x.1<=T then x.2*(T-bD ws x.1+1)else 0
def val(ws:List Wy)(T:Int)(cs:List (List aq×Int)):Int:=cM (VD ws T) cs
structure iw(m:Int)(ws:List Wy)(T v:Int):Prop where
 ex:∃q:Int->Int,q 0=0/\q (m-1)=T+1/\cJ q ws=v
 le:∀q:Int->Int,q 0=0->q (m-1)=T+1->v<=cJ q ws
theorem t8{T:Int}{fs:List Int}{G:Int->Int}(fit:JS ws fs)(dt:∀k q,eG (gap k q) ws fs=cM (λx=>x.2*(q (m-1)-q 0-k*bD ws x.1)) cs)(A:∀x∈cs,bD ws x.1<=T+1)(B:Pt ws fs G)(t:G 0=0)(u:G (m-1)=T+1):iw m ws T (val ws T cs):=by
 have y:∀q:Int->Int,q 0=0->q (m-1)=T+1->eG (gap 1 q) ws fs=val ws T cs:=λq e h=>by
  rw[dt,e,h];refine mF λx C=>?_;have:=A x C;unfold VD;split;.congr 1;omega
  .rw[show T+1-0-1*bD ws x.1=0 by omega,mul_zero]
 exact⟨⟨G,t,u,by rw[HQ fit B,y G t u]⟩,λq e h=>by rw[<-y q e h];exact xN fit⟩
structure vC(m:Int)(ws:List Wy)(cs:List (List aq×Int))(fs:List Int)(F:Int->Int)(d:Int):Prop where
 fit:JS ws fs
 pt:Pt ws fs F
 z:F 0=0
 e:F (m-1)=d
 d0:0<=d
 nn:(∀v∈ws,1<=v.h)->1<=d/\∀x∈cs,1<=bD ws x.1
 ch:∀x∈cs,bD ws x.1<=d/\0<x.2/\∀s∈x.1,s.1<ws.length
 dt:∀k q,eG (gap k q) ws fs=cM (λx=>x.2*(q (m-1)-q 0-k*bD ws x.1)) cs
 lst:∀T,0<=T->T+1<=d->iw m ws T (val ws T cs)
theorem uH{G:Wy->Int}:∀{ws:List Wy}{n:Nat},eG G ws (replicate n 0)=0|[],n=>by unfold eG;rfl|v::ws,0=>rfl|v::ws,n+1=>by rw[replicate_succ,eG,uH];simp
theorem wu(h:(replicate n (0:Int))[j]?=some g):g=0:=(List.mem_replicate.mp (mem_of_getElem? h)).2
def F01(b p:Int):Int:=if p=0 then 0 else b
theorem vC.zero(m0:2<=m)(A:∀v∈ws,0<=v.h)(hr:∀v∈ws,0<=v.r):∃b,vC m ws [] (replicate ws.length 0) (F01 b) b:=by
 have fit:JS ws (replicate ws.length 0):=⟨by simp,λj v g t u=>by rw[wu u];exact⟨Int.le_refl _,hr v (mem_of_getElem? t)⟩⟩;have pt:∀b:Int,0<=b->(∀v∈ws,b<=v.h)->Pt ws (replicate ws.length 0) (F01 b):=λb b0 B s v e ho=>by obtain⟨E,g,t,u,_,y⟩:=nj ho;rw[e]at t;cases t;have:=wu u;subst this;have:=B v (mem_of_getElem? e);cases hf:s.2<;>rw[hf]at y<;>simp[lV,hsp,F01]at y ⊢;split<;>split<;>omega
 have dt:∀k q,eG (gap k q) ws (replicate ws.length 0)=cM (λx=>x.2*(q (m-1)-q 0-k*bD ws x.1)) []:=λk q=>by rw[uH];rfl
 have t:∀b,F01 b (m-1)=b:=λb=>by unfold F01;rw[if_neg (by omega)]
 by_cases c:∀v∈ws,1<=v.h;.exact⟨1,fit,pt 1 (by omega) c,rfl,t 1,by omega,λ_=>⟨Int.le_refl _,by simp⟩,by simp,dt,λT h1 C=>t8 fit dt (by simp) (pt 1 (by omega) c) rfl (by rw[t];omega)⟩
 .exact⟨0,fit,pt 0 (by omega) A,rfl,t 0,by omega,λz=>absurd z c,by simp,dt,λT h1 C=>by omega⟩
theorem vC.at{d T:Int}{fs:List Int}{G:Int->Int}(h:vC m ws cs fs F d)(e:d<=T+1)(t:Pt ws fs G)(u:G 0=0)(y:G (m-1)=T+1):iw m ws T (val ws T cs):=t8 h.fit h.dt (λx A=>Int.le_trans (h.ch x A).1 e) t u y
theorem vC.more{d:Int}{fs:List Int}{x:Int}(h:vC m ws cs fs F d)(t:gH m ws fs es)(u:(m-1,l,o)∈es)(hc:Kh ws fs es (m-1) l o.2 0 0 0 c)(A:0<x)(hr:∀s∈c,∃v g,ws[s.1]?=some v/\fs[s.1]?=some g/\x<=lV v g s.2):∃G,vC m ws (cs++[(c,x)]) (aug x fs c) G o.2:=by
 obtain⟨D,H⟩:=ye F es;have B:=t.pt h.pt H;have J:bD ws c=o.2:=by have:=hc.hrs;omega
 have C:Bg F D es 0=0:=gD t.cm.nd t.cm.z;have E:Bg F D es (m-1)=o.2:=gD t.cm.nd u;have hd:d<=o.2:=by have:=kY h.pt hc.Gq hc.gV;rw[h.e,h.z]at this;omega
 refine⟨Bg F D es,h.fit.aug hc.nd A hr,B.aug hc.Gq hc.gV (by rw[C,E];omega),C,E,by have:=h.d0;omega,λz=>⟨by have:=(h.nn z).1;omega,λy hy=>?_⟩,λy hy=>?_,λk q=>?_,λT h0 h1=>?_⟩
 . rcases mem_append.mp hy with hy|hy;.exact(h.nn z).2 y hy
   .rw[mem_singleton.mp hy];show 1<=bD ws c;have:=(h.nn z).1;omega
 . rcases mem_append.mp hy with hy|hy;.have:=h.ch y hy;exact⟨by omega,this.2⟩
   .rw[mem_singleton.mp hy];refine⟨by show bD ws c<=_;omega,A,λs hs=>?_⟩;obtain⟨v,g,e,_⟩:=hr s hs;exact(dw e).1
 .rw[xK h.fit.len hc.Gq,jK,h.dt]
 . have I:val ws T (cs++[(c,x)])=val ws T cs:=by unfold val;rw[jK];show _+(if bD ws c<=T then _ else 0)=_;rw[if_neg (by omega)];omega
   rw[I];by_cases q:T+1<=d;.exact h.lst T h0 q
   . refine h.at (by omega) (FZ (T+1-d) B h.pt) ?_ ?_;.have:=h.z;omega
     .have:=h.e;omega
theorem vC.least{d T:Int}{fs:List Int}(h:vC m ws cs fs F d)(t:gH m ws fs es)(u:¬ ∃l o,(m-1,l,o)∈es)(h0:0<=T):iw m ws T (val ws T cs):=by
 by_cases q:T+1<=d;.exact h.lst T h0 q
 . obtain⟨D,y⟩:=ye F es;have A:=t.pt (D:=max D (T+1-d)) h.pt λp l o z=>by have:=y p l o z;omega
   have B:Bg F (max D (T+1-d)) es 0=0:=gD t.cm.nd t.cm.z;have C:Bg F (max D (T+1-d)) es (m-1)=F (m-1)+max D (T+1-d):=mD u;refine h.at (by omega) (FZ (T+1-d) A h.pt) ?_ ?_;.have:=h.z;omega
   .have:=h.e;omega
def Bh(v:Wy)(f:Bool):Int:=7*hsp v f+1
def J8(ws:List Wy)(fs:List Int)(P:Int->Int):Prop:=∀(s:aq)(v:Wy),ws[s.1]?=some v->iJ ws fs (frm v s.2) s=true->P (too v s.2)<=P (frm v s.2)+Bh v s.2
def vA(ws:List Wy)(c:List aq):Int:=7*bD ws c+c.length
theorem oE(e:ws[s.1]?=some v):vA ws (s::c)=Bh v s.2+vA ws c:=by unfold vA Bh;rw[bD,fY e,length_cons];omega
theorem vL{ws:List Wy}{fs:List Int}{P:Int->Int}(h:J8 ws fs P){b:Int}:∀{c:List aq}{a:Int},gq ws b c a->pN ws fs c->P b<=P a+vA ws c|[],a,t,_=>by have:a=b:=t;rw[this];simp[vA,bD]|s::c,a,⟨v,e,A,t⟩,ho=>by have h1:=vL h t λu B=>ho u (mem_cons_of_mem _ B);obtain⟨E,y,o⟩:=ho s (by simp);rw[e]at y;cases y;have C:=h s v e o;rw[A]at C;rw[oE e];omega
theorem qw{ws:List Wy}{fs:List Int}{P:Int->Int}(h:J8 ws fs P){b:Int}:∀{c:List aq}{a:Int},gq ws b c a->pN ws fs c->P b=P a+vA ws c->∀s∈c,∀v,ws[s.1]?=some v->P (too v s.2)=P (frm v s.2)+Bh v s.2
 |[],_,_,_,_,s,hs,_,_=>by cases hs|s::c,a,⟨v,e,y,A⟩,ho,he,u,hu,x,ex=>by
   have t:pN ws fs c:=λu hu=>ho u (mem_cons_of_mem _ hu);have h1:=vL h A t;obtain⟨E,B,o⟩:=ho s (by simp);rw[e]at B;cases B;have C:=h s v e o;rw[y]at C;rw[oE e]at he;rcases mem_cons.mp hu with rfl|hu;.rw[e]at ex;cases ex;rw[y];omega
   .exact qw h A t (by omega) u hu x ex
def tgt(ws:List Wy)(fs:List Int)(P:Int->Int)(s:aq):Bool:=match ws[s.1]?with|some v=>iJ ws fs (frm v s.2) s&&decide (P (too v s.2)=P (frm v s.2)+Bh v s.2)|none=>false
theorem DW{fs:List Int}{P:Int->Int}(e:ws[s.1]?=some v):tgt ws fs P s=(iJ ws fs (frm v s.2) s&&decide (P (too v s.2)=P (frm v s.2)+Bh v s.2)):=by unfold tgt;rw[e]
def FQ(ws:List Wy)(fs:List Int)(P:Int->Int):Nat:=((fV ws.length).filter (tgt ws fs P)).length
theorem yW{fs:List Int}{P:Int->Int}(h:ws.length<=12):FQ ws fs P<=24:=by have:=List.length_filter_le (tgt ws fs P) (fV ws.length);rw[u0]at this;unfold FQ;omega
theorem Ef{p q:aq->Bool}(h:∀t,q t=true->p t=true):∀(l:List aq),(l.filter q).length<=(l.filter p).length|[]=>cL|t::l=>by have e:=Ef h l;cases hq:q t with|true=>simp[hq,h t hq,e]|false=>cases hp:p t with|true=>simp[hq,hp];omega|false=>simp[hq,hp,e]
theorem DP{p q:aq->Bool}{s:aq}(h:∀t,q t=true->p t=true)(e:p s=true)(u:q s=false):∀{l:List aq},s∈l->(l.filter q).length<(l.filter p).length
 |[],hs=>by cases hs|t::l,hs=>by
   have le:=Ef h l;rcases mem_cons.mp hs with rfl|hs;.simp[e,u];omega
   .have y:=DP h e u hs;cases hq2:q t with|true=>simp[hq2,h t hq2,y]|false=>cases hp2:p t with|true=>simp[hq2,hp2];omega|false=>simp[hq2,hp2,y]
theorem DX{fs:List Int}(h:(c.map (·.1)).Nodup)(hs:s∈c)(e:ws[s.1]?=some v)(t:fs[s.1]?=some g):iJ ws (aug (lV v g s.2) fs c) p s=false:=by
 rw[lq e (wV h hs t)];have:lV v (g+sg (lV v g s.2) s.2) s.2=0:=by cases s.2<;>simp[lV,sg]<;>omega
 rw[this];simp
theorem J8.aug{ws:List Wy}{fs:List Int}{P:Int->Int}(h:J8 ws fs P){a b:Int}{c:List aq}{s:aq}{v:Wy}{g:Int}(G:gq ws b c a)(ho:pN ws fs c)(H:(c.map (·.1)).Nodup)(he:P b=P a+vA ws c)(hs:s∈c)(e:ws[s.1]?=some v)(I:fs[s.1]?=some g):J8 ws (aug (lV v g s.2) fs c) P/\FQ ws (aug (lV v g s.2) fs c) P<FQ ws fs P:=by
 have B:=qw h G ho he;have back:∀(t u:aq)(x:Wy),u∈c->u.1=t.1->t.2≠u.2->ws[t.1]?=some x->P (too x t.2)<P (frm x t.2)+Bh x t.2:=λt u x y A ne ex=>by
  have h1:=B u y x (by rw[A];exact ex);rw[(jW ne).1,(jW ne).2];have C:hsp x t.2=-hsp x u.2:=by cases h1:t.2<;>cases C:u.2<;>simp[hsp]<;>(rw[h1,C]at ne;exact absurd rfl ne)
  unfold Bh at*;omega
 refine⟨λt x ex o=>?_,?_⟩
 . rcases m5 ho ex o with o|⟨u,y,A,ne⟩;.exact h t x ex o
   .have:=back t u x y A ne ex;omega
 . obtain⟨J,E,o⟩:=ho s hs;rw[e]at E;cases E;refine DP (s:=s) (λt ht=>?_) (by rw[DW e,o,B s hs v e];simp) (by rw[DW e,DX H hs e I];rfl) (uo (dw e).1);unfold tgt at ht ⊢;split at ht
   . rename_i x ex;simp only[and_eq_true,decide_eq_true_eq]at ht ⊢;refine⟨?_,ht.2⟩;rcases m5 ho ex ht.1 with o|⟨u,y,A,ne⟩;.exact o
     .have:=back t u x y A ne ex;omega
   .cases ht
abbrev Kc:=List (Option Bool)
def jf:List Wy->Kc->Int|v::ws,some f::es=>Bh v f+jf ws es|_::ws,none::es=>jf ws es|_,_=>0
def Ad(N:Nat):List aq->Kc|[]=>replicate N none|s::c=>(Ad N c).set s.1 (some s.2)
theorem qP{N:Nat}:∀{c:List aq},(Ad N c).length=N|[]=>by simp[Ad]|s::c=>by rw[Ad,List.length_set,qP]
theorem yo{N j:Nat}:∀{c:List aq},j<N->j∉c.map (·.1)->(Ad N c)[j]?=some none|[],h,_=>by simp[Ad,h]|s::c,h,e=>by rw[map_cons,mem_cons,not_or]at e;rw[Ad,getElem?_set_ne (λz=>e.1 z.symm)];exact yo h e.2
theorem tH{v:Wy}{f:Bool}:∀{j:Nat}{ws:List Wy}{es:Kc},ws[j]?=some v->es[j]?=some none->jf ws (es.set j (some f))=jf ws es+Bh v f|_,[],_,e,_=>by simp at e|_,_::_,[],_,e=>by simp at e|0,u::ws,x::es,h,t=>by simp at h t;subst h t;rw[List.set_cons_zero,jf,jf];omega|j+1,u::ws,x::es,h,t=>by have y:=tH (f:=f) (j:=j) (ws:=ws) (es:=es) (by simpa using h) (by simpa using t);rw[List.set_cons_succ];cases x with|none=>rw[jf,jf,y]|some g=>rw[jf,jf,y];omega
theorem pZ:∀{ws:List Wy}{n:Nat},jf ws (replicate n none)=0|[],n=>by unfold jf;rfl|v::ws,0=>rfl|v::ws,n+1=>by rw[replicate_succ,jf,pZ]
theorem rG{ws:List Wy}{b:Int}:∀{c:List aq}{a:Int},gq ws b c a->(c.map (·.1)).Nodup->jf ws (Ad ws.length c)=vA ws c|[],_,_,_=>by rw[Ad,pZ];simp[vA,bD]|s::c,a,⟨v,e,_,t⟩,h=>by rw[map_cons,nodup_cons]at h;rw[Ad,tH e (yo (dw e).1 h.1),rG t h.2,oE e];omega
def pC:Nat->List Kc|0=>[[]]|n+1=>(pC n).map (none::·)++((pC n).map (some true::·)++(pC n).map (some false::·))
theorem nR:∀{n:Nat},(pC n).length=3^n|0=>rfl|n+1=>by rw[pC,length_append,length_append,length_map,length_map,length_map,nR,Nat.pow_succ];omega
theorem nZ:∀{e:Kc},e∈pC e.length|[]=>by simp[pC]|x::e=>by have h:=nZ (e:=e);rw[length_cons,pC,mem_append,mem_append];cases x with|none=>exact .inl (mem_map.mpr ⟨e,h,rfl⟩)|some f=>cases f with|true=>exact .inr (.inl (mem_map.mpr ⟨e,h,rfl⟩))|false=>exact .inr (.inr (mem_map.mpr ⟨e,h,rfl⟩))
structure G9(m:Int)(ws:List Wy)(k:Nat)(fs:List Int)(P:Int->Int)(lam:Int)(seen:List Kc):Prop where
 pt:J8 ws fs P
 z:P 0=0
 e:P (m-1)=lam
 nd:seen.Nodup
 sl:∀e∈seen,e.length=ws.length/\jf ws e<=lam
 cnt:k+FQ ws fs P<=25*(seen.length+1)
theorem G9.few{t:Int}{k:Nat}{fs:List Int}{P:Int->Int}{seen:List Kc}(h:G9 m ws k fs P t seen)(u:ws.length<=12):k<=13286050:=by
 have h1:=jC (l2:=pC ws.length) h.nd λe he=>by rw[<-(h.sl e he).1];exact nZ
 rw[nR]at h1;have y:3^ws.length<=3^12:=Nat.pow_le_pow_right (by decide) u;have A:(3:Nat)^12=531441:=by decide
 have:=h.cnt;omega
theorem G9.zero(y:ws.length<=12)(A:∀v∈ws,0<=v.h):G9 m ws 0 (replicate ws.length 0) (λ_=>0) 0 []:=by refine⟨λs v e ho=>?_,rfl,rfl,.nil,by simp,by have:=yW (fs:=replicate ws.length 0) (P:=λ_=>0) y;simp;omega⟩;obtain⟨C,g,t,B,_,u⟩:=nj ho;rw[e]at t;cases t;have:=wu B;subst this;have:=A v (mem_of_getElem? e);cases hf:s.2<;>rw[hf]at u<;>simp[lV,Bh,hsp]at u ⊢;omega
def GC(F:Int->Int)(D:Int):List En->Int->Int|[],p=>F p+D|e::es,p=>if e.1=p then 7*e.2.2.2+(e.2.1:Int)else GC F D es p
theorem lB{F:Int->Int}{D p:Int}{l:Nat}{o:Option aq×Int}:∀{es:List En},(es.map (·.1)).Nodup->(p,l,o)∈es->GC F D es p=7*o.2+l
 |[],_,h=>by cases h|e::es,t,h=>by
   rw[map_cons,nodup_cons]at t;rw[GC];rcases mem_cons.mp h with rfl|h;.rw[if_pos rfl]
   .rw[if_neg (λz=>t.1 (by rw[z];exact mem_map.mpr ⟨_,h,rfl⟩))];exact lB t.2 h
theorem rC{F:Int->Int}{D p:Int}:∀{es:List En},(¬ ∃l o,(p,l,o)∈es)->GC F D es p=F p+D|[],_=>rfl|e::es,h=>by rw[GC,if_neg (λz=>h ⟨e.2.1,e.2.2,by rw[<-z];simp⟩)];exact rC λ⟨l,o,z⟩=>h ⟨l,o,mem_cons_of_mem _ z⟩
theorem BV(F:Int->Int):∀(es:List En),∃D,∀p l o,(p,l,o)∈es->7*o.2+(l:Int)<=F p+D
 |[]=>⟨0,λ_ _ _ h=>by cases h⟩|e::es=>by
   obtain⟨D,h⟩:=BV F es;refine⟨max D (7*e.2.2.2+(e.2.1:Int)-F e.1),λp l o z=>?_⟩;rcases mem_cons.mp z with rfl|z;.simp only;omega
   .have:=h p l o z;omega
theorem gH.pts{fs:List Int}{P:Int->Int}{D:Int}(h:gH m ws fs es)(t:HN m ws)(u:Pt ws fs F)(y:J8 ws fs P)(A:∀p l o,(p,l,o)∈es->7*o.2+(l:Int)<=P p+D):J8 ws fs (GC P D es):=λs v e ho=>by
 by_cases c:∃l o,(frm v s.2,l,o)∈es;.obtain⟨l,o,c⟩:=c;obtain⟨l2,B,c2,c3⟩:=h.cl l o s v e c ho;rw[lB h.cm.nd c,lB h.cm.nd c2];have:=h.l5 t u c2;unfold Le at c3;unfold Bh;omega
 . rw[rC c];have h1:=y s v e ho;by_cases c2:∃l o,(too v s.2,l,o)∈es;.obtain⟨l2,B,c2⟩:=c2;rw[lB h.cm.nd c2];have:=A _ _ _ c2;omega
   .rw[rC c2];omega
theorem G9.more{t:Int}{k:Nat}{fs:List Int}{P:Int->Int}{seen:List Kc}(h:G9 m ws k fs P t seen)(B:HN m ws)(I:Pt ws fs F)(u:gH m ws fs es)(y:(m-1,l,o)∈es)(hc:Kh ws fs es (m-1) l o.2 0 0 0 c)(hs:s∈c)(e:ws[s.1]?=some v)(C:fs[s.1]?=some g):∃J L M,G9 m ws (k+1) (aug (lV v g s.2) fs c) J L M:=by
 have O:bD ws c=o.2:=by have:=hc.hrs;omega
 have U:c.length=l:=by have:=hc.len;omega
 have W:vA ws c=7*o.2+l:=by unfold vA;rw[O,U]
 have X:t<=vA ws c:=by have:=vL h.pt hc.Gq hc.gV;rw[h.e,h.z]at this;omega
 by_cases q:t=vA ws c;.have A:=h.pt.aug hc.Gq hc.gV hc.nd (by rw[h.e,h.z];omega) hs e C;exact⟨P,t,seen,A.1,h.z,h.e,h.nd,h.sl,by have:=h.cnt;omega⟩
 . obtain⟨D,Y⟩:=BV P es;have Z:=u.pts B I h.pt Y;have E:GC P D es 0=0:=by rw[lB u.cm.nd u.cm.z];rfl
   have G:GC P D es (m-1)=vA ws c:=by rw[lB u.cm.nd y,W]
   have A:=Z.aug hc.Gq hc.gV hc.nd (by rw[E,G];omega) hs e C;have H:=rG hc.Gq hc.nd;refine⟨GC P D es,vA ws c,seen++[Ad ws.length c],A.1,E,G,?_,λx hx=>?_,?_⟩;.rw[nodup_append];refine⟨h.nd,by simp,λa ha b hb ab=>?_⟩;have:=(h.sl a ha).2;rw[ab,mem_singleton.mp hb,H]at this;omega
   . rcases mem_append.mp hx with hx|hx;.have:=h.sl x hx;exact⟨this.1,by omega⟩
     .rw[mem_singleton.mp hx];exact⟨qP,by rw[H];exact Int.le_refl _⟩
   .have h1:=yW (fs:=fs) (P:=GC P D es) B.len;have h2:=h.cnt;rw[length_append,List.length_singleton];omega
def cD(x:List aq×Int):D:=.tup [.tup (x.1.map sD),.int x.2]
theorem Cv{ns:List Int}(h:ns≠[]):∃i,ns.min?=some i/\i∈ns/\∀j∈ns,i<=j:=by cases e:ns.min? with|none=>rw[List.min?_eq_none_iff]at e;exact absurd e h|some i=>have:=List.min?_eq_some_iff.mp e;exact⟨i,rfl,this.1,this.2⟩
def Ue:D->aq|.tup [.int j,.bl f]=>(j.toNat,f)|_=>(0,true)
@[simp]theorem EY{s:aq}:Ue (sD s)=s:=rfl
def JR(ws:List Wy)(fs:List Int)(s:aq):Int:=match ws[s.1]?,fs[s.1]?with|some v,some g=>lV v g s.2|_,_=>0
def rmD(ws:List Wy)(fs:List Int)(d:D):D:=.int (JR ws fs (Ue d))
@[simp]theorem Ve{es:List En}{p:Int}:tX false (.int p) (jT es)=some (.val (.bl (pg (es.map en) p))):=by show some (R.val (.bl ((es.map (·.1)).contains p)))=some (R.val (.bl ((Gs (es.map en)).contains p)));rw[wg]
def Chk(m:Int)(ws:List Wy)(x:List aq×Int):Prop:=x.1.length<=6/\(∀s∈x.1,s.1<ws.length)/\gq ws (m-1) x.1 0/\(x.1.map (·.1)).Nodup
structure Stg(m:Int)(ws:List Wy)(bJ:List (List aq×Int))(x:List aq×Int):Prop where
 iv:∃F d,vC m ws bJ (flow ws.length bJ) F d
 ht:∃F,Pt ws (flow ws.length bJ) F/\F 0=0/\F (m-1)=bD ws x.1
 op:pN ws (flow ws.length bJ) x.1
 rm:∀s∈x.1,∃v g,ws[s.1]?=some v/\(flow ws.length bJ)[s.1]?=some g/\x.2<=lV v g s.2
theorem vC.ht{d:Int}{fs:List Int}(h:vC m ws cs fs F d)(t:gH m ws fs es)(u:(m-1,l,o)∈es)(hc:Kh ws fs es (m-1) l o.2 0 0 0 c):(∃F,Pt ws fs F/\F 0=0/\F (m-1)=bD ws c)/\d<=bD ws c:=by
 obtain⟨D,y⟩:=ye F es;have A:bD ws c=o.2:=by have:=hc.hrs;omega
 refine⟨⟨Bg F D es,t.pt h.pt y,gD t.cm.nd t.cm.z,by rw[gD t.cm.nd u,A]⟩,?_⟩;have:=kY h.pt hc.Gq hc.gV;rw[h.e,h.z]at this;omega
def zY(m:Int)(ws:List Wy)(cs:List (List aq×Int)):Prop:=cs.Pairwise (λa b=>bD ws a.1<=bD ws b.1)/\∀h x e,cs=h++x::e->Stg m ws h x
theorem zY.snoc{y:List aq×Int}(h:zY m ws cs)(h1:∀x∈cs,bD ws x.1<=bD ws y.1)(A:Stg m ws cs y):zY m ws (cs++[y]):=by
 refine⟨?_,λu x t e=>?_⟩;.rw[List.pairwise_append];exact⟨h.1,by simp,λa B b C=>by rw[mem_singleton.mp C];exact h1 a B⟩
 . rcases List.eq_nil_or_concat t with rfl|⟨r,z,rfl⟩;.obtain⟨E,G⟩:=List.append_inj' e rfl;cases G;subst E;exact A
   . rw[List.concat_eq_append]at e;have H:cs++[y]=(u++x::r)++[z]:=by rw[e];simp
     exact h.2 u x r (List.append_inj' H rfl).1
structure Ends(m:Int)(ws:List Wy)(cs:List (List aq×Int))(fs:List Int)(F:Int->Int)(d:Int)(es:List En):Prop where
 fl:fs=flow ws.length cs
 iv:vC m ws cs fs F d
 cm:gH m ws fs es
 no:¬ ∃l o,(m-1,l,o)∈es
 ck:∀x∈cs,Chk m ws x
 st:zY m ws cs
inductive FcE(a0 a1 a2 a3 a4 a5 a6:Sl)(ρ:List Sl):Prop where|mk(s:Sl)(q0:ρ=[a0,a1,a2,a3,a4,a5,a6,s])(q1:fr s=true)
inductive JE(m:Int)(ws:List Wy)(M:Nat)(ρ:List Sl):Prop where|mk(cs:List (List aq×Int))(fs:List Int)(es:List En)(F:Int->Int)(d:Int)(s5 s6:Sl)(q0:ρ=[.val false (bw m ws),.val false (.int (m-1)),.own false (fs.map D.int),.own false (cs.map cD),.val false (jT es),s5,s6])(q1:(fr s5=true/\fr s6=true))(q2:fs=flow ws.length cs)(q3:vC m ws cs fs F d)(q4:gH m ws fs es)(q5:(∃P lam seen,G9 m ws cs.length fs P lam seen))(q6:cs.length+M=13286050)(q7:(∀x∈cs,Chk m ws x))(q8:zY m ws cs)
theorem Bt(hw:13286250<=w)(h:HN m ws)(hr:∀v∈ws,0<=v.r)(k:∀cs fs F d es,cs.length<=13286050->Ends m ws cs fs F d es->Q (.own (cs.map cD)) [.val false (bw m ws)]):(run Γ w (n+4) 8 [.val false (bw m ws)]).sat Q:=by
 have hn:=h.len;have m0:=h.m0;have m1:=h.m1;refine aU (d:=f8) rfl rfl (by decide) ?_;symm;simp[f8];refine cu (λρ=>ρ=[.val false (bw m ws),.val false (.int (m-1)),.own false ((flow ws.length []).map D.int),.aP,.aP,.aP,.aP]) ?_ ?_;.simp[flow];show _<=16777216;omega
 rintro _ rfl;have hh:∀v∈ws,0<=v.h:=λv hv=>(h.ok v hv).2.2;obtain⟨b0,I0⟩:∃b,vC m ws [] (flow ws.length []) (F01 b) b:=vC.zero m0 hh hr;symm;simp;apply ak;simp;refine uB (by omega) I0.pt (.inr ⟨true,rfl⟩) h I0.fit.len λes t=>?_;simp;apply ak;simp;refine ik (JE m ws) ?_ (k:=w) (m:=13286050) (by omega) ⟨[],flow ws.length [],es,F01 b0,b0,.aP,.aP,rfl,⟨rfl,rfl⟩,rfl,I0,t,⟨_,_,_,G9.zero hn hh⟩,by simp,by simp,by simp,λbJ x ay e=>by cases bJ<;>cases e⟩;rintro M _⟨cs,fs,es,F,d,s5,s6,rfl,⟨h5,h6⟩,G,H,t,⟨P,aE,seen,hS⟩,hM,O,hst⟩;have ac:=H.fit.len;by_cases hq:∃l o,(m-1,l,o)∈es
 . obtain⟨l,o,A⟩:=hq;have kt:pg (es.map en) (m-1)=true:=v5.mpr ⟨l,o,A⟩;have ae:=t.l5 h H.pt A;simp[kt];apply ak;simp;refine Am (by omega) t ae A λc hc=>?_;simp[h5];apply ak;have af:c.length<=6:=by have:=hc.len;omega
   have JG:∀s∈c,∃v g,ws[s.1]?=some v/\fs[s.1]?=some g/\0<lV v g s.2:=λs hs=>by obtain⟨v,e,o⟩:=hc.gV s hs;obtain⟨v',g,B,E,_,e4⟩:=nj o;exact⟨v',g,B,E,e4⟩
   simp[show c.length<=16777216 by omega];refine gn (FcE _ _ _ _ _ _ _) (rmD ws fs) ⟨.aP,rfl,rfl⟩ ?_ ?_;.rintro d hd _⟨s',rfl,U⟩;obtain⟨s,hs,rfl⟩:=mem_map.mp hd;obtain⟨v,g,B,E,_⟩:=JG s hs;simp[U,sD];refine qx (.inr ⟨true,rfl⟩) B E ?_;simp;refine⟨?_,_,rfl,rfl⟩;show D.int (JR ws fs (Ue (sD s)))=_;rw[EY];unfold JR;rw[B,E]
   rintro _⟨s',rfl,U⟩;have W:(c.map sD).map (rmD ws fs)=(c.map (JR ws fs)).map D.int:=by rw[map_map,map_map];rfl
   rw[W];have ag:c≠[]:=by rintro rfl;have:(0:Int)=m-1:=hc.Gq;omega
   obtain⟨x,ah,ai,al⟩:=Cv (ns:=c.map (JR ws fs)) (by simpa using ag);obtain⟨s,hs,am⟩:=mem_map.mp ai;obtain⟨v,g,B,E,e3⟩:=JG s hs;have ap:lV v g s.2=x:=by rw[<-am];unfold JR;rw[B,E]
   have ar:0<x:=by omega
   have I:∀s∈c,∃v g,ws[s.1]?=some v/\fs[s.1]?=some g/\x<=lV v g s.2:=λu L=>by obtain⟨v,g,B,E,_⟩:=JG u L;refine⟨v,g,B,E,?_⟩;have:=al _ (mem_map.mpr ⟨u,L,rfl⟩);unfold JR at this;rw[B,E]at this;exact this
   have X:∀s∈c,s.1<ws.length:=λu L=>by obtain⟨v,g,B,_⟩:=JG u L;exact(dw B).1
   obtain⟨F',J⟩:=H.more t A hc ar I;have Y:zY m ws (cs++[(c,x)]):=by obtain⟨g1,g2⟩:=H.ht t A hc;refine hst.snoc (λy hy=>Int.le_trans (H.ch y hy).1 g2) ?_;have Z:=H;rw[G]at Z g1 I;exact⟨⟨_,_,Z⟩,g1,by rw[<-G];exact hc.gV,I⟩
   have C:=hS.more h H.pt t A hc hs B E;rw[ap]at C;obtain⟨P',QF,Gr,C⟩:=C;have aI:=C.few hn;generalize c.map (JR ws fs)=ns at*;simp[eX,ah,h6];apply ak;simp[show cs.length<16777216 by omega];apply ak;simp;refine CQ (.inr ⟨true,rfl⟩) (λu L=>by rw[ac];exact X u L) ?_;simp;apply ak;have av:aug x fs c=flow ws.length (cs++[(c,x)]):=by rw[Cr,<-G]
   simp;refine uB (by omega) J.pt (.inr ⟨true,rfl⟩) h J.fit.len λaw ax=>?_;simp;refine⟨M-1,by omega,cs++[(c,x)],aug x fs c,aw,F',o.2,.val false (.tup (c.map sD)),.val false (.int x),by simp[cD],⟨rfl,rfl⟩,av,J,ax,⟨P',QF,Gr,by rw[length_append];exact C⟩,by simp;omega,λy hy=>?_,Y⟩;rcases mem_append.mp hy with hy|hy;.exact O y hy
   . obtain rfl:y=(c,x):=by simpa using hy
     exact⟨af,X,hc.Gq,hc.nd⟩
 .have kt:pg (es.map en) (m-1)=false:=kin_no hq;simp[kt];apply ak;simp;exact k cs fs F d es (by omega) ⟨G,H,t,hq,O,hst⟩
theorem MN{c:Call}{x:Nat}{k d:P}:ev c (.Sd x k d) ρ=match ρ[x]?with
 |some (.fC _)=>(bK (isVar k) (ev c k) ρ).bind λe ρ=>(bK (isVar d) (ev c d) ρ).bind λh ρ=>match ρ[x]?with|some (.fC m)=>lift ((m.get e).bind λo=>(dW h).map λv=>.val (.int (o.getD v))) ρ|_=>.stuck
 |_=>.stuck:=(rfl)
theorem Hj{c:Call}{x:Nat}:ex c n (.Gh x false) ρ=match ρ[x]?with|some .aP=>.ok .next (ρ.set x (.fC (.k [])))|_=>.stuck:=(rfl)
theorem Ju{c:Call}{x:Nat}{k e:P}:ex c n (.dput x k e) ρ=(ev c e ρ).bind λr ρ=>match ρ[x]?with
 |some (.fC _)=>(bK (isVar k) (ev c k) ρ).bind λh ρ=>match ρ[x]?,r with
   |some (.fC m),.val (.int v)=>match m.put h v with|some t=>.ok .next (ρ.set x (.fC t))|none=>.stuck
   |_,_=>.stuck
 |_=>.stuck:=(rfl)
@[simp]theorem Rj{x:Nat}{k d:P}:isVar (.Sd x k d)=none:=rfl
@[simp]theorem VF{kvs:List (Int×Int)}:blt .Ge [.cH (.k kvs)]=if kvs.length<=16777216/\kvs.Pairwise (λa b=>a.1<b.1)then some (.own (kvs.map mC))else none:=rfl
theorem Oe:(Dc.get (.k kvs) (.int i))=some ((kvs.find? λe=>decide (e.1=i)).map (·.2)):=rfl
theorem UL{v:Int}(h:kvs.length<lim):Dc.put (.k kvs) (.int i) v=some (.k (putD kvs i v)):=by show(if _ then _ else _)=_;rw[if_pos h]
def hsD(ws:List Wy)(d:D):D:=.int (hst ws (Ue d))
theorem yI{ws:List Wy}:∀{c:List aq},(c.map (hst ws)).sum=bD ws c|[]=>rfl|s::c=>by rw[map_cons,List.sum_cons,yI,bD]
inductive F2s(a b:Sl)(ρ:List Sl):Prop where|mk(s:Sl)(q0:ρ=[a,b,s])(q1:fr s=true)
theorem wZ(hc:∀s∈c,s.1<ws.length)(B:c.length<=1000)(k:Q (.val (.int (bD ws c))) [.val false (bw m ws),.val false (.tup (c.map sD))]):(run Γ w (n+2) 3 [.val false (bw m ws),.val false (.tup (c.map sD))]).sat Q:=by
 refine aU (d:=f3) rfl rfl (by decide) ?_;symm;simp[f3,show c.length<=16777216 by omega];refine gn (F2s _ _) (hsD ws) ⟨.aP,rfl,rfl⟩ ?_ ?_
 . rintro d hd _⟨A,rfl,h⟩;obtain⟨s,hs,rfl⟩:=mem_map.mp hd;have y:=hc s hs;have e:ws[s.1]?=some ws[s.1]:=by simp[y]
   simp[h,sD];refine pP e ?_;simp;refine⟨?_,_,rfl,rfl⟩;show D.int (hst ws (Ue (sD s)))=_;rw[EY,fY e]
 rintro _⟨A,rfl,h⟩;have t:(c.map sD).map (hsD ws)=(c.map (hst ws)).map D.int:=by rw[map_map,map_map];rfl
 rw[t];have u:=yI (ws:=ws) (c:=c);generalize c.map (hst ws)=ns at*;simp[eX,u];exact k
def gv(kvs:List (Int×Int))(k:Int):Int:=((kvs.find? λe=>decide (e.1=k)).map (·.2)).getD 0
def Ug(W:Int->Int->Int):Prop:=∀k a b,W k (a+b)=W k a+W k b
def p6(W:Int->Int->Int):List (Int×Int)->Int|[]=>0|kv::r=>W kv.1 kv.2+p6 W r
theorem yN{W:Int->Int->Int}{b:List (Int×Int)}:∀{a:List (Int×Int)},p6 W (a++b)=p6 W a+p6 W b|[]=>by simp[p6]|x::a=>by rw[cons_append,p6,p6,yN];omega
theorem zm{k v:Int}:∀{r:List (Int×Int)},k∉r.map (·.1)->(r.map λe=>if e.1=k then(e.1,v)else e)=r|[],_=>rfl|x::r,h=>by rw[map_cons,mem_cons,not_or]at h;rw[map_cons,zm h.2,if_neg (λz=>h.1 z.symm)]
theorem yh{W:Int->Int->Int}(A:Ug W){k x:Int}:∀{r:List (Int×Int)},(r.map (·.1)).Nodup->k∈r.map (·.1)->p6 W (r.map λe=>if e.1=k then(e.1,gv r k+x)else e)=p6 W r+W k x
 |[],_,h=>by cases h|y::r,t,h=>by
   rw[map_cons,nodup_cons]at t;by_cases c:y.1=k
   . have u:gv (y::r) k=y.2:=by unfold gv;rw[find?_cons];simp[c]
     rw[u,map_cons,if_pos c,zm (by rw[<-c];exact t.1),p6,p6];show W y.1 (y.2+x)+_=_;rw[A,c];omega
   . have u:gv (y::r) k=gv r k:=by unfold gv;rw[find?_cons];simp[c]
     have B:k∈r.map (·.1):=by
      rcases mem_cons.mp h with h|h;.exact absurd h.symm c
      .exact h
     rw[u,map_cons,if_neg c,p6,p6,yh A t.2 B];omega
theorem M5(h:k∉r.map (·.1)):gv r k=0:=by
 unfold gv;rw[List.find?_eq_none.mpr];.rfl
 .intro x t;simp;intro e;exact h (mem_map.mpr ⟨x,t,e⟩)
theorem U8(h:∀t∈r,0<t.2):0<=gv r k:=by unfold gv;cases e:r.find? λt=>decide (t.1=k)with|none=>simp|some x=>have:=h x (List.mem_of_find?_eq_some e);simp;omega
theorem rR{x:Int}(u:(r.map (·.1)).Nodup):((putD r k (gv r k+x)).map (·.1)).Nodup/\(putD r k (gv r k+x)).length<=r.length+1/\(∀h∈putD r k (gv r k+x),h=(k,gv r k+x)\/h∈r)/\∀W,Ug W->p6 W (putD r k (gv r k+x))=p6 W r+W k x:=by
 have B:(r.any λh=>decide (h.1=k))=true↔k∈r.map (·.1):=by rw[any_eq_true,mem_map];exact⟨λ⟨y,h1,A⟩=>⟨y,h1,by simpa using A⟩,λ⟨y,h1,A⟩=>⟨y,h1,by simpa using A⟩⟩
 unfold putD;by_cases c:k∈r.map (·.1)
 . rw[if_pos (B.mpr c)];have e:(r.map λh=>if h.1=k then(h.1,gv r k+x)else h).map (·.1)=r.map (·.1):=by rw[map_map];refine map_congr_left λy _=>?_;show(if y.1=k then _ else _:Int×Int).1=y.1;split<;>rfl
   refine⟨by rw[e];exact u,by simp,λh t=>?_,λW C=>yh C u c⟩;obtain⟨y,E,rfl⟩:=mem_map.mp t;by_cases z:y.1=k;.rw[if_pos z,z];exact .inl rfl
   .rw[if_neg z];exact .inr E
 . rw[if_neg λz=>c (B.mp z),M5 c,Int.zero_add];refine⟨?_,by simp,λh t=>?_,λW _=>?_⟩;.rw[map_append,nodup_append];exact⟨u,by simp,λa G b H e=>c (by
      have:b=k:=by simpa using H
      rw[<-this,<-e];exact G)⟩
   . rcases mem_append.mp t with hj|hj;.exact .inr hj
     .exact .inl (mem_singleton.mp hj)
   .rw[yN];simp[p6]
theorem Nk{v:Int}(h:r.Pairwise (λa b=>a.1<b.1))(u:∀y∈r,y.1<=k):(putD r k v).Pairwise (λa b=>a.1<b.1):=by
 unfold putD;split;.rw[List.pairwise_map];refine h.imp λ{a b}e=>?_;split<;>split<;>exact e
 .rename_i A;rw[List.pairwise_append];refine⟨h,by simp,λa t b B=>?_⟩;have h1:=u a t;have C:a.1≠k:=λz=>A (any_eq_true.mpr ⟨a,t,by simpa using z⟩);rw[mem_singleton.mp B];show a.1<k;omega
def W8:D->Int×Int|.tup [.int a,.int b]=>(a,b)|_=>(0,0)
@[simp]theorem abO{a b:Int}:W8 (.tup [.int a,.int b])=(a,b):=rfl
structure Mt(ws:List Wy)(cs:List (List aq×Int))(kvs:List (Int×Int)):Prop where
 nd:(kvs.map (·.1)).Nodup
 len:kvs.length<=cs.length
 nn:∀kv∈kvs,1<=kv.1/\0<kv.2
 key:∀kv∈kvs,∃x∈cs,kv.1=bD ws x.1
 so:kvs.Pairwise (λa b=>a.1<b.1)sm:∀W,Ug W->p6 W kvs=cM (λx=>W (bD ws x.1) x.2) cs
theorem Mt.put(h:Mt ws cs kvs){x:List aq×Int}(h0:1<=bD ws x.1)(h1:0<x.2)(E:∀y∈cs,bD ws y.1<=bD ws x.1):Mt ws (cs++[x]) (putD kvs (bD ws x.1) (gv kvs (bD ws x.1)+x.2)):=by
 obtain⟨G,I,B,H⟩:=rR (k:=bD ws x.1) (x:=x.2) h.nd;have J:=h.len;refine⟨G,by simp;omega,λu t=>?_,λu t=>?_,Nk h.so λu t=>?_,λW C=>?_⟩
 . rcases B u t with e|e;.have:=U8 (k:=bD ws x.1) λu t=>(h.nn u t).2;rw[e];exact⟨h0,by show 0<_+_;omega⟩
   .exact h.nn u e
 . rcases B u t with e|e;.exact⟨x,by simp,by rw[e]⟩
   .obtain⟨y,A,e⟩:=h.key u e;exact⟨y,by simp[A],e⟩
 .obtain⟨y,A,e⟩:=h.key u t;rw[e];exact E y A
 .rw[H W C,h.sm W C,jK]
theorem FT{ws:List Wy}{b:Int}(h0:∀v∈ws,0<=v.h)(t:∀v∈ws,v.h<=1000000):∀{c:List aq}{a:Int},gq ws b c a->bD ws c<=1000000*(c.length:Int)
 |[],_,_=>by simp[bD]|s::c,a,⟨v,e,_,u⟩=>by
   have h1:=FT h0 t u;have y:=t v (mem_of_getElem? e);have A:=h0 v (mem_of_getElem? e);have B:hst ws s<=1000000:=by rw[fY e];unfold hsp;split<;>omega
   rw[bD,length_cons];omega
theorem Mt.few(h:Mt ws cs kvs)(y:∀x∈cs,Chk m ws x)(A:ws.length<=12):kvs.length<=531441:=by
 have h1:=jC (l2:=(pC ws.length).map λe=>jf ws e/7) h.nd λk t=>by obtain⟨B,u,rfl⟩:=mem_map.mp t;obtain⟨x,C,e⟩:=h.key B u;obtain⟨c1,c2,c3,c4⟩:=y x C;refine mem_map.mpr ⟨Ad ws.length x.1,by have:=nZ (e:=Ad ws.length x.1);rwa[qP]at this,?_⟩;rw[rG c3 c4,e];unfold vA;omega
 rw[length_map,length_map,nR]at h1;have E:3^ws.length<=3^12:=Nat.pow_le_pow_right (by decide) A;have G:(3:Nat)^12=531441:=by decide
 omega
inductive JBn(m:Int)(ws:List Wy)(cs:List (List aq×Int))(r:List D)(ρ:List Sl):Prop where|mk(bJ us:List (List aq×Int))(kvs:List (Int×Int))(s2 s3 s4:Sl)(q0:ρ=[.val false (bw m ws),.fC (.k kvs),s2,s3,s4])(q1:A3 (fr s2=true) (fr s3=true) (fr s4=true))(q2:r=us.map cD)(q3:bJ++us=cs)(q4:Mt ws bJ kvs)
theorem Aa(Z:13286250<=w)(h:gh m ws)(k:∀cs fs F d es kvs,kvs.length<=531441->Ends m ws cs fs F d es->Mt ws cs kvs->kvs.Pairwise (λa b=>a.1<b.1)->(∀H∈kvs,H.1<=6000000)->Q (.own (kvs.map mC)) [.val false (bw m ws)]):(run Γ w (n+5) 9 [.val false (bw m ws)]).sat Q:=by
 refine aU (d:=f9) rfl rfl (by decide) ?_;symm;simp[f9,Hj];apply ak;simp;refine Bt Z (HN.of h) (λv C=>(h.ok v C).r0) λcs fs F d es hl A=>?_;simp;refine bM (JBn m ws cs) ?_ ?_ ⟨[],cs,[],.aP,.aP,.aP,rfl,⟨rfl,rfl,rfl⟩,rfl,rfl,⟨by simp,by simp,by simp,by simp,by simp,λW _=>rfl⟩⟩;.rintro d r _⟨E,B,kvs,s2,s3,s4,rfl,⟨I,U,X⟩,hr,hd,t⟩;cases B with|nil=>cases hr|cons u B=>
     obtain⟨rfl,rfl⟩:d=cD u/\r=B.map cD:=by simpa using hr
     have J:u∈cs:=by rw[<-hd];simp
     have G:=A.ck u J;have ac:E.length<=cs.length:=by rw[<-hd];simp
     have L:=t.len;have M:(E++[u])++B=cs:=by rw[append_assoc];exact hd
     simp[cD,I,U];apply ak;simp;refine wZ G.2.1 (by have:=G.1;omega) ?_;simp[X];apply ak;simp[Ju,MN,Oe];rw[UL (by show _<16777216;omega)];simp;refine⟨E++[u],B,_,_,_,_,rfl,⟨rfl,rfl,rfl⟩,rfl,M,t.put ((A.iv.nn λv C=>(h.ok v C).h0).2 u J) (A.iv.ch u J).2.1 λy hy=>?_⟩;have hst:=A.st.1;rw[<-hd,List.pairwise_append]at hst;exact hst.2.2 y hy u (by simp)
 . rintro _⟨E,B,kvs,s2,s3,s4,rfl,⟨I,U,X⟩,hr,hd,t⟩;have:B=[]:=by cases B with|nil=>rfl|cons _ _=>cases hr
   subst this;rw[append_nil]at hd;subst hd;have L:=t.len;simp;apply ak;simp[show kvs.length<=16777216 by omega,t.so];refine k E fs F d es kvs (t.few A.ck (HN.of h).len) A t t.so λH O=>?_;obtain⟨x,Y,e⟩:=t.key H O;have h1:=FT (λv C=>((HN.of h).ok v C).2.2) (λv C=>(h.ok v C).h1) (A.ck x Y).2.2.1;have I:=(A.ck x Y).1;rw[e];omega
def vt(T k v:Int):Int:=if k<=T then v*(T-k+1)else 0
def gt(T k v:Int):Int:=if k<=T then v else 0
theorem Ms{T:Int}:Ug (vt T):=λk a b=>by
 unfold vt;split;.exact Int.add_mul ..
 .rfl
theorem aaq{T:Int}:Ug (gt T):=λk a b=>by unfold gt;split<;>rfl
def dg(m:Int)(ws:List Wy)(cs:List (List aq×Int)):Prop:=(∀v∈ws,1<=v.h)/\∃fs F d es,Ends m ws cs fs F d es
def Rt(ws:List Wy)(cs:List (List aq×Int))(T:Int):Int:=cM (λx=>gt T (bD ws x.1) x.2) cs
def Tot(cs:List (List aq×Int)):Int:=cM (λx=>x.2) cs
theorem iw.uniq{T v e:Int}(h:iw m ws T v)(h':iw m ws T e):v=e:=by obtain⟨q,t,u,y⟩:=h.ex;obtain⟨r,r0,r1,A⟩:=h'.ex;have:=h.le r r0 r1;have:=h'.le q t u;omega
theorem dg.least{m:Int}{ws:List Wy}{cs:List (List aq×Int)}(h:dg m ws cs){T:Int}(h0:0<=T):iw m ws T (val ws T cs):=by obtain⟨t,fs,F,d,es,e⟩:=h;exact e.iv.least e.cm e.no h0
theorem tK{H K:List aq×Int->Int}:∀{cs:List (List aq×Int)},cM (λx=>H x-K x) cs=cM H cs-cM K cs|[]=>rfl|x::cs=>by rw[cM,cM,cM,tK];omega
theorem rF{H K:List aq×Int->Int}:∀{cs:List (List aq×Int)},(∀x∈cs,H x<=K x)->cM H cs<=cM K cs|[],_=>Int.le_refl _|x::cs,h=>by have h1:=h x (by simp);have t:=rF (H:=H) (K:=K) (cs:=cs) λy e=>h y (by simp[e]);rw[cM,cM];omega
theorem vZ{T:Int}:Rt ws cs T=val ws T cs-val ws (T-1) cs:=by
 unfold Rt val;rw[<-tK];refine mF λx _=>?_;show gt T (bD ws x.1) x.2=vt T (bD ws x.1) x.2-vt (T-1) (bD ws x.1) x.2;unfold gt vt;by_cases c:bD ws x.1<=T-1;.rw[if_pos (by omega),if_pos (by omega),if_pos c,<-Int.mul_sub,show T-bD ws x.1+1-(T-1-bD ws x.1+1)=1 by omega,mul_one]
 . by_cases c2:bD ws x.1<=T;.rw[if_pos c2,if_pos c2,if_neg c,show T-bD ws x.1+1=1 by omega,mul_one];omega
   .rw[if_neg c2,if_neg c2,if_neg c];rfl
theorem dg.nn{m:Int}{ws:List Wy}{cs:List (List aq×Int)}(h:dg m ws cs):∀x∈cs,1<=bD ws x.1/\0<x.2:=by obtain⟨e,fs,F,d,es,t⟩:=h;exact λx u=>⟨(t.iv.nn e).2 x u,(t.iv.ch x u).2.1⟩
theorem dg.cj(h:dg m ws cs){T:Int}(h0:T<=0):val ws T cs=0:=by
 have:val ws T cs=cM (λ_=>0) cs:=mF λx e=>by have:=(h.nn x e).1;show vt T (bD ws x.1) x.2=0;unfold vt;rw[if_neg (by omega)]
 rw[this];clear this h;induction cs with|nil=>rfl|cons x cs t=>rw[cM,t];rfl
theorem dg.val_eq{e:List (List aq×Int)}(h:dg m ws cs)(h':dg m ws e)(T:Int):val ws T cs=val ws T e:=by
 by_cases c:0<=T;.exact(h.least c).uniq (h'.least c)
 .rw[h.cj (by omega),h'.cj (by omega)]
theorem dg.abY{e:List (List aq×Int)}(h:dg m ws cs)(h':dg m ws e)(T:Int):Rt ws cs T=Rt ws e T:=by rw[vZ,vZ,h.val_eq h',h.val_eq h']
theorem dg.mono(h:dg m ws cs){T U:Int}(t:T<=U):Rt ws cs T<=Rt ws cs U:=rF λx e=>by have:=(h.nn x e).2;unfold gt;split<;>split<;>omega
theorem dg.acj(h:dg m ws cs){T:Int}:Rt ws cs T<=Tot cs:=rF λx e=>by have:=(h.nn x e).2;unfold gt;split<;>omega
theorem dg.abW(h:dg m ws cs){T:Int}:0<=Rt ws cs T:=by
 have h1:=h.mono (T:=min T 0) (U:=T) (by omega);have:Rt ws cs (min T 0)=0:=by rw[vZ,h.cj (by omega),h.cj (by omega)];rfl
 omega
def WT(T:Int)(d:D):Option D:=if(W8 d).1<=T then some (.int ((W8 d).2*(T-(W8 d).1+1)))else none
theorem DK{T:Int}:∀(kvs:List (Int×Int)),∃ns:List Int,(kvs.map mC).filterMap (WT T)=ns.map D.int/\ns.sum=p6 (vt T) kvs
 |[]=>⟨[],rfl,rfl⟩|kv::r=>by
   obtain⟨ns,h1,h⟩:=DK (T:=T) r;have e:WT T (mC kv)=if kv.1<=T then some (.int (kv.2*(T-kv.1+1)))else none:=rfl;rw[map_cons,filterMap_cons,h1,p6,<-h,e];unfold vt;by_cases c:kv.1<=T;.rw[if_pos c,if_pos c];exact⟨_::ns,rfl,by rw[List.sum_cons]⟩
   .rw[if_neg c,if_neg c];exact⟨ns,rfl,by omega⟩
inductive F2t(a b:Sl)(ρ:List Sl):Prop where|mk(s:Sl)(t:Sl)(q0:ρ=[a,b,s,t])(q1:fr s=true)(q2:fr t=true)
theorem vO{T:Int}{s:Sl}(hs:s=.own false (kvs.map mC)\/s=.val false (.lst (kvs.map mC)))(B:kvs.length<=16000000)(h0:∀h∈kvs,1<=h.1/\0<h.2)(C:T<=1000000000000000000)(k:Q (.val (.int (p6 (vt T) kvs))) [s,.val false (.int T)]):(run Γ w (n+1) 10 [s,.val false (.int T)]).sat Q:=by refine aU (d:=W7) rfl rfl (by decide) ?_;symm;rcases hs with rfl|rfl;all_goals
  simp[W7,show kvs.length<=16777216 by omega];refine lA (F2t _ _) (WT T) ⟨.aP,.aP,rfl,rfl,rfl⟩ ?_ ?_
  . rintro d hd _⟨s,t,rfl,hs,ht⟩;obtain⟨h,u,rfl⟩:=mem_map.mp hd;have:=(h0 h u).1;have e:WT T (mC h)=if h.1<=T then some (.int (h.2*(T-h.1+1)))else none:=rfl;by_cases c:h.1<=T
    . rw[if_pos c]at e;have y:jU (.int h.2) (.int (T-h.1+1))=some (.val (.int (h.2*(T-h.1+1)))):=by show(if _ then _ else _)=_;rw[if_pos];right;omega
      rw[e];simp[hs,ht,mC,c,y];exact⟨_,_,rfl,rfl,rfl⟩
    .rw[if_neg c]at e;rw[e];simp[hs,ht,mC,c];exact⟨_,_,rfl,rfl,rfl⟩
  .rintro _⟨s,t,rfl,hs,ht⟩;obtain⟨ns,h1,A⟩:=DK (T:=T) kvs;rw[h1];simp[eX,A];exact k
theorem nG{T:Int}(t:13286250<=w)(h:gh m ws)(u:T<=1000000000000000000)(k:∀cs,dg m ws cs->Q (.val (.int (val ws T cs))) [.val false (bw m ws),.val false (.int T)]):(run Γ w (n+6) 11 [.val false (bw m ws),.val false (.int T)]).sat Q:=by refine aU (d:=f11) rfl rfl (by decide) ?_;symm;simp[f11];refine Aa t h λcs fs F d es kvs B y e _ _=>?_;simp;refine vO (.inl rfl) (by omega) e.nn u ?_;simp;rw[e.sm _ Ms];exact k cs ⟨λv A=>(h.ok v A).h0,fs,F,d,es,y⟩
theorem Nu{c:Call}{x:Nat}{e:P}:ev c (.Sg x e) ρ=(lift (pk ρ x) ρ).bind λ_ ρ=>(bK (isVar e) (ev c e) ρ).bind λk ρ=>(lift (pk ρ x) ρ).bind λd ρ=>lift (Js d k) ρ:=(rfl)
@[simp]theorem QX{x:Nat}{e:P}:isVar (.Sg x e)=none:=rfl
theorem Od{S:List Int}(h:i∈S)(e:S.length<=1000):Js (.lst (S.map D.int)) (.int i)=some (.val (.int (S.idxOf i))):=by show((S.map D.int).mapM dW).bind _=_;rw[eX];show(if _ then _ else _)=_;rw[if_pos ⟨h,e⟩]
def jz(m:Int):List Int:=(List.range m.toNat).map λ(i:Nat)=>(i:Int)
def oth(m:Int)(St:List Int):List Int:=(jz m).filter λp=>!St.contains p
def jn(m:Int)(St:List Int)(p:Int):Int:=if St.contains p=true then 0 else((oth m St).idxOf p:Int)+1
theorem gB:p∈jz m↔0<=p/\p<m:=by
 unfold jz;rw[mem_map];constructor;.rintro⟨i,hi,rfl⟩;have:=mem_range.mp hi;omega
 .rintro⟨h0,h1⟩;exact⟨p.toNat,mem_range.mpr (by omega),by omega⟩
theorem rH{St:List Int}:p∈oth m St↔(0<=p/\p<m)/\p∉St:=by unfold oth;rw[List.mem_filter,gB];simp
theorem mO:(jz m).length=m.toNat:=by unfold jz;simp
theorem yO{St:List Int}:(oth m St).length<=m.toNat:=by have:=List.length_filter_le (λp=>!St.contains p) (jz m);rw[mO]at this;exact this
theorem yD{St:List Int}(m0:1<=m)(h:m-1∉St):∃l,oth m St=l++[m-1]/\m-1∉l:=by
 have e:jz m=jz (m-1)++[m-1]:=by unfold jz;rw[show m.toNat=(m-1).toNat+1 by omega,range_succ,map_append];congr 1;show[(((m-1).toNat:Nat):Int)]=_;rw[toNat_of_nonneg (by omega)]
 refine⟨(jz (m-1)).filter λp=>!St.contains p,?_,λz=>?_⟩;.unfold oth;rw[e,filter_append];congr 1;simp[h]
 .have:=gB.mp (List.mem_filter.mp z).1;omega
theorem BX{St:List Int}(m0:1<=m)(h:m-1∉St):jn m St (m-1)=((oth m St).length:Int):=by obtain⟨l,e,t⟩:=yD m0 h;unfold jn;rw[if_neg (by simpa using h),e,List.idxOf_append,if_neg t];simp
theorem DQ{St:List Int}(h:0<=p/\p<m):0<=jn m St p/\jn m St p<=((oth m St).length:Int):=by
 unfold jn;by_cases c:St.contains p=true;.rw[if_pos c];omega
 .rw[if_neg c];have:=List.idxOf_lt_length_iff.mpr (rH.mpr ⟨h,by simpa using c⟩);omega
def qj(m:Int)(St:List Int)(q:Int->Int)(i:Int):Int:=if i=0 then 0 else q ((oth m St).getD (i-1).toNat 0)
theorem BJ{St:List Int}(h:0<=p/\p<m)(e:p∈St->q p=0):qj m St q (jn m St p)=q p:=by
 unfold jn;by_cases c:St.contains p=true;.rw[if_pos c,e (by simpa using c)];rfl
 .rw[if_neg c];have t:=rH.mpr ⟨h,(by simpa using c:p∉St)⟩;have hi:=List.idxOf_lt_length_iff.mpr t;unfold qj;rw[if_neg (by omega),show(((oth m St).idxOf p:Int)+1-1).toNat=(oth m St).idxOf p by omega,List.getD_eq_getElem?_getD,getElem?_eq_getElem hi];show q (oth m St)[(oth m St).idxOf p]=_;rw[List.getElem_idxOf hi]
def jw(m:Int)(St:List Int)(v:Wy):Wy:=⟨jn m St v.s,jn m St v.t,v.r,v.h⟩
def vK(m:Int)(St:List Int)(ws:List Wy):List Wy:=(ws.map (jw m St)).filter λv=>decide (v.s≠v.t)
def jm(m:Int)(St:List Int):Int:=((oth m St).length:Int)+1
theorem nH{m:Int}{St:List Int}{g q:Int->Int}:∀{ws:List Wy},(∀v∈ws,0<=v.h/\g (jn m St v.s)=q v.s/\g (jn m St v.t)=q v.t)->cJ g (vK m St ws)=cJ q ws
 |[],_=>rfl|v::ws,h=>by
   have h1:=h v (by simp);have A:=nH (m:=m) (St:=St) (g:=g) (q:=q) (ws:=ws) λu C=>h u (by simp[C]);have B:cJ q (v::ws)=du q v+cJ q ws:=rfl;by_cases c:jn m St v.s=jn m St v.t
   . have e:vK m St (v::ws)=vK m St ws:=by unfold vK;rw[map_cons,List.filter_cons_of_neg (by simp[jw,c])]
     have y:du q v=0:=by unfold du;rw[<-h1.2.1,<-h1.2.2,c,max_eq_left (by omega),mul_zero]
     rw[e,A,B,y];omega
   . have e:vK m St (v::ws)=jw m St v::vK m St ws:=by unfold vK;rw[map_cons,List.filter_cons_of_pos (by simp[jw,c])]
     have y:du g (jw m St v)=du q v:=by unfold du jw;simp only;rw[h1.2.1,h1.2.2]
     have E:cJ g (jw m St v::vK m St ws)=du g (jw m St v)+cJ g (vK m St ws):=rfl;rw[e,E,y,A,B]
def iB(m:Int)(St:List Int):Prop:=∀p∈St,0<=p/\p<m-1
theorem iB.ne{St:List Int}(h:iB m St):m-1∉St:=λz=>by have:=h _ z;omega
theorem Jg{St:List Int}(h:gh m ws)(H:m<=6)(y:iB m St):gh (jm m St) (vK m St ws):=by
 have m0:=h.m0;obtain⟨l,e,_⟩:=yD (by omega) y.ne;have A:=yO (m:=m) (St:=St);have h1:1<=(oth m St).length:=by rw[e];simp
 refine⟨by unfold jm;omega,by unfold jm;omega,?_,λv B=>?_⟩;.have:=List.length_filter_le (λv=>decide (v.s≠v.t)) (ws.map (jw m St));rw[length_map]at this;have:=h.len;unfold vK;omega
 .obtain⟨C,E⟩:=List.mem_filter.mp B;obtain⟨u,G,rfl⟩:=mem_map.mp C;have o:=h.ok u G;have b1:=DQ (St:=St) ⟨o.s0,o.s1⟩;have b2:=DQ (St:=St) ⟨o.t0,o.t1⟩;exact⟨b1.1,by unfold jm;show jn m St u.s<_;omega,b2.1,by unfold jm;show jn m St u.t<_;omega,by simpa using E,o.r0,o.r1,o.h0,o.h1⟩
structure fW(m:Int)(St:List Int)(ws:List Wy)(T v:Int):Prop where
 ex:∃q:Int->Int,(∀p∈St,q p=0)/\q (m-1)=T+1/\cJ q ws=v
 le:∀q:Int->Int,(∀p∈St,q p=0)->q (m-1)=T+1->v<=cJ q ws
theorem iW{T v:Int}{St:List Int}(h:gh m ws)(u:iB m St)(y:iw (jm m St) (vK m St ws) T v):fW m St ws T v:=by
 have m0:=h.m0;have A:=BX (St:=St) (m:=m) (by omega) u.ne;refine⟨?_,λq B C=>?_⟩
 . obtain⟨g,E,G,H⟩:=y.ex;refine⟨λp=>g (jn m St p),λp I=>?_,?_,?_⟩;.show g (jn m St p)=0;unfold jn;rw[if_pos (by simpa using I)];exact E
   .show g (jn m St (m-1))=_;rw[A,<-G];unfold jm;congr 1;omega
   .rw[<-H];exact(nH λv t=>⟨by have:=(h.ok v t).h0;omega,rfl,rfl⟩).symm
 . have e:=nH (m:=m) (St:=St) (g:=qj m St q) (q:=q) (ws:=ws) λv t=>by have o:=h.ok v t;exact⟨by have:=o.h0;omega,BJ ⟨o.s0,o.s1⟩ (B _),BJ ⟨o.t0,o.t1⟩ (B _)⟩
   rw[<-e];refine y.le _ rfl ?_;have:=BJ (m:=m) (p:=m-1) (St:=St) (q:=q) ⟨by omega,by omega⟩ (λz=>absurd z u.ne);rw[A]at this;unfold jm;rw[show((oth m St).length:Int)+1-1=((oth m St).length:Int)by omega,this,C]
inductive F2j(a0 a1 a2:Sl)(ρ:List Sl):Prop where|mk(s:Sl)(q0:ρ=[a0,a1,a2,s])(q1:fr s=true)
def HW(St:List Int)(d:D):Option D:=if St.contains (lY d)then none else some d
theorem yw{St:List Int}:∀{l:List Int},(l.map D.int).filterMap (HW St)=(l.filter λp=>!St.contains p).map D.int|[]=>rfl|p::l=>by have e:=yw (St:=St) (l:=l);cases c:St.contains p with|true=>rw[map_cons,List.filterMap_cons_none (by show(if St.contains p=true then _ else _)=_;rw[c];rfl),e,List.filter_cons_of_neg (by simp[c]at c ⊢;exact c)]|false=>rw[map_cons,List.filterMap_cons_some (b:=.int p) (by show(if St.contains p=true then _ else _)=_;rw[c];rfl),e,List.filter_cons_of_pos (by simp[c]at c ⊢;exact c)];rfl
def Xa(m:Int)(St:List Int)(d:D):D:=.int (jn m St (lY d))
theorem BW:((List.range m.toNat).map λ(k:Nat)=>D.int (k:Int))=(jz m).map D.int:=by unfold jz;rw[map_map];rfl
theorem uv{St:List Int}(m0:2<=m)(m1:m<=7)(B:St.length<=100)(k:Q (.own (((jz m).map (jn m St)).map D.int)) [.val false (bw m ws),.val false (.tup (St.map D.int))]):(run Γ w (n+1) 12 [.val false (bw m ws),.val false (.tup (St.map D.int))]).sat Q:=by
 refine aU (d:=Xg) rfl rfl (by decide) ?_;have y:=yO (m:=m) (St:=St);have hpl:=mO (m:=m);symm;simp[Xg,show m<=1000000000 by omega,show-1000000000<=m by omega];refine⟨λ_=>?_,by show _<=16777216;omega⟩;rw[BW];refine lA (F2j _ _ _) (HW St) ⟨.aP,rfl,rfl⟩ ?_ ?_
 . rintro d hd _⟨s,rfl,hs⟩;obtain⟨p,t,rfl⟩:=mem_map.mp hd;have h:=Ag (S:=St) (i:=p)
   cases c:St.contains p with|true=>
     have e:HW St (.int p)=none:=by show(if St.contains p=true then _ else _)=_;rw[c];rfl
     rw[c]at h;simp[hs,h,e];exact⟨_,rfl,rfl⟩|false=>
     have e:HW St (.int p)=some (.int p):=by show(if St.contains p=true then _ else _)=_;rw[c];rfl
     rw[c]at h;simp[hs,h,e];exact⟨_,rfl,rfl⟩
 rintro _⟨s,rfl,hs⟩;rw[yw];have A:((jz m).filter λp=>!St.contains p)=oth m St:=rfl;rw[A];simp;apply ak;simp[show m<=1000000000 by omega,show-1000000000<=m by omega];refine⟨λ_=>?_,by show _<=16777216;omega⟩;rw[BW];refine gn (F2j _ _ _) (Xa m St) ⟨.aP,rfl,rfl⟩ ?_ ?_
 . rintro d hd _⟨s,rfl,hs⟩;obtain⟨p,t,rfl⟩:=mem_map.mp hd;have t:=gB.mp t;have h:=Er (S:=St) (i:=p)
   cases c:St.contains p with|true=>
     have e:Xa m St (.int p)=.int 0:=by show D.int (if St.contains p=true then _ else _)=_;rw[c];rfl
     rw[c]at h;simp[hs,h,e];exact⟨_,rfl,rfl⟩|false=>
     have e:Xa m St (.int p)=.int ((oth m St).idxOf p+1):=by show D.int (if St.contains p=true then _ else _)=_;rw[c];rfl
     rw[c]at h;have u:=Od (S:=oth m St) (i:=p) (rH.mpr ⟨t,by simpa using c⟩) (by omega);simp[hs,h,Nu,u,e];exact⟨_,rfl,rfl⟩
 . rintro _⟨s,rfl,hs⟩;have e:((jz m).map D.int).map (Xa m St)=((jz m).map (jn m St)).map D.int:=by rw[map_map,map_map];rfl
   rw[e];generalize(jz m).map (jn m St)=js at*;simp;exact k
def Y5(m:Int)(St:List Int):D->D|.tup [.int s,.int t,.int r,.int h]=>(jw m St ⟨s,t,r,h⟩).d|d=>d
@[simp]theorem T7{m:Int}{St:List Int}{v:Wy}:Y5 m St v.d=(jw m St v).d:=rfl
def U3:D->Option D|.tup [.int s,.int t,.int r,.int h]=>if s=t then none else some (.tup [.int s,.int t,.int r,.int h])|d=>some d
theorem JV:U3 v.d=if v.s=v.t then none else some v.d:=rfl
theorem Eu:∀{l:List Wy},(l.map Wy.d).filterMap U3=(l.filter λv=>decide (v.s≠v.t)).map Wy.d
 |[]=>rfl|v::l=>by
   have e:=Eu (l:=l);by_cases c:v.s=v.t;.rw[map_cons,List.filterMap_cons_none (by rw[JV,if_pos c]),e,List.filter_cons_of_neg (by simp[c])]
   .rw[map_cons,List.filterMap_cons_some (b:=v.d) (by rw[JV,if_neg c]),e,List.filter_cons_of_pos (by simp[c])];rfl
theorem aaX{St:List Int}(h0:0<=p)(h1:p<m):at' (((jz m).map (jn m St)).map D.int) p=some (.int (jn m St p)):=by rw[oH h0 (by simp[jz];omega)];unfold jz;rw[map_map,map_map,getElem?_map,List.getElem?_range (by omega)];show some (D.int (jn m St (p.toNat:Int)))=_;rw[toNat_of_nonneg h0]
theorem Y9{St:List Int}(m0:1<=m)(e:iB m St):((jz m).map (jn m St)).max?=some ((oth m St).length:Int):=by rw[List.max?_eq_some_iff];refine⟨mem_map.mpr ⟨m-1,gB.mpr (by omega),BX m0 e.ne⟩,λb h=>?_⟩;obtain⟨p,t,rfl⟩:=mem_map.mp h;exact(DQ (gB.mp t)).2
inductive F4j(a0 a1 a2 a3:Sl)(ρ:List Sl):Prop where|mk(s:Sl)(q0:ρ=[a0,a1,a2,a3,s])(q1:fr s=true)
theorem Ca{St:List Int}(h:gh m ws)(E:iB m St)(G:St.length<=100)(k:Q (.val (bw (jm m St) (vK m St ws))) [.val false (bw m ws),.val false (.tup (St.map D.int))]):(run Γ w (n+2) 13 [.val false (bw m ws),.val false (.tup (St.map D.int))]).sat Q:=by
 have m0:=h.m0;have m1:=h.m1;have J:=h.len;have y:=Y9 (m:=m) (St:=St) (by omega) E;have u:∀p,0<=p->p<m->at' (((jz m).map (jn m St)).map D.int) p=some (.int (jn m St p)):=λp h0 h1=>aaX h0 h1;refine aU (d:=Xw) rfl rfl (by decide) ?_;symm;simp[Xw];refine uv m0 m1 G ?_;have H:((jz m).map (jn m St)).length<=7:=by rw[length_map,mO];omega
 generalize(jz m).map (jn m St)=js at*;simp;apply ak;simp[show ws.length<=16777216 by omega];refine gn (F4j _ _ _ _) (Y5 m St) ⟨.aP,rfl,rfl⟩ ?_ ?_;.rintro d hd _⟨s,rfl,hs⟩;obtain⟨v,B,rfl⟩:=mem_map.mp hd;have o:=h.ok v B;rw[T7];simp[hs,Wy.d,u _ o.s0 o.s1,u _ o.t0 o.t1,jw];exact⟨_,rfl,rfl⟩
 rintro _⟨s,rfl,hs⟩;have e:(ws.map Wy.d).map (Y5 m St)=(ws.map (jw m St)).map Wy.d:=by rw[map_map,map_map];rfl
 rw[e];have I:(ws.map (jw m St)).length=ws.length:=length_map _;have C:=k;unfold vK at C;generalize ws.map (jw m St)=A at*;simp;apply ak;simp[eX,y,show A.length<=16777216 by omega];refine lA (λρ=>∃s,ρ=[.val false (bw m ws),.val false (.tup (St.map D.int)),.own false (js.map D.int),.lent (A.map Wy.d),s]/\fr s=true) U3 ⟨.aP,rfl,rfl⟩ ?_ ?_
 . rintro d hd _⟨s,rfl,hs⟩;obtain⟨v,B,rfl⟩:=mem_map.mp hd;by_cases c:v.s=v.t;.simp[hs,Wy.d,U3,c]
   .simp[hs,Wy.d,U3,c]
 rintro _⟨s,rfl,hs⟩;rw[Eu];generalize(A.filter λv=>decide (v.s≠v.t))=fs at*;simp;exact C
theorem iY{T:Int}{St:List Int}(t:13286250<=w)(h:gh m ws)(u:m<=6)(e:iB m St)(y:St.length<=100)(h0:0<=T)(A:T<=1000000000000000000)(k:∀v,iw (jm m St) (vK m St ws) T v->Q (.val (.int v)) [.val false (bw m ws),.val false (.tup (St.map D.int)),.val false (.int T)]):(run Γ w (n+7) 14 [.val false (bw m ws),.val false (.tup (St.map D.int)),.val false (.int T)]).sat Q:=by refine aU (d:=Wo) rfl rfl (by decide) ?_;symm;simp[Wo];refine Ca h e y ?_;simp;refine nG t (Jg h u e) A λcs B=>?_;simp;exact k _ (B.least h0)
theorem nF(h:a<=1000000000000000000000):a<big:=by show _<(1606938044258990275541962092341162602522202993782792835301376:Int);omega
theorem uc{ns:List Int}{lo hi:Int}(h0:0<=i)(h1:i<(ns.length:Int))(k:∀x∈ns,lo<=x/\x<=hi):∃r,at' (ns.map D.int) i=some (.int r)/\lo<=r/\r<=hi:=by
 have e:i.toNat<ns.length:=by omega
 refine⟨ns[i.toNat],?_,k _ (getElem_mem e)⟩;rw[oH h0 (by simpa using h1)];simp[e]
theorem vh{x y:Int}(h0:0<m)(e:m<big)(k:∀d x z:Int,0<=d->d<m->Q (.val (.int d)) [.own true [.int x,.int y,.int z],.val false (.int m)]):(run Γ w (n+2) 17 [.own true [.int x,.int y,.int z],.val false (.int m)]).sat Q:=by refine aU (d:=XH) rfl rfl (by decide) ?_;symm;simp[XH];refine bQ (by decide) (by decide) λa x z h t=>?_;simp;refine bQ (by decide) (by decide) λb x z b0 b1=>?_;simp[h0];exact k _ _ _ (Int.emod_nonneg _ (by omega)) (Int.emod_lt_of_pos _ h0)
inductive JNt(y m p l:Int)(i:Nat)(ρ:List Sl):Prop where|mk(x z:Int)(ws:List Wy)(s6 s7 s8:Sl)(q0:ρ=[.own true [.int x,.int y,.int z],.val false (.int 12),.val false (.int p),.val false (.int l),.val false (.int m),.own false (ws.map Wy.d),s6,s7,s8])(q1:A3 (fr s6=true) (fr s7=true) (fr s8=true))(q2:(∀v∈ws,v.Ok m))(q3:ws.length=i)
theorem BP{x y l:Int}(p0:1<=p)(p1:p<=1000000001)(l0:1<=l)(l1:l<=1000000)(k:∀(m:Int)(ws:List Wy)(x z:Int),gh m ws->m<=6->Q (.val (bw m ws)) [.own true [.int x,.int y,.int z],.val false (.int 12),.val false (.int p),.val false (.int l)]):(run Γ w (n+4) 18 [.own true [.int x,.int y,.int z],.val false (.int 12),.val false (.int p),.val false (.int l)]).sat Q:=by
 refine aU (d:=Xm) rfl rfl (by decide) ?_;symm;simp[Xm];refine bQ (by decide) (by decide) λd x z E G=>?_;simp;obtain⟨m,H,m0,m1⟩:∃m,m=2+d/\2<=m/\m<=6:=⟨_,rfl,by omega,by omega⟩;rw[<-H];symm;simp;apply ak;simp;refine bQ (by decide) (by decide) λc x z c0 c1=>?_;simp;refine bQ (by decide) (by decide) λe x z I J=>?_;obtain⟨N,A,N0,N1⟩:=uc (ns:=[12,c]) (lo:=0) (hi:=12) I (by simpa using J) (by simp;omega);simp only[map_cons,map_nil]at A;simp[A,show N<=1000000000 by omega];refine⟨by omega,?_⟩;refine iC (JNt y m p l) ?_ ?_ ⟨x,z,[],.aP,.aP,.aP,rfl,⟨rfl,rfl,rfl⟩,by simp,rfl⟩
 . rintro i _ hi⟨x,z,ws,s6,s7,s8,rfl,⟨L,M,O⟩,hok,U⟩;simp[L];apply ak;simp;refine bQ (by omega) (nF (by omega)) λa x z B C=>?_;simp[M];apply ak;simp;refine bQ (by omega) (nF (by omega)) λb x z b0 b1=>?_;obtain⟨t0,t1,W⟩:=other B C b0 b1;simp[O,show 0<m by omega];generalize(a+1+b)%m=t at*;refine cu (λρ=>∃x z s t,ρ=[.own true [.int x,.int y,.int z],.val false (.int 12),.val false (.int p),.val false (.int l),.val false (.int m),.own false (ws.map Wy.d),.val false (.int i),.val false (.int s),.val false (.int t)]/\0<=s/\s<m/\0<=t/\t<m/\s≠t) ?_ ?_;.simp;refine bQ (by decide) (by decide) λc x z c0 c1=>?_;simp;refine⟨λ_=>?_,λ_=>⟨x,z,a,t,⟨⟨rfl,rfl⟩,rfl,rfl⟩,B,C,t0,t1,λz=>W z.symm⟩⟩;symm;simp;refine⟨x,z,_,_,⟨⟨rfl,rfl⟩,rfl,rfl⟩,?_⟩;split<;>split<;>omega
   . rintro _⟨x,z,s,t,rfl,X,Y,Z,q4,q5⟩;symm;simp;refine vh (by omega) (nF (by omega)) λr x z r0 r1=>?_;simp;refine vh (by omega) (nF (by omega)) λh x z h0 h1=>?_;simp[show ws.length<16777216 by omega];refine⟨x,z,ws++[⟨s,t,r,1+h⟩],_,_,_,by rw[map_append];rfl,⟨rfl,rfl,rfl⟩,λu hu=>?_,by simp;omega⟩;rcases mem_append.mp hu with hu|hu;.exact hok u hu
     .rw[mem_singleton.mp hu];exact⟨X,Y,Z,q4,q5,r0,by show r<=_;omega,by show 1<=1+h;omega,by show 1+h<=_;omega⟩
 .rintro _⟨x,z,ws,s6,s7,s8,rfl,_,hok,U⟩;symm;simp;exact k m ws x z ⟨m0,by omega,by omega,hok⟩ m1
inductive FSt(y:Int)(a1:Sl)(ρ:List Sl):Prop where|mk(x z:Int)(s:Sl)(q0:ρ=[.own true [.int x,.int y,.int z],a1,s])(q1:fr s=true)
def PSt(m:Int)(d:D):Prop:=∃p,d=.int p/\0<=p/\p<m-1
theorem Cz{xs:List D}(h:∀x∈xs,PSt m x):∃St:List Int,xs=St.map D.int/\iB m St:=by induction xs with|nil=>exact⟨[],rfl,by simp[iB]⟩|cons x xs t=>obtain⟨p,rfl,u,A⟩:=h x (by simp);obtain⟨St,e,hs⟩:=t λy B=>h y (by simp[B]);exact⟨p::St,by rw[e];rfl,λq hq=>by
    rcases mem_cons.mp hq with rfl|hq;.exact⟨u,A⟩
    .exact hs q hq⟩
theorem wL{x y:Int}(m0:2<=m)(m1:m<=6)(k:∀(St:List Int)(x z:Int),iB m St->(St.length:Int)<=m-1->Q (.val (.tup (St.map D.int))) [.own true [.int x,.int y,.int z],.val false (.int m)]):(run Γ w (n+2) 19 [.own true [.int x,.int y,.int z],.val false (.int m)]).sat Q:=by
 refine aU (d:=WQ) rfl rfl (by decide) ?_;symm;simp[WQ,show m-1<=1000000000 by omega,show-1000000000<=m-1 by omega];refine⟨λ_=>?_,by omega⟩;refine zG (FSt y _) (PSt m) ⟨x,z,.aP,rfl,rfl⟩ ?_ ?_
 . rintro d hd _⟨x,z,s,rfl,hs⟩;obtain⟨j,t,rfl⟩:=mem_map.mp hd;have t:=mem_range.mp t;simp[hs];refine bQ (by decide) (by decide) λc x z c0 c1=>?_;simp;have u:PSt m (D.int (j:Int)):=⟨j,rfl,by omega,by omega⟩;split;.exact⟨u,x,z,_,rfl,rfl⟩
   .exact⟨x,z,_,rfl,rfl⟩
 .rintro xs _⟨x,z,s,rfl,hs⟩e h;obtain⟨St,rfl,A⟩:=Cz h;simp at e;simp;exact k St x z A (by omega)
def dF(row:List Int)(i:Int):Int:=row.getD i.toNat 0
theorem yV{row:List Int}(h0:0<=i)(h:i<(row.length:Int)):at' (row.map D.int) i=some (.int (dF row i)):=by
 rw[oH h0 (by simpa using h)];have:i.toNat<row.length:=by omega
 simp[dF,this]
def sm(T m:Int)(St:List Int)(j:Nat):List Int:=if(j:Int)=m-1 then[T+1]else if St.contains (j:Int)=true then[0]else jz (T+2)
def jh(L:List Int)(row:List Int):List (List Int):=L.map λh=>row++[h]
def rws(T m:Int)(St:List Int):Nat->List (List Int)|0=>[[]]|j+1=>(rws T m St j).flatMap (jh (sm T m St j))
def su(row:List Int):D:=.lst (row.map D.int)
theorem Dm{T:Int}{St:List Int}(h:T<=12):(sm T m St j).length<=14:=by
 unfold sm;split;.simp
 . split;.simp
   .rw[mO];omega
theorem lr{L:List Int}(e:L.length<=14):∀{l:List (List Int)},(l.flatMap (jh L)).length<=l.length*14
 |[]=>by simp|a::l=>by
   have h1:=lr e (l:=l);have h:(jh L a).length<=14:=by unfold jh;rw[length_map];exact e
   rw[List.flatMap_cons,length_append,length_cons];omega
theorem sS{T m:Int}{St:List Int}(e:T<=12):∀{j:Nat},(rws T m St j).length<=14^j|0=>by simp[rws]|j+1=>by have:=lr (Dm (m:=m) (St:=St) (j:=j) e) (l:=rws T m St j);have h:=sS (m:=m) (St:=St) e (j:=j);rw[rws,Nat.pow_succ];omega
theorem mX{T m:Int}{St:List Int}:∀{j:Nat}{row:List Int},row∈rws T m St j->row.length=j/\∀i x,row[i]?=some x->x∈sm T m St i
 |0,row,h=>by rw[rws,mem_singleton]at h;subst h;simp|j+1,row,h=>by
   rw[rws,List.mem_flatMap]at h;obtain⟨r,hr,h⟩:=h;obtain⟨x,t,rfl⟩:=mem_map.mp h;have:=mX hr;refine⟨by simp[this.1],λi y e=>?_⟩;by_cases c:i<r.length;.rw[getElem?_append_left c]at e;exact this.2 i y e
   . rw[getElem?_append_right (by omega)]at e;have:i-r.length=0:=by have:=(dw e).1;simp at this;omega
     rw[this]at e;cases e;rw[show i=j by omega];exact t
theorem qQ{T m:Int}{St:List Int}{q:Int->Int}(e:∀i:Nat,q (i:Int)∈sm T m St i):∀{j:Nat},(List.range j).map (λ(i:Nat)=>q (i:Int))∈rws T m St j|0=>by simp[rws]|j+1=>by rw[rws,List.mem_flatMap];refine⟨_,qQ e (j:=j),mem_map.mpr ⟨q (j:Int),e j,?_⟩⟩;rw[range_succ,map_append];rfl
theorem Ik{c:Call}{x:Nat}{e:P}:ex c n (.Gg x e) ρ=(lift (wC ρ x) ρ).bind λ_ ρ=>(ev c e ρ).bind λr ρ=>match ρ[x]?,r with|some (.own b h),.own es=>if h.length+es.length<=lim then .ok .next (ρ.set x (.own b (h++es)))else .stuck|_,_=>.stuck:=(rfl)
def LO(s:Sl)(e:List D):Prop:=s=.own false e\/s=.val false (.lst e)
inductive JAc(T m:Int)(St:List Int)(a0 a1 a2:Sl)(i:Nat)(ρ:List Sl):Prop where|mk(s3:Sl)(s4:Sl)(s5:Sl)(s6:Sl)(s7:Sl)(q0:ρ=[a0,a1,a2,s3,s4,s5,s6,s7])(q1:LO s3 ((rws T m St i).map su))(q2:A4 (fr s4=true) (fr s5=true) (fr s6=true) (fr s7=true))
inductive JAd(L:List Int)(rows:List (List Int))(a0 a1 a2 a3 a4:Sl)(r:List D)(ρ:List Sl):Prop where|mk(bJ us:List (List Int))(s7:Sl)(q0:ρ=[a0,a1,a2,a3,a4,.own false (L.map D.int),.own false ((bJ.flatMap (jh L)).map su),s7])(q1:fr s7=true)(q2:r=us.map su)(q3:bJ++us=rows)
def Lk(row:List Int):D->D|.int h=>su (row++[h])|d=>d
theorem Em{u:List Int}{L:List Int}:(L.map D.int).map (Lk u)=(jh L u).map su:=by rw[map_map,jh,map_map];rfl
inductive F8a(a0 a1 a2 a3 a4 a5 a6 a7:Sl)(ρ:List Sl):Prop where|mk(s:Sl)(q0:ρ=[a0,a1,a2,a3,a4,a5,a6,a7,s])(q1:fr s=true)
theorem Bm{T:Int}{St:List Int}(m0:2<=m)(m1:m<=6)(h0:0<=T)(W:T<=12)(hS:iB m St)(k:∀s,LO s ((rws T m St m.toNat).map su)->Q (match s with|.own _ X=>.own X|_=>.val (.lst ((rws T m St m.toNat).map su))) [.val false (.int m),.val false (.tup (St.map D.int)),.val false (.int T)]):(run Γ w (n+1) 20 [.val false (.int m),.val false (.tup (St.map D.int)),.val false (.int T)]).sat Q:=by
 refine aU (d:=Xj) rfl rfl (by decide) ?_;symm;simp[Xj];have G:∀i:Nat,i<=5->(rws T m St i).length<=537824:=λi hi=>by
  have h1:=sS (m:=m) (St:=St) W (j:=i);have:i=0\/i=1\/i=2\/i=3\/i=4\/i=5:=by omega
  rcases this with rfl|rfl|rfl|rfl|rfl|rfl<;>omega
 refine cu (JAc T m St (.val false (.int m)) (.val false (.tup (St.map D.int))) (.val false (.int T)) m.toNat) ?_ ?_
 . simp[show m<=1000000000 by omega,show-1000000000<=m by omega];refine iC (JAc T m St (.val false (.int m)) (.val false (.tup (St.map D.int))) (.val false (.int T))) ?_ ?_ ⟨_,.aP,.aP,.aP,.aP,rfl,.inl rfl,rfl,rfl,rfl,rfl⟩
   . rintro i _ hi⟨s3,s4,s5,s6,s7,rfl,B,H,I,J,h⟩;have hb:=G i (by omega);have C:=Dm (m:=m) (St:=St) (j:=i) W;have t:=Er (S:=St) (i:=(i:Int));simp[H];refine cu (λρ=>ρ=[.val false (.int m),.val false (.tup (St.map D.int)),.val false (.int T),s3,.val false (.int i),.own false ((jz (T+2)).map D.int),s6,s7]) ?_ ?_;.simp[show T+2<=1000000000 by omega,show-1000000000<=T+2 by omega,I];exact⟨by omega,BW⟩
     rintro _ rfl;refine cu (λρ=>ρ=[.val false (.int m),.val false (.tup (St.map D.int)),.val false (.int T),s3,.val false (.int i),.own false ((if St.contains (i:Int)=true then[0]else jz (T+2)).map D.int),s6,s7]) ?_ ?_;.cases c:St.contains (i:Int)with|true=>rw[c]at t;simp[t];apply ak;simp|false=>rw[c]at t;simp[t]
     rintro _ rfl;refine cu (λρ=>ρ=[.val false (.int m),.val false (.tup (St.map D.int)),.val false (.int T),s3,.val false (.int i),.own false ((sm T m St i).map D.int),s6,s7]) ?_ ?_
     . by_cases c:(i:Int)=m-1
       . have e:sm T m St i=[T+1]:=by unfold sm;rw[if_pos c]
         rw[e];generalize(if St.contains (i:Int)=true then[0]else jz (T+2))=L;simp[c];apply ak;simp
       . have e:sm T m St i=(if St.contains (i:Int)=true then[0]else jz (T+2)):=by unfold sm;rw[if_neg c]
         rw[e];generalize(if St.contains (i:Int)=true then[0]else jz (T+2))=L;simp[c]
     rintro _ rfl;have M:rws T m St (i+1)=(rws T m St i).flatMap (jh (sm T m St i)):=rfl;have O:∀u∈rws T m St i,u.length=i:=λu Y=>(mX Y).1;generalize hL:sm T m St i=L at*;generalize hR:rws T m St i=R at*;symm;simp[J];refine cu (λρ=>∃s3 s7,ρ=[.val false (.int m),.val false (.tup (St.map D.int)),.val false (.int T),s3,.val false (.int i),.own false (L.map D.int),.own false ((R.flatMap (jh L)).map su),s7]/\LO s3 (R.map su)/\fr s7=true) ?_ ?_;.rcases B with rfl|rfl;all_goals
        simp;refine bM (JAd L R _ _ _ _ _) ?_ ?_ ⟨[],R,s7,rfl,h,rfl,rfl⟩;.rintro d r _⟨y,A,s7,rfl,h,hr,hd⟩;cases A with|nil=>cases hr|cons u A=>
            obtain⟨rfl,rfl⟩:d=su u/\r=A.map su:=by simpa using hr
            have Z:y.length<=R.length:=by rw[<-hd];simp
            have ac:=lr C (l:=y);have U:(y++[u])++A=R:=by rw[append_assoc];exact hd
            have ae:=O u (by rw[<-hd];simp);have af:(jh L u).length<=14:=by unfold jh;rw[length_map];exact C
            simp[h];apply ak;simp[Ik,show L.length<=16777216 by omega];refine gn (λρ=>∃s,ρ=[_,_,_,_,_,.lent (L.map D.int),_,_,s]/\fr s=true) (Lk u) ⟨.aP,rfl,rfl⟩ ?_ ?_;.rintro d hd _⟨s,rfl,hs⟩;obtain⟨j,_,rfl⟩:=mem_map.mp hd;simp[hs,su,Lk,show u.length+1<=lim by show _<=16777216;omega]
            . rintro _⟨s,rfl,hs⟩;have e2:(y++[u]).flatMap (jh L)=y.flatMap (jh L)++jh L u:=by simp
              rw[Em];have E:(List.flatMap (jh L) y).length+(jh L u).length<=lim:=by show _<=16777216;omega
              simp only[List.getElem?_cons_succ,List.getElem?_cons_zero,length_map];rw[if_pos E];simp;exact⟨y++[u],A,.val false (su u),by rw[e2,map_append],rfl,rfl,U⟩
        . rintro _⟨y,A,s7,rfl,h,hr,hd⟩;have:A=[]:=by cases A with|nil=>rfl|cons _ _=>cases hr
          subst this;rw[append_nil]at hd;subst hd;simp;exact⟨_,_,⟨rfl,rfl⟩,by first|exact .inl rfl|exact .inr rfl,h⟩
     .rintro _⟨s3,s7,rfl,B,h⟩;rw[<-M];symm;rcases B with rfl|rfl;all_goals simp;exact⟨_,_,_,_,_,rfl,.inr rfl,rfl,rfl,rfl,h⟩
   .rintro _⟨s3,s4,s5,s6,s7,rfl,B,H,I,J,h⟩;exact⟨rfl,_,_,_,_,_,rfl,B,H,I,J,h⟩
 rintro _⟨s3,s4,s5,s6,s7,rfl,B,_⟩;symm;rcases B with rfl|rfl;.simp;exact k _ (.inl rfl)
 .simp;exact k _ (.inr rfl)
theorem Qu{e:Type}{xs:List e}{lo hi:Option Int}:(cut xs lo hi).length<=xs.length:=by unfold cut;simp;omega
theorem GF{cs:List Int}{a b:Option Int}:cut (cs.map D.int) a b=(cut cs a b).map D.int:=by unfold cut;simp
theorem Y8{e:List D}{b:Lz}{ps:List P}:JQ (.lst e) (part (.con .non) .non) (part (.blt b ps) (.int i))=some (.own (cut e none (some i))):=rfl
inductive Zo(ns:List Int)(_:Nat)(ρ:List Sl):Prop where|mk(cs:List Int)(s:Sl)(q0:ρ=[.val false (.lst (ns.map D.int)),.val false (.int 8),.own false (cs.map D.int),s])(q1:fr s=true)(q2:cs.length=8)
theorem wB{ns:List Int}(B:ns.length<=63)(k:∀cs:List Int,cs.length<=8->Q (.own (cs.map D.int)) [.val false (.lst (ns.map D.int)),.val false (.int 8)]):(run Γ w (n+1) 23 [.val false (.lst (ns.map D.int)),.val false (.int 8)]).sat Q:=by
 refine aU (d:=W3) rfl rfl (by decide) ?_;refine cu (λρ=>ρ=[.val false (.lst (ns.map D.int)),.val false (.int 8),.own false ((replicate 8 (0:Int)).map D.int),.aP]) ?_ ?_;.simp[W3];decide
 rintro _ rfl;symm;simp[show(ns.length:Int)<=1000000000 by omega];refine iC (Zo ns) ?_ ?_ ⟨replicate 8 0,.aP,by simp,rfl,by simp⟩;.rintro i _ hi⟨cs,s,rfl,hs,e⟩;obtain⟨j,t,h⟩:∃j:Nat,(i:Int)%8=(j:Int)/\j<cs.length:=⟨i%8,by omega,by omega⟩;have u:at' (cs.map D.int) (j:Int)=some (.int cs[j]):=gW (by simp[h]);have y:at' (ns.map D.int) (i:Int)=some (.int ns[i]):=gW (by simp[hi]);have A:gQ cs.length (j:Int)=some j:=Oq h;simp[hs];apply ak;simp[t,u,y,A];exact⟨cs.set j (cs[j]*1000003+ns[i]),.val false (.int i),by simp[map_set],rfl,by simpa using e⟩
 .rintro _⟨cs,s,rfl,hs,e⟩;symm;simp[Y8,GF];exact k _ (le_trans Qu (by omega))
inductive JLs(ws:List Wy)(q:Int->Int)(a0 a1 a2 a3 a4:Sl)(r:List D)(ρ:List Sl):Prop where|mk(us:List Wy)(f:Int)(s6 s7 s8 s9:Sl)(q0:ρ=[a0,a1,a2,a3,a4,.val false (.int f),s6,s7,s8,s9])(q1:A4 (fr s6=true) (fr s7=true) (fr s8=true) (fr s9=true))(q2:r=us.map Wy.d)(q3:(∀u∈us,u∈ws))(q4:f+cJ q us=cJ q ws)
inductive JLr(ws:List Wy)(rows:List (List Int))(a0 a1 a2:Sl)(r:List D)(ρ:List Sl):Prop where|mk(bJ us:List (List Int))(s4 s5 s6 s7 s8 s9:Sl)(q0:ρ=[a0,a1,a2,.own false ((bJ.map λrow=>cJ (dF row) ws).map D.int),s4,s5,s6,s7,s8,s9])(q1:A6 (fr s4=true) (fr s5=true) (fr s6=true) (fr s7=true) (fr s8=true) (fr s9=true))(q2:r=us.map su)(q3:bJ++us=rows)
def LR(T:Int)(q:Int->Int)(p:Int):Int:=max 0 (min (T+1) (q p))
theorem yH{H K:Wy->Int}:∀{ws:List Wy},(∀v∈ws,H v<=K v)->pq H ws<=pq K ws|[],_=>Int.le_refl _|v::ws,h=>by have h1:=h v (by simp);have t:=yH (H:=H) (K:=K) (ws:=ws) λu e=>h u (by simp[e]);rw[pq,pq];omega
theorem Dn{T:Int}{r:Int->Int}(h:gh m ws)(hr:∀p,0<=p->p<m->r p=LR T q p):cJ r ws<=cJ q ws:=yH λv e=>by have ho:=h.ok v e;have h0:=ho.h0;unfold du;refine Int.mul_le_mul_of_nonneg_left ?_ ho.r0;rw[hr _ ho.s0 ho.s1,hr _ ho.t0 ho.t1];unfold LR;omega
theorem Kw{T x:Int}{St:List Int}(e:x∈sm T m St j)(h:iB m St):((j:Int)=m-1->x=T+1)/\((j:Int)∈St->x=0):=by
 unfold sm at e;refine⟨λc=>?_,λc=>?_⟩;.rw[if_pos c]at e;simpa using e
 .rw[if_neg (λz=>h.ne (by rw[<-z];exact c)),if_pos (by simpa using c)]at e;simpa using e
theorem wY{T v:Int}{St:List Int}(h:gh m ws)(u:iB m St)(h0:0<=T)(y:fW m St ws T v):(∀row∈rws T m St m.toNat,v<=cJ (dF row) ws)/\∃row∈rws T m St m.toNat,cJ (dF row) ws<=v:=by
 have m0:=h.m0;refine⟨λrow e=>?_,?_⟩
 . have hr:=mX e;have t:∀p,0<=p->p<m->row[p.toNat]?=some (dF row p):=λp A C=>by
    have:p.toNat<row.length:=by omega
    simp[dF,this]
   refine y.le _ (λp B=>?_) ?_;.have E:=u p B;have:=(Kw (hr.2 _ _ (t p (by omega) (by omega))) u).2;rw[toNat_of_nonneg E.1]at this;exact this B
   .have:=(Kw (hr.2 _ _ (t (m-1) (by omega) (by omega))) u).1;rw[toNat_of_nonneg (by omega)]at this;exact this rfl
 .obtain⟨q,G,H,I⟩:=y.ex;have J:=qQ (T:=T) (m:=m) (St:=St) (q:=LR T q) (λi=>by
    unfold sm;by_cases c:(i:Int)=m-1;.rw[if_pos c,c];unfold LR;rw[H];simp;omega
    . rw[if_neg c];by_cases d:St.contains (i:Int)=true;.rw[if_pos d];unfold LR;rw[G _ (by simpa using d)];simp;omega
      .rw[if_neg d,gB];unfold LR;omega) (j:=m.toNat);refine⟨_,J,?_⟩;rw[<-I];refine Dn (T:=T) h λp A C=>?_;unfold dF;rw[List.getD_eq_getElem?_getD,getElem?_map,List.getElem?_range (by omega)];show LR T q (p.toNat:Int)=_;rw[toNat_of_nonneg A]
theorem PJ{T:Int}{St:List Int}(h0:0<=T)(e:iB m St):rws T m St j≠[]:=by
 have:=qQ (T:=T) (m:=m) (St:=St) (q:=λp=>if p=m-1 then T+1 else 0) (λi=>by
  unfold sm;by_cases c:(i:Int)=m-1;.rw[if_pos c];simp[c]
  . rw[if_neg c];rw[if_neg c];by_cases d:St.contains (i:Int)=true;.rw[if_pos d];simp
    .rw[if_neg d,gB];omega) (j:=j);intro z;rw[z]at this;cases this
theorem Bo{T:Int}{St:List Int}(h:gh m ws)(m6:m<=6)(M:iB m St)(h0:0<=T)(hT:T<=12)(k:∀d,(∀v,fW m St ws T v->v=d)->Q (.val (.int d)) [.val false (bw m ws),.val false (.tup (St.map D.int)),.val false (.int T)]):(run Γ w (n+2) 21 [.val false (bw m ws),.val false (.tup (St.map D.int)),.val false (.int T)]).sat Q:=by
 have m0:=h.m0;have hb:(rws T m St m.toNat).length<=7529536:=by
  have h1:=sS (m:=m) (St:=St) hT (j:=m.toNat);have:m.toNat=2\/m.toNat=3\/m.toNat=4\/m.toNat=5\/m.toNat=6:=by omega
  rcases this with e|e|e|e|e<;>rw[e]at h1 ⊢<;>omega
 refine aU (d:=W6) rfl rfl (by decide) ?_;symm;simp[W6];apply ak;simp;refine Bm m0 m6 h0 hT M λs hs=>?_;have O:∀row∈rws T m St m.toNat,(row.length:Int)=m:=λrow L=>by have:=(mX L).1;omega
 have U:∀v,fW m St ws T v->_:=λv W=>wY h M h0 W;have X:=PJ (m:=m) (j:=m.toNat) h0 M;generalize(rws T m St m.toNat)=A at*;have go:Res.sat (sQ (run Γ w (n+1)) w [S.ret (P.blt Lz.xg [P.var 3])] (eQ 3 Q)) (fU [4] true (fX (run Γ w (n+1)) w [S.asg 5 (P.con (D.int 0)),S.gJ ((P.var 0).idx (P.con (D.int 1))) [6,7,8,9] false [S.asg 5 (P.bin Op.add (P.var 5) (P.bin Op.mul (P.var 8) (P.blt Lz.max2 [P.con (D.int 0),P.bin Op.sub (P.bin Op.sub ((P.var 4).idx (P.var 7)) ((P.var 4).idx (P.var 6))) (P.var 9)])))],S.app 3 (P.var 5)]) (A.map su) [Sl.val false (bw m ws),Sl.val false (D.tup (map D.int St)),Sl.val false (D.int T),Sl.own false [],Sl.aP,Sl.aP,Sl.aP,Sl.aP,Sl.aP,Sl.aP]):=by
  refine bM (JLr ws A _ _ _) ?_ ?_ ⟨[],A,.aP,.aP,.aP,.aP,.aP,.aP,rfl,⟨rfl,rfl,rfl,rfl,rfl,rfl⟩,rfl,rfl⟩;.rintro d r _⟨B,C,s4,s5,s6,s7,s8,s9,rfl,⟨h4,h5,E,G,H,I⟩,hr,hd⟩;cases C with|nil=>cases hr|cons u C=>
      obtain⟨rfl,rfl⟩:d=su u/\r=C.map su:=by simpa using hr
      have Y:(B++[u])++C=A:=by rw[append_assoc];exact hd
      have ah:B.length<A.length:=by rw[<-hd];simp
      have ai:=O u (by rw[<-hd];simp);obtain⟨ns,J⟩:∃ns,ns=B.map λrow=>cJ (dF row) ws:=⟨_,rfl⟩;rw[<-J];have al:ns.length=B.length:=by rw[J];simp
      have Z:((B++[u]).map λrow=>cJ (dF row) ws).map D.int=ns.map D.int++[.int (cJ (dF u) ws)]:=by rw[map_append,<-J,map_append];rfl
      simp[h4];apply ak;simp[h5];refine cu (λρ=>∃s6 s7 s8 s9,ρ=[.val false (bw m ws),.val false (.tup (St.map D.int)),.val false (.int T),.own false (ns.map D.int),.val false (su u),.val false (.int (cJ (dF u) ws)),s6,s7,s8,s9]/\(fr s6=true/\fr s7=true/\fr s8=true/\fr s9=true)) ?_ ?_
      . simp;refine bM (JLs ws (dF u) _ _ _ _ _) ?_ ?_ ⟨ws,0,s6,s7,s8,s9,rfl,⟨E,G,H,I⟩,rfl,λ_ h=>h,by omega⟩;.rintro d r _⟨vs,f,s6,s7,s8,s9,rfl,⟨E,G,H,I⟩,hr,hu,hf⟩;cases vs with|nil=>cases hr|cons v vs=>
            obtain⟨rfl,rfl⟩:d=Wy.d v/\r=vs.map Wy.d:=by simpa using hr
            have ho:=h.ok v (hu v (by simp));have a1:=yV (row:=u) ho.s0 (by have:=ho.s1;omega);have a2:=yV (row:=u) ho.t0 (by have:=ho.t1;omega);have r0:=ho.r0;have r1:=ho.r1;have hm:∀y,jU (.int v.r) (.int y)=some (.val (.int (v.r*y))):=λy=>by show(if _ then _ else _)=_;rw[if_pos];left;omega
            have ac:f+(du (dF u) v+cJ (dF u) vs)=cJ (dF u) ws:=hf;simp[Wy.d,E,G,H,I];apply ak;simp[su,a1,a2,hm];have hd:du (dF u) v=v.r*(if v.h<dF u v.t-dF u v.s then dF u v.t-dF u v.s-v.h else 0):=by unfold du;congr 1;split<;>omega
            rw[<-hd];exact⟨vs,f+du (dF u) v,_,_,_,_,rfl,⟨rfl,rfl,rfl,rfl⟩,rfl,λx hx=>hu x (by simp[hx]),by omega⟩
        . rintro _⟨vs,f,s6,s7,s8,s9,rfl,⟨E,G,H,I⟩,hr,hu,hf⟩;have:vs=[]:=by cases vs with|nil=>rfl|cons _ _=>cases hr
          subst this;have ac:f+0=cJ (dF u) ws:=hf;rw[show f=cJ (dF u) ws by omega];exact⟨rfl,_,_,_,_,rfl,E,G,H,I⟩
      .rintro _⟨s6,s7,s8,s9,rfl,E,G,H,I⟩;symm;simp[show ns.length<16777216 by omega];exact⟨B++[u],C,_,_,_,_,_,_,by rw[Z],⟨rfl,rfl,E,G,H,I⟩,rfl,Y⟩
  . rintro _⟨B,C,s4,s5,s6,s7,s8,s9,rfl,_,hr,hd⟩;have:C=[]:=by cases C with|nil=>rfl|cons _ _=>cases hr
    subst this;rw[append_nil]at hd;subst hd;obtain⟨x,ae,af,ag⟩:=Cv (ns:=B.map λrow=>cJ (dF row) ws) (by simpa using X);have hx:∀v,fW m St ws T v->v=x:=λv W=>by obtain⟨b1,row,b2,b3⟩:=U v W;obtain⟨gU,c1,c2⟩:=mem_map.mp af;have d1:=b1 gU c1;have d2:=ag _ (mem_map.mpr ⟨row,b2,rfl⟩);omega
    generalize(B.map λrow=>cJ (dF row) ws)=ns at*;simp;apply ak;simp[eX,ae];exact k x hx
 rcases hs with rfl|rfl;.simpa using go
 .simpa using go
theorem zK(k:Q (.val (.bl true)) [.val false (.int i)]):(run Γ w (n+1) 22 [.val false (.int i)]).sat Q:=by refine aU (d:=Ye) rfl rfl (by decide) ?_;symm;simp[Ye];exact k
theorem fW.uniq{T v e:Int}{St:List Int}(h:fW m St ws T v)(h':fW m St ws T e):v=e:=by obtain⟨q,a,b,c⟩:=h.ex;obtain⟨t,u,y,A⟩:=h'.ex;have h1:=h.le t u y;have B:=h'.le q a b;omega
theorem yK{q:Int->Int}:∀{ws:List Wy},(∀v∈ws,0<=v.r)->0<=cJ q ws|[],_=>Int.le_refl _|v::ws,h=>by have h1:=h v (by simp);have t:=yK (q:=q) (ws:=ws) λu e=>h u (by simp[e]);have y:0<=du q v:=Int.mul_nonneg h1 (by omega);show 0<=du q v+cJ q ws;omega
theorem FN{T v:Int}(h:gh m ws)(e:fW m [] ws T v):v=0:=by
 refine e.uniq ⟨⟨λ_=>T+1,by simp,rfl,?_⟩,λq _ _=>yK λv e=>(h.ok v e).r0⟩;have:∀l:List Wy,(∀v∈l,1<=v.h)->cJ (λ_=>T+1) l=0:=λl=>by induction l with|nil=>intro _;rfl|cons u l y=>intro t;have h1:=t u (by simp);have A:=y λv e=>t v (by simp[e]);show du _ u+cJ _ l=0;rw[A];show u.r*max 0 (T+1-(T+1)-u.h)+0=0;rw[max_eq_left (by omega),mul_zero];rfl
 exact this ws λv e=>(h.ok v e).h0
theorem Bx{T v:Int}(e:fW m [0] ws T v):iw m ws T v:=by obtain⟨q,a,b,c⟩:=e.ex;exact⟨⟨q,a 0 (by simp),b,c⟩,λq h t=>e.le q (by simpa using h) t⟩
inductive J78(v:Sl)(r:List D)(ρ:List Sl):Prop where|mk(s1:Sl)(s2:Sl)(s3:Sl)(s4:Sl)(s5:Sl)(s6:Sl)(s7:Sl)(s8:Sl)(s9:Sl)(jb:Sl)(q0:ρ=[v,s1,s2,s3,s4,s5,s6,s7,s8,s9,jb])(q1:(fr s1=true/\fr s2=true/\fr s3=true/\fr s4=true/\fr s5=true/\fr s6=true/\fr s7=true/\fr s8=true/\fr s9=true/\fr jb=true))(q2:∀d∈r,∃i,d=D.int i)
inductive K78(y:Int)(a0 a1 a3 a4:Sl)(_:Nat)(ρ:List Sl):Prop where|mk(x z:Int)(s5 s6 s7 s8 s9 jb:Sl)(q0:ρ=[a0,a1,.own false [.int x,.int y,.int z],a3,a4,s5,s6,s7,s8,s9,jb])(q1:A6 (fr s5=true) (fr s6=true) (fr s7=true) (fr s8=true) (fr s9=true) (fr jb=true))
theorem Jm(ns:List Int)(hn:ns.length<=63):∃as,run Γ 100000000 40 24 [.val false (.lst (ns.map D.int))]=.ok (.val (.bl true)) as:=by
 suffices h:(run Γ 100000000 40 24 [.val false (.lst (ns.map D.int))]).sat λr _=>r=.val (.bl true)by obtain⟨a,ρ,e,rfl⟩:=sat_iff.mp h;exact⟨ρ,e⟩
 refine aU (d:=Xy) rfl rfl (by decide) ?_;symm;simp[Xy];refine wB hn λcs af=>?_;simp;refine bM (J78 (.val false (.lst (ns.map D.int)))) ?_ ?_ ⟨_,_,_,_,_,_,_,_,_,_,rfl,⟨rfl,rfl,rfl,rfl,rfl,rfl,rfl,rfl,rfl,rfl⟩,λd hd=>?_⟩
 . rintro d r _⟨s1,s2,s3,s4,s5,s6,s7,s8,s9,jb,rfl,⟨h1,h2,h3,h4,C,E,G,H,I,u⟩,hd⟩;obtain⟨x,rfl⟩:=hd d (by simp);simp[h1];apply ak;simp;refine Fb λa y c=>?_;simp[h2];apply ak;simp;refine bQ (by decide) (by decide) λe a c U A=>?_;obtain⟨p,ep,p0,p1⟩:=uc (ns:=[2,4,30,1000000001]) (lo:=1) (hi:=1000000001) U (by simpa using A) (by simp);simp only[map_cons,map_nil]at ep;simp[ep,h3];apply ak;simp;refine bQ (by decide) (by decide) λe a c U A=>?_;obtain⟨l,el,l0,l1⟩:=uc (ns:=[2,3,5]) (lo:=1) (hi:=1000000) U (by simpa using A) (by simp);simp only[map_cons,map_nil]at el;simp[el];refine BP p0 p1 l0 l1 λm ws a c t B=>?_;have m0:=t.m0;simp[h4];apply ak;simp;refine iC (K78 y _ _ _ _) ?_ ?_ ⟨a,c,s5,s6,s7,s8,s9,jb,rfl,C,E,G,H,I,u⟩
   . rintro i _ hi⟨a,c,s5,s6,s7,s8,s9,jb,rfl,C,E,G,H,I,u⟩;simp[C];apply ak;simp;refine wL m0 B λSt a c J ag=>?_;simp[E];apply ak;obtain⟨L,eL,L0,L1⟩:=uc (ns:=[12,12,12,6,3,1]) (i:=m-1-(St.length:Int)) (lo:=1) (hi:=12) (by omega) (by simp;omega) (by simp);simp only[map_cons,map_nil]at eL;simp[eL,G];apply ak;simp;refine bQ (by omega) (nF (by omega)) λe a c U A=>?_;simp;refine bQ (by decide) (by decide) λf a c f0 f1=>?_;obtain⟨T,eT,T0,T1⟩:=uc (ns:=[L,e]) (lo:=0) (hi:=12) f0 (by simpa using f1) (by simp;omega);simp only[map_cons,map_nil]at eT;simp[eT,H];apply ak;simp;refine Bo t B J T0 T1 λah We=>?_;simp[I];apply ak;simp;refine iY (by omega) t B J (by omega) T0 (by omega) λv hv=>?_;obtain rfl:=We v (iW t J hv);simp[u];apply ak;simp;refine zK ?_;simp;refine iY (by omega) t B J (by omega) T0 (by omega) λv' W=>?_;obtain rfl:=We v' (iW t J W);simp;apply ak;simp;have M:iB m [0]:=λp X=>by rw[mem_singleton.mp X];omega
     have O:iB m []:=λp X=>by cases X
     have k1:=λ{w n:Nat}{Q:R->List Sl->Prop}hw=>iY (w:=w) (n:=n) (m:=m) (T:=T) (St:=[0]) (ws:=ws) (Q:=Q) hw t B M (by simp) T0 (by omega);have k0:=λ{w n:Nat}{Q:R->List Sl->Prop}hw=>iY (w:=w) (n:=n) (m:=m) (T:=T) (St:=[]) (ws:=ws) (Q:=Q) hw t B O (by simp) T0 (by omega);simp only[map_cons,map_nil]at k1 k0;refine k1 (by omega) λv1 Y=>?_;have Z:=Bx (iW t M Y);simp;refine nG (by omega) t (by omega) λcs hE=>?_;have A:=(hE.least T0).uniq Z;simp[A];refine k0 (by omega) λv0 ac=>?_;have ae:=FN t (iW t O ac);simp[ae];exact⟨a,c,_,_,_,_,_,_,rfl,rfl,rfl,rfl,rfl,rfl,rfl⟩
   .rintro _⟨a,c,s5,s6,s7,s8,s9,jb,rfl,C,E,G,H,I,u⟩;simp;exact⟨_,_,_,_,_,_,_,_,_,_,rfl,⟨rfl,rfl,rfl,rfl,C,E,G,H,I,u⟩,λd h=>hd d (mem_cons_of_mem _ h)⟩
 .rintro _⟨s1,s2,s3,s4,s5,s6,s7,s8,s9,jb,rfl,_,hd⟩;symm;simp
 .obtain⟨i,_,rfl⟩:=mem_map.mp hd;exact⟨_,rfl⟩
end T
end
structure PySem.W.Fast:Prop where(tw6621840424721824390 tw14811856858917197493 tw446064714043929635 tw1415384011301144994 tw722691338385872423 tw6024255382246791954 tw7634052184414762946 tw15238953865657216744 tw74759865221267614 tw5327029013453920554 tw15400652106145342038 tw10848819388560164984 tw4868932428916562887 tw10897307294128461783 tw16638180433265857655 tw6359104976720524940 tw12855224900450912620 tw6225764458517659617 tw14688318561359628332 tw9220618594976393566 tw9982306919897034852 tw18261913526503706924 tw11045660632278799095 tw153259587613506002 tw15021052567679756197 tw9954060468544285519 tw6295495454498698617 tw6627318868093243622 tw16772470901219387323 tw14615140995524673910 tw6779791187865622287 tw3436495611763798905 tw4815643999851783009 tw6724830974014749512 tw13580778010523982126 tw13305210696612069624 tw13723668942010986685 tw1698094230462995008 tw9956815237539819685 tw13649476808918258099 tw8827334181528369070 tw11433641192402620753 tw10139531204106135713 tw4871108236092066309 tw11087776784948402174 tw18306381352680240023 tw9364680080093601347 tw6741071548310474396 tw17215040820099083090 tw6128335802858735214 tw15408339707854628920 tw18160770161741071632 tw15077266369299952005 tw18115706829902005672 tw9144728327788109231 tw6060377221793650708 tw8954052883978714500 tw1163090623128340778 tw12358854786335481401 tw12704811497319934861 tw14586526456647931101 tw14362780782676748451 tw4201176130078336055 tw7186988624474325465 tw14414501405960715347 tw3471272133450877097 tw11178882805692377009 tw8058997497779815357 tw14596281045964585323 tw10427758249399585753 tw13283875597755632017 tw6200802421735521979 tw7482875788628167120 tw15539517146243441956 tw9740156085072211251 tw17662594491183859136 tw9929735467026649385 tw5869146485733945316 tw2491566186898051663 tw13959085779447861376 tw15514443121897756593 tw12836024009219468404 tw4168642891123759639 tw1741107813738317781 tw18106744388852593121 tw6530394788307564491 tw6816821060050749671 tw1112340674459107031 tw7855322034262500794 tw13960117317386873922 tw10854846303859872692 tw18103822658465052964 tw5382513081156042231 tw17561732888393225857 tw7995607156644503985 tw14053230557246749201 tw11865900969312148337 tw8261442012532752493 tw13380036948585138844 tw881689574360819880 tw1311864181387672229 tw17084191109692159631 tw9735515660381888067 tw12165880509348234026 tw5117847936152846329 tw2460645673421465442 tw427653151249250140 tw11069379970668428045 tw5167743484620419974 tw17459110023214153560 tw2455835402432915817 tw6323696424086268505 tw635947369693948937 tw14273838846158323949 tw3443101008129271442 tw16400401343671528772 tw2190172606933899346 tw14686025164246162253 tw5144950554872621812 tw5011791090769218634 tw17291605747876323444 tw5874462070809706316 tw1218147356996309263 tw5029190539438685268 tw15987855187418338228 tw14864781577457927866 tw15472941946014872782 tw2863053777754236106 tw6088724667113849414 tw5651355286456770342 tw7994459192362550657 tw10436653286935864187 tw18412861094526544277 tw3279539820652733336 tw15727197255447417346 tw11189643939788958808 tw3256730830630039405 tw3859414314104376923 tw5147175775779669247 tw2008462037975156754 tw7028303165458217154 tw17501218323756138351 tw1729332681976410192 tw9724958875512366388 tw9705105866658519186 tw9189393273982532766 tw12686519845487660306 tw6633779923454796120 tw5211849839021518505 tw695417114928209090 tw17420149952364898132 tw13067031819434105146 tw15141219970977864603 tw8796640931902026517:True)
namespace T
open PySem L2 PySem.Spec PyProof.Rows HH
theorem Vy{P:List Value → Prop}{n:Nat}(h:∀(a:Value)(b:List Value),b.length=n → P (a::b))(b:List Value)(c:b.length=n+1):P b:=by cases b with|nil=>cases c|cons a b=>exact h a b (Nat.succ.inj c)
theorem lk0{P:List Value → Prop}(h:P [])(b:List Value)(c:b.length=0):P b:=by cases b with|nil=>exact h|cons a b=>cases c
theorem Ex{P:List Value → Prop}(h:∀a,P [a]):∀b:List Value,b.length=1 → P b:=Vy λa=>lk0 (h a)
theorem lQ{P:List Value → Prop}(h:∀a b,P [a,b]):∀c:List Value,c.length=2 → P c:=Vy λa=>Ex (h a)
theorem wy{P:List Value → Prop}(h:∀a b c,P [a,b,c]):∀e:List Value,e.length=3 → P e:=Vy λa=>lQ (h a)
theorem lk4{P:List Value → Prop}(h:∀a b c d,P [a,b,c,d]):∀e:List Value,e.length=4 → P e:=Vy λa=>wy (h a)
theorem lk5{P:List Value → Prop}(h:∀a b c d e,P [a,b,c,d,e]):∀f:List Value,f.length=5 → P f:=Vy λa=>lk4 (h a)
local macro_rules|`(term|‹$p›)=>`(λ_ _ _ _ _ _=>$p)
structure Txt(K:PySem.W.Frag):Prop where
 D0:bI K "step_places" s0
 D1:bI K "step_hours" s1
 D2:bI K "step_room" s2
 D3:bI K "steps_hours" s3
 D4:bI K "open_steps" s4
 D5:bI K "shortest_come" s5
 D6:bI K "steps_to" s6
 D7:bI K "stream_with" s7
 D8:bI K "chains_to_end" s8
 D9:bI K "bends_of" s9
 D10:bI K "most_of" jb
 D11:bI K "most_by" WN
 D12:bI K "joined_places" s12
 D13:bI K "joined_net" s13
 D14:bI K "most_from" s14
 D15:bI K "_law_pool" s15
 D16:bI K "_law_next" ZJ
 D17:bI K "_law_wide" Zy
 D18:bI K "_law_net" Zn
 D19:bI K "_law_starts" s19
 D20:bI K "_law_all_closed" s20
 D21:bI K "_law_least" s21
 D22:bI K "_law_whole" s22
 D23:bI K "_law_folded" Y6
 D24:bI K "law" Zu
 xu:PySem.W.nsIn K mainGlobals "bool"=some none
 Gp:PySem.W.nsIn K mainGlobals "int"=some none
 dX:PySem.W.nsIn K mainGlobals "isinstance"=some none
 dH:PySem.W.nsIn K mainGlobals "len"=some none
 fZ:PySem.W.nsIn K mainGlobals "list"=some none
 eZ:PySem.W.nsIn K mainGlobals "max"=some none
 gO:PySem.W.nsIn K mainGlobals "min"=some none
 aV:PySem.W.nsIn K mainGlobals "range"=some none
 jy:PySem.W.nsIn K mainGlobals "reversed"=some none
 o9:PySem.W.nsIn K mainGlobals "sorted"=some none
 qI:PySem.W.nsIn K mainGlobals "sum"=some none
 cP:PySem.W.nsIn K mainGlobals "tuple"=some none
noncomputable def kE{K:PySem.W.Frag}(T:Txt K):Nat->Addr:=λk=>0
structure Oks(Pg:Program)(w:World)(K:PySem.W.Frag)(mg:Str->Option Value)(base:Heap)(cl:Nat->Addr)(n:Nat):Prop where
 c0:aZ Pg w K mg base n (run Γ 100000000 n) 0 "step_places" 2
 c1:aZ Pg w K mg base n (run Γ 100000000 n) 1 "step_hours" 2
 c2:aZ Pg w K mg base n (run Γ 100000000 n) 2 "step_room" 3
 c3:aZ Pg w K mg base n (run Γ 100000000 n) 3 "steps_hours" 2
 c4:aZ Pg w K mg base n (run Γ 100000000 n) 4 "open_steps" 2
 c5:aZ Pg w K mg base n (run Γ 100000000 n) 5 "shortest_come" 3
 c6:aZ Pg w K mg base n (run Γ 100000000 n) 6 "steps_to" 3
 c7:aZ Pg w K mg base n (run Γ 100000000 n) 7 "stream_with" 3
 c8:aZ Pg w K mg base n (run Γ 100000000 n) 8 "chains_to_end" 1
 c9:aZ Pg w K mg base n (run Γ 100000000 n) 9 "bends_of" 1
 c10:aZ Pg w K mg base n (run Γ 100000000 n) 10 "most_of" 2
 Wf:aZ Pg w K mg base n (run Γ 100000000 n) 11 "most_by" 2
 c12:aZ Pg w K mg base n (run Γ 100000000 n) 12 "joined_places" 2
 c13:aZ Pg w K mg base n (run Γ 100000000 n) 13 "joined_net" 2
 Yw:aZ Pg w K mg base n (run Γ 100000000 n) 14 "most_from" 3
 Yx:aZ Pg w K mg base n (run Γ 100000000 n) 15 "_law_pool" 1
 c16:aZ Pg w K mg base n (run Γ 100000000 n) 16 "_law_next" 2
 c17:aZ Pg w K mg base n (run Γ 100000000 n) 17 "_law_wide" 2
 Yy:aZ Pg w K mg base n (run Γ 100000000 n) 18 "_law_net" 4
 Yz:aZ Pg w K mg base n (run Γ 100000000 n) 19 "_law_starts" 2
 c20:aZ Pg w K mg base n (run Γ 100000000 n) 20 "_law_all_closed" 3
 c21:aZ Pg w K mg base n (run Γ 100000000 n) 21 "_law_least" 3
 YB:aZ Pg w K mg base n (run Γ 100000000 n) 22 "_law_whole" 1
 YC:aZ Pg w K mg base n (run Γ 100000000 n) 23 "_law_folded" 2
 c24:aZ Pg w K mg base n (run Γ 100000000 n) 24 "law" 1
set_option maxHeartbeats 0 in
theorem Dz{Pg:Program}{w:World}{K:PySem.W.Frag}{mg:Str->Option Value}{base:Heap}(T:Txt K)(X:K.In base)(G:base.Ns mainGlobals mg):∀n,Oks Pg w K mg base (kE T) n
 |0=>{
   c0:=bW (ps:=["net","step"]) X G T.D0 rfl ‹lQ λ_ _=>rfl›
   c1:=bW (ps:=["net","step"]) X G T.D1 rfl ‹lQ λ_ _=>rfl›
   c2:=bW (ps:=["net","stream","step"]) X G T.D2 rfl ‹wy λ_ _ _=>rfl›
   c3:=bW (ps:=["net","steps"]) X G T.D3 rfl ‹lQ λ_ _=>rfl›
   c4:=bW (ps:=["net","stream"]) X G T.D4 rfl ‹lQ λ_ _=>rfl›
   c5:=bW (ps:=["net","stream","begun"]) X G T.D5 rfl ‹wy λ_ _ _=>rfl›
   c6:=bW (ps:=["net","come","place"]) X G T.D6 rfl ‹wy λ_ _ _=>rfl›
   c7:=bW (ps:=["stream","steps","loads"]) X G T.D7 rfl ‹wy λ_ _ _=>rfl›
   c8:=bW (ps:=["net"]) X G T.D8 rfl ‹Ex λ_=>rfl›
   c9:=bW (ps:=["net"]) X G T.D9 rfl ‹Ex λ_=>rfl›
   c10:=bW (ps:=["bends","last"]) X G T.D10 rfl ‹lQ λ_ _=>rfl›
   Wf:=bW (ps:=["net","last"]) X G T.D11 rfl ‹lQ λ_ _=>rfl›
   c12:=bW (ps:=["net","starts"]) X G T.D12 rfl ‹lQ λ_ _=>rfl›
   c13:=bW (ps:=["net","starts"]) X G T.D13 rfl ‹lQ λ_ _=>rfl›
   Yw:=bW (ps:=["net","starts","last"]) X G T.D14 rfl ‹wy λ_ _ _=>rfl›
   Yx:=bW (ps:=["cell"]) X G T.D15 rfl ‹Ex λ_=>rfl›
   c16:=bW (ps:=["pool","base"]) X G T.D16 rfl ‹lQ λ_ _=>rfl›
   c17:=bW (ps:=["pool","base"]) X G T.D17 rfl ‹lQ λ_ _=>rfl›
   Yy:=bW (ps:=["pool","most","rooms","hours"]) X G T.D18 rfl ‹lk4 λ_ _ _ _=>rfl›
   Yz:=bW (ps:=["pool","many"]) X G T.D19 rfl ‹lQ λ_ _=>rfl›
   c20:=bW (ps:=["many","starts","last"]) X G T.D20 rfl ‹wy λ_ _ _=>rfl›
   c21:=bW (ps:=["net","starts","last"]) X G T.D21 rfl ‹wy λ_ _ _=>rfl›
   YB:=bW (ps:=["found"]) X G T.D22 rfl ‹Ex λ_=>rfl›
   YC:=bW (ps:=["script","most"]) X G T.D23 rfl ‹lQ λ_ _=>rfl›
   c24:=bW (ps:=["script"]) X G T.D24 rfl ‹Ex λ_=>rfl›}|n+1=>have a:=Dz (Pg:=Pg) (w:=w) (base:=base) T X G n
   {c0:=bZ (ps:=["net","step"]) X G T.D0 rfl rfl ‹lQ λ_ _=>rfl› λ_ _ F=>d0 (cl:=kE T) F
    c1:=bZ (ps:=["net","step"]) X G T.D1 rfl rfl ‹lQ λ_ _=>rfl› λ_ _ F=>d1 (cl:=kE T) F
    c2:=bZ (ps:=["net","stream","step"]) X G T.D2 rfl rfl ‹wy λ_ _ _=>rfl› λ_ _ F=>d2 (cl:=kE T) F
    c3:=bZ (ps:=["net","steps"]) X G T.D3 rfl rfl ‹lQ λ_ _=>rfl› λ_ _ F=>d3 (cl:=kE T) F (mg_none_of X G T.qI) a.c1
    c4:=bZ (ps:=["net","stream"]) X G T.D4 rfl rfl ‹lQ λ_ _=>rfl› λ_ _ F=>d4 (cl:=kE T) F (mg_none_of X G T.dH) (mg_none_of X G T.aV) a.c0 a.c2
    c5:=bZ (ps:=["net","stream","begun"]) X G T.D5 rfl rfl ‹wy λ_ _ _=>rfl› λ_ _ F=>d5 (cl:=kE T) F (mg_none_of X G T.dH) (mg_none_of X G T.fZ) a.c4 a.c1 a.c0
    c6:=bZ (ps:=["net","come","place"]) X G T.D6 rfl rfl ‹wy λ_ _ _=>rfl› λ_ _ F=>d6 (cl:=kE T) F (mg_none_of X G T.jy) (mg_none_of X G T.cP) a.c0
    c7:=bZ (ps:=["stream","steps","loads"]) X G T.D7 rfl rfl ‹wy λ_ _ _=>rfl› λ_ _ F=>d7 (cl:=kE T) F (mg_none_of X G T.fZ)
    c8:=bZ (ps:=["net"]) X G T.D8 rfl rfl ‹Ex λ_=>rfl› λ_ _ F=>d8 (cl:=kE T) F (mg_none_of X G T.dH) (mg_none_of X G T.gO) a.c5 a.c2 a.c6 a.c7
    c9:=bZ (ps:=["net"]) X G T.D9 rfl rfl ‹Ex λ_=>rfl› λ_ _ F=>d9 (cl:=kE T) F (mg_none_of X G T.o9) a.c8 a.c3
    c10:=bZ (ps:=["bends","last"]) X G T.D10 rfl rfl ‹lQ λ_ _=>rfl› λ_ _ F=>d10 (cl:=kE T) F (mg_none_of X G T.qI)
    Wf:=bZ (ps:=["net","last"]) X G T.D11 rfl rfl ‹lQ λ_ _=>rfl› λ_ _ F=>d11 (cl:=kE T) F a.c9 a.c10
    c12:=bZ (ps:=["net","starts"]) X G T.D12 rfl rfl ‹lQ λ_ _=>rfl› λ_ _ F=>d12 (cl:=kE T) F (mg_none_of X G T.aV)
    c13:=bZ (ps:=["net","starts"]) X G T.D13 rfl rfl ‹lQ λ_ _=>rfl› λ_ _ F=>d13 (cl:=kE T) F (mg_none_of X G T.eZ) (mg_none_of X G T.cP) a.c12
    Yw:=bZ (ps:=["net","starts","last"]) X G T.D14 rfl rfl ‹wy λ_ _ _=>rfl› λ_ _ F=>d14 (cl:=kE T) F a.c13 a.Wf
    Yx:=bZ (ps:=["cell"]) X G T.D15 rfl rfl ‹Ex λ_=>rfl› λ_ _ F=>d15 (cl:=kE T) F (mg_none_of X G T.eZ)
    c16:=bZ (ps:=["pool","base"]) X G T.D16 rfl rfl ‹lQ λ_ _=>rfl› λ_ _ F=>d16 (cl:=kE T) F
    c17:=bZ (ps:=["pool","base"]) X G T.D17 rfl rfl ‹lQ λ_ _=>rfl› λ_ _ F=>d17 (cl:=kE T) F a.c16
    Yy:=bZ (ps:=["pool","most","rooms","hours"]) X G T.D18 rfl rfl ‹lk4 λ_ _ _ _=>rfl› λ_ _ F=>d18 (cl:=kE T) F (mg_none_of X G T.eZ) (mg_none_of X G T.gO) (mg_none_of X G T.aV) (mg_none_of X G T.cP) a.c16 a.c17
    Yz:=bZ (ps:=["pool","many"]) X G T.D19 rfl rfl ‹lQ λ_ _=>rfl› λ_ _ F=>d19 (cl:=kE T) F (mg_none_of X G T.aV) (mg_none_of X G T.cP) a.c16
    c20:=bZ (ps:=["many","starts","last"]) X G T.D20 rfl rfl ‹wy λ_ _ _=>rfl› λ_ _ F=>d20 (cl:=kE T) F (mg_none_of X G T.fZ) (mg_none_of X G T.aV)
    c21:=bZ (ps:=["net","starts","last"]) X G T.D21 rfl rfl ‹wy λ_ _ _=>rfl› λ_ _ F=>d21 (cl:=kE T) F (mg_none_of X G T.eZ) (mg_none_of X G T.gO) a.c20
    YB:=bZ (ps:=["found"]) X G T.D22 rfl rfl ‹Ex λ_=>rfl› λ_ _ F=>d22 (cl:=kE T) F (mg_none_of X G T.xu) (mg_none_of X G T.Gp) (mg_none_of X G T.dX)
    YC:=bZ (ps:=["script","most"]) X G T.D23 rfl rfl ‹lQ λ_ _=>rfl› λ_ _ F=>d23 (cl:=kE T) F (mg_none_of X G T.dH) (mg_none_of X G T.eZ) (mg_none_of X G T.gO) (mg_none_of X G T.aV)
    c24:=bZ (ps:=["script"]) X G T.D24 rfl rfl ‹Ex λ_=>rfl› λ_ _ F=>d24 (cl:=kE T) F (mg_none_of X G T.dH) (mg_none_of X G T.aV) a.YC a.c21 a.Yy a.c16 a.Yx a.Yz a.YB a.Wf a.Yw}
set_option maxHeartbeats 0 in
theorem O7{Pg:Program}{w:World}{K:PySem.W.Frag}{mg:Str->Option Value}{h:Heap}{i:Addr}(T:Txt K)(X:K.In h)(G:h.Ns mainGlobals mg)(g:mg "law"=some (.ref i)):∃fd:FuncData,(∀(s:Shared)(u:Value),BindsTo s fd ⟨[u],[]⟩ [("script",u)])/\∀base:Heap,K.In base->base.Ns mainGlobals mg->kZ Pg w K mg base CP 40 i fd ["script"] (Hu K 1 (run Γ 100000000 40 24)):=by
 obtain⟨f,fd,a,F⟩:=T.D24.ex;have e:=g.symm.trans (mg_of X G a);cases e;refine⟨fd,λs u=>?_,λbase j l=>?_⟩;.obtain⟨oc,q,kV,m,r,t,cdv,ct,o,rfl,lk,p⟩:=F.ex;exact .of_eq rfl
 .have b:=Dz (Pg:=Pg) (w:=w) (base:=base) T j l 39;exact d24 (cl:=kE T) (k:=39) (n:=100000000) (c:=run Γ 100000000 39) F (mg_none_of X G T.dH) (mg_none_of X G T.aV) b.YC b.c21 b.Yy b.c16 b.Yx b.Yz b.YB b.Wf b.Yw
end T
open PySem PySem.W PyProof.Rows
set_option maxRecDepth 100000 in
set_option maxHeartbeats 0 in
theorem PySem.Challenge.cw_hourhaul_k78_most_from_starts_holds : PySem.Challenge.rw_hourhaul_k78_most_from_starts.Holds := by
 w_on;o_law;k_head;(case hw=>w_witness2);k_fill;refine L2.Dl (l:=PySem.Challenge.rw_hourhaul_k78_most_from_starts) (n:=63) (k:=40) (x:="script") (CX:=L2.CP) (sp:=λK=>HH.Hu K 1 (HH.run T.Γ 100000000 40 24)) rfl (by decide) rfl ⟨rfl,by decide,by decide⟩ (λw h Y=>PySem.W.kIn_of Y) ?F ?S ?C;case F=>
  intro w mg j h f G b;refine T.O7 ?T f G b;constructor;iterate 25(· refine' HH.Lj ?a ?l ?c ?k;case a|l|c|k=>k_is)
  iterate 12(· k_is)
 case S=>intro K H a ns g m i;obtain⟨as,e⟩:=T.Jm ns g;exact HH.Ao i e
 case C=>exact λH s e o z=>z
