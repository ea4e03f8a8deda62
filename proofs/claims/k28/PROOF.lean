import PyProof.Rows.All
import Wide.All
import OpenK.AllK
import Wide.FinOn
import Lean
import PyProof.EqAt
import PyProof.EqKinds
import PyProof.TupleCall
import PySem.Str
import PySem.Builtin.Int.W1All
import PyProof.NeKinds
import PyProof.ZipIter
import PyProof.SumWalkG
import PyProof.MinMaxWalk
import PyProof.WalksMore
import PyProof.SeqI3
import PyProof.WalkInts
import PyProof.Rows.CallKwBuiltin
import PyProof.Rows.Tup
import PyProof.CollectIter
import PyProof.EnumMake
import PyProof.TupleOfSeq
import PyProof.ListNew
import PyProof.ReprLoop
import PyProof.StationsW
import PyProof.ExcClass3
import PyProof.Rows.CatchBare
import OpenK.KOwn
import KE.KIsAll
import PyProof.NsDelKeeps
import PyProof.RulesAs
import PyProof.ExcArgsOwn
import PyProof.ListRange
import KE.RegKIsAll
import KE.KRevIter
import PyProof.Rows.SortRuns
import KE.KSortTup
import PyProof.DictWalks
import KE.KDictList
import KE.KItemsList
import PyProof.ExcBaseAll.ValueError
import PySem.Challenge.RW_hourhaul_k28_bends_of_rails
set_option Elab.async false
set_option linter.all false
set_option maxRecDepth 100000
set_option genSizeOf false
set_option compiler.extract_closed false
set_option bootstrap.genMatcherCode false
open List(replicate getElem?_set_ne getElem?_set_self size_toArray map_cons mem_map mem_cons mem_append mem_singleton length_map length_cons map_map length_append append_assoc mem_cons_of_mem nodup_cons all_eq_true mem_of_getElem? getElem?_append_left getElem?_map lookup_cons find?_cons append_nil mem_append_right foldl map_congr_left map_append mem_cons_self length_take replicate_succ drop_eq_getElem_cons getD_eq_getElem?_getD getElem?_append_right take_of_length_le getElem_mem map_nil length_range any_cons cons_append filterMap_cons length_drop all_cons toArray nodup_append map_drop reverse_cons flatten_cons nil_append getElem?_take drop_eq_nil_iff ext_getElem pairwise_append map any_eq_true pairwise_map mem_range of_mem_zip length_nil map_set)
open Nat(le_refl ne_of_lt zero_le lt_of_lt_of_le le_trans lt_irrefl le_of_lt)
open PySem.W(mg_none_of keepIn methodObj mg_of kitx_dict)
open PySem.Heap(lt_size get?_push_of_some get?_push_size get?_update_other size_push SameBut)
open PySem.Builtin.Tuple(tupleExact tupleItemsOf)
open Bool(and_eq_true false_eq_true not_eq_true' or_eq_true)
open Option(map_eq_some_iff bind_some isSome_map getD_none)
open Array(length_toList toList_push toList)
open PySem.Builtin.Slice(slicePlaces sliceAdjust sliceApplied)
open PySem.Builtin.List(listExtendWith listTooLong listLengthHint listSameRef)
open PySem.F(slot_tuple_add entry_tuple_add args_tuple_add_2 slot_tuple_mul plainAttrs_list slot_dict_get)
open PySem.SeqAt.EqAt(int_str str_int)
open PySem.SeqAt.RcAt(lists_lengths)
open Int(mul_one sub_zero mul_add mul_comm mul_zero mul_neg)
open PySem.SeqAt.RcNeAt(none_int none_str bool_int bool_str int_none int_bool int_int int_list str_none str_bool str_str str_list list_int list_str)
theorem fH{h:PySem.Heap}{o b:PySem.Obj}{a:PySem.Addr}(e:h.get? a=some o):(h.push b).get? a=some o:=PySem.Heap.get?_push_of_some _ e
theorem dj{b:Type}{l:List b}{i:Nat}{a:b}(h:l[i]?=some a):∃h:i<l.length,l[i]=a:=List.getElem?_eq_some_iff.mp h
theorem di{b:Type}{l:List b}{i j:Nat}{a:b}(h:j≠i):(l.set i a)[j]?=l[j]?:=List.getElem?_set_ne (Ne.symm h)
theorem pG{n:Nat}:0<=n:=Nat.zero_le n
theorem bN{n:Nat}:n<=n:=Nat.le_refl n
section
namespace L2
open PySem PySem.Spec PyProof.Rows
variable{w:World}{h:Heap}{t' i:Nat}{M:Model}{A:Around}{s:Shared}{pos:Pos}{pins:List (Addr×Obj)}{K:PySem.W.Frag}{tg:Expr}{us:List Value}
noncomputable abbrev Key:=Sum Int Str
noncomputable def lQ:Key->Value->Bool|.inl k,v=>Value.isInt k v|.inr x,v=>Value.isStrOf x v
noncomputable def Y0(w:World):Key->Int|.inl k=>hashInt k|.inr x=>hashStr w x
theorem aR:∀{k:Key}{v:Value},lQ k v=true->(∃i t,k=Sum.inl i/\v=Value.int i t)\/(∃x t,k=Sum.inr x/\v=Value.str x t)|.inl i,v,h=>by obtain⟨t,e⟩:=Value.isInt_shape (k:=i) (v:=v) h;exact .inl ⟨i,t,rfl,e⟩|.inr x,v,h=>by obtain⟨t,e⟩:=Value.isStrOf_shape (x:=x) (v:=v) h;exact .inr ⟨x,t,rfl,e⟩
theorem Br(i:Int)(t:Tok):lQ (.inl i) (.int i t)=true:=by simp[lQ,Value.isInt]
theorem Bl(x:Str)(t:Tok):lQ (.inr x) (.str x t)=true:=by simp[lQ,Value.isStrOf]
theorem Ot(a b:Int):decide ((Sum.inl a:Key)=Sum.inl b)=(a==b):=by
 by_cases e:a=b;.subst e;simp
 .have h:¬(Sum.inl a:Key)=Sum.inl b:=λq=>e (Sum.inl.inj q);rw[decide_eq_false h];exact(beq_eq_false_iff_ne.mpr e).symm
theorem Qn(a b:Str):decide ((Sum.inr a:Key)=Sum.inr b)=decide (a=b):=by
 by_cases e:a=b;.subst e;simp
 .have h:¬(Sum.inr a:Key)=Sum.inr b:=λq=>e (Sum.inr.inj q);rw[decide_eq_false h,decide_eq_false e]
theorem MT(a:Int)(b:Str):decide ((Sum.inl a:Key)=Sum.inr b)=false:=decide_eq_false (λq=>nomatch q)
theorem Qu(a:Str)(b:Int):decide ((Sum.inr a:Key)=Sum.inl b)=false:=decide_eq_false (λq=>nomatch q)
noncomputable def aL(prog:Program)(w:World):PySem.KeyKind prog w Key where
 is:=lQ;hash:=Y0 w;inj:=λv a b g f=>by
  rcases aR g with⟨i,t,rfl,rfl⟩|⟨x,t,rfl,rfl⟩
  . rcases aR f with⟨j,u,rfl,e⟩|⟨y,u,rfl,e⟩;.injection e with e1 _;rw[e1]
    .exact nomatch e
  . rcases aR f with⟨j,u,rfl,e⟩|⟨y,u,rfl,e⟩;.exact nomatch e
    .injection e with e1 _;rw[e1]
 byValue:=λk v h=>by rcases aR h with⟨i,t,rfl,rfl⟩|⟨x,t,rfl,rfl⟩<;>rfl
 pyHash:=λc h=>by
  rcases aR c with⟨i,t,rfl,rfl⟩|⟨x,t,rfl,rfl⟩;.exact wpAny_pyHash_int h
  .exact wpAny_pyHash_str h
 eqBool:=λl c h=>by
  rcases aR l with⟨i,t,rfl,rfl⟩|⟨x,t,rfl,rfl⟩
  . rcases aR c with⟨j,u,rfl,rfl⟩|⟨y,u,rfl,rfl⟩;.rw[Ot]at h;exact wpAny_eqBool_int h
    .rw[MT]at h;exact int_str i t y u _ _ _ _ h
  . rcases aR c with⟨j,u,rfl,rfl⟩|⟨y,u,rfl,rfl⟩;.rw[Qu]at h;exact str_int x t j u _ _ _ _ h
    .rw[Qn]at h;exact wpAny_eqBool_str h
 «strs»:=λk x t v h=>by
  rcases aR h with⟨i,u,rfl,e⟩|⟨y,u,rfl,e⟩;.exact nomatch e
  .injection e with e1 _;subst e1;cases v<;>rfl
theorem vK(prog:Program)(w:World)(i:Int)(t:Tok):(aL prog w).is (.inl i) (.int i t)=true:=Br i t
theorem vG(prog:Program)(w:World)(x:Str)(t:Tok):(aL prog w).is (.inr x) (.str x t)=true:=Bl x t
inductive V where|non|bl(b:Bool)|int(i:Int)|str(x:Str)|byt(b:Array UInt8)|flt(b:UInt64)|ref(a:Addr)|ty(n:String)deriving DecidableEq
def RelV:V->Value->Prop|.non,u=>u=Value.none|.bl b,u=>u=Value.bool b|.int i,u=>∃t,u=Value.int i t|.str x,u=>∃t,u=Value.str x t|.byt b,u=>∃t,u=Value.bytes b t|.flt b,u=>∃t,u=Value.float b t|.ref a,u=>u=Value.ref a|.ty n,u=>u=Value.type n
abbrev Vals:List V->List Value->Prop:=Paired RelV
theorem Vals.length{xs:List V}{us:List Value}(r:Vals xs us):xs.length=us.length:=Paired.length r
theorem Vals.get:∀{xs:List V}{us:List Value}{i:Nat}{x:V},Vals xs us->xs[i]?=some x->∃u,us[i]?=some u/\RelV x u|_,_,_,_,.nil,e=>by simp at e|_,_,0,_,.cons r _,e=>by simp at e;subst e;exact⟨_,rfl,r⟩|_,_,i+1,x,.cons _ t,e=>by obtain⟨u,h1,a⟩:=Vals.get (i:=i) (x:=x) t (by simpa using e);exact⟨u,by simpa using h1,a⟩
theorem Vals.set{x:V}{u:Value}(r:RelV x u):∀{xs:List V}{us:List Value}(i:Nat),Vals xs us->Vals (xs.set i x) (us.set i u)|_,_,_,.nil=>.nil|_,_,0,.cons _ t=>.cons r t|_,_,i+1,.cons q t=>.cons q (Vals.set r i t)
theorem Vals.append:∀{xs ys:List V}{us ws:List Value},Vals xs us->Vals ys ws->Vals (xs++ys) (us++ws)|_,_,_,_,.nil,s=>s|_,_,_,_,.cons r t,s=>.cons r (Vals.append t s)
theorem Vals.take:∀{xs:List V}{us:List Value}(n:Nat),Vals xs us->Vals (xs.take n) (us.take n)|_,_,0,_=>.nil|_,_,_+1,.nil=>.nil|_,_,n+1,.cons r t=>.cons r (Vals.take n t)
theorem Vals.drop:∀{xs:List V}{us:List Value}(n:Nat),Vals xs us->Vals (xs.drop n) (us.drop n)|_,_,0,r=>r|_,_,_+1,.nil=>.nil|_,_,n+1,.cons _ t=>Vals.drop n t
def mj:Option V->Option Value->Prop|some v,some u=>RelV v u|none,none=>True|_,_=>False
def KV{κ:Type}:List (κ×V)->List (κ×Value)->Prop:=Paired λ(p:κ×V)(q:κ×Value)=>p.1=q.1/\RelV p.2 q.2
noncomputable def kV:Key->V|.inl i=>.int i|.inr x=>.str x
inductive HO where|lst(xs:List V)|tup(xs:List V)|dK(kvs:List (Key×V))|dT(kvs:List (List Key×V))|set(S:Int->Bool)(n:Nat)|ins(C dx:Addr)(fs:List (Str×V))|own(x:Addr)|xd(fs:List (Str×V))|met(f x:Addr)|v7(lo hi:Int)|cz(o:Obj)(u:HO)|QF(ps:Array Value)|ext(φ:Heap->Prop)
noncomputable abbrev Hp:=Addr->Option HO
variable{H:Hp}
noncomputable def upd(H:Hp)(a:Addr)(o:HO):Hp:=λb=>if b=a then some o else H b
theorem aF{a:Addr}{o:HO}:upd H a o a=some o:=by unfold upd;rw[if_pos rfl]
theorem ao{a b:Addr}{o:HO}(h:b≠a):upd H a o b=H b:=by unfold upd;rw[if_neg h]
theorem zR{a:Addr}{o u:HO}:upd (upd H a o) a u=upd H a u:=by funext b;unfold upd;split<;>rfl
theorem Uc{a b:Addr}{o u:HO}(h:H a=some o)(h':H b=some u)(d:o≠u):a≠b:=by intro e;subst e;rw[h]at h';exact d (Option.some.inj h')
theorem dY{a b:Addr}{o:HO}(h:H a=some o)(h':H b=none):a≠b:=by intro e;subst e;rw[h]at h';cases h'
section
variable(P:Program)(w:World)
def aX(H:Hp)(h:Heap)(a:Addr):HO->Prop|.lst xs=>xs.length<=sizeLine/\∃(b:List Value)(n:Nat),Vals xs b/\h.get? a=some {cls:=.type "list",data:=.seq b.toArray n}|.tup xs=>xs.length<=sizeLine/\∃b:List Value,Vals xs b/\IsTup h a b.toArray|.dK kvs=>kvs.length<=sizeLine/\(a==sysModules)=false/\∃vs,KV kvs vs/\h.DictOf (aL P w) a vs|.dT kvs=>kvs.length<=sizeLine/\(a==sysModules)=false/\∃xs:List (List Key×Addr×Value),Paired (λ(p:List Key×V)(q:List Key×Addr×Value)=>p.1=q.1/\H q.2.1=some (.tup (p.1.map kV))/\RelV p.2 q.2.2) kvs xs/\∃o es ep,h.get? a=some o/\o.ExactDict/\o.data=.dict es ep/\es.toList=xs.map (entryOfKey (tupleKind (aL P w)))/\(xs.map (·.1)).Nodup|.set S n=>h.SetOf (intKind P w) a S n|.ins C e fs=>H e=some (.own a)/\fs.length<=1000/\e≠a/\h.get? a=some (PySem.W.instObj C e)/\∃c,h.Ns1 e c/\(∀f,mj (fs.lookup f) (c f))/\PySem.Within c (fs.map (·.1))|.own _=>∃o,h.get? a=some o|.xd fs=>∃c,h.Ns1 a c/\∀f,mj (fs.lookup f) (c f)|.v7 lo hi=>∃t u v,h.get? a=some {cls:=.type "range",data:=.fields #[.int lo t,.int hi u,.int 1 v]}|.cz o u=>h.get? a=some o/\aX H h a u|.QF ps=>h.get? a=some {cls:=.none,data:=.fields ps}|.met f x=>h.get? a=some (methodObj (.ref f) (.ref x))|.ext g=>g h/\(∃o,h.get? a=some o)/\∀h1 j:Heap,g h1->(∀o,h1.get? a=some o->j.get? a=some o)->g j
def kW(H:Hp)(h:Heap):Prop:=∀a o,H a=some o->aX P w H h a o
end
section
variable{P:Program}{w:World}{H H':Hp}{h h':Heap}{a:Addr}{o:HO}
theorem aX.lt(x:aX P w H h a o):a<h.objs.size:=by cases o with|lst xs=>obtain⟨_,_,_,_,e⟩:=x;exact lt_size e|tup xs=>obtain⟨_,_,_,p⟩:=x;exact p.lt|dK kvs=>obtain⟨_,_,_,_,o,_,_,e,_⟩:=x;exact lt_size e|dT kvs=>obtain⟨_,_,_,_,o,_,_,e,_⟩:=x;exact lt_size e|set S n=>obtain⟨o,_,_,_,e,_⟩:=x;exact lt_size e|ins C b fs=>obtain⟨_,_,_,e,_⟩:=x;exact lt_size e|own y=>obtain⟨_,e⟩:=x;exact lt_size e|xd fs=>obtain⟨_,⟨_,_,_,e,_⟩,_⟩:=x;exact lt_size e|v7 lo hi=>obtain⟨_,_,_,e⟩:=x;exact lt_size e|cz c u=>obtain⟨e,_⟩:=x;exact lt_size e|QF ps=>exact lt_size (show h.get? a=some _ from x)|met f y=>exact lt_size (show h.get? a=some _ from x)|ext g=>obtain⟨_,⟨_,e⟩,_⟩:=x;exact lt_size e
theorem Paired.LQ{g j:Type}{F G:g->j->Prop}:∀{c:List g}{e:List j},Paired F c e->(∀a b,F a b->G a b)->Paired G c e|_,_,.nil,_=>.nil|_,_,.cons r t,f=>.cons (f _ _ r) (Paired.LQ t f)
theorem aX.stay(x:aX P w H h a o)(k:∀b u,(b=a\/H b=some (.own a))->h.get? b=some u->h'.get? b=some u)(ho:∀b,H b=some (.own a)->H' b=some (.own a))(ht:∀b xs,H b=some (.tup xs)->H' b=some (.tup xs)):aX P w H' h' a o:=by induction o with|lst xs=>obtain⟨z,j,n,r,e⟩:=x;exact⟨z,j,n,r,k _ _ (.inl rfl) e⟩|tup xs=>obtain⟨z,j,r,g,e,c⟩:=x;exact⟨z,j,r,g,k _ _ (.inl rfl) e,c⟩|dK kvs=>obtain⟨z,y,vs,r,g,es,ep,e,c⟩:=x;exact⟨z,y,vs,r,g,es,ep,k _ _ (.inl rfl) e,c⟩|dT kvs=>obtain⟨z,y,xs,r,g,es,ep,e,c⟩:=x;exact⟨z,y,xs,Paired.LQ r λp q z=>⟨z.1,ht _ _ z.2.1,z.2.2⟩,g,es,ep,k _ _ (.inl rfl) e,c⟩|set S n=>obtain⟨g,es,ep,t,e,c⟩:=x;exact⟨g,es,ep,t,k _ _ (.inl rfl) e,c⟩|ins C G fs=>obtain⟨d,z,ne,e,l,⟨m,es,ep,B,c⟩,r⟩:=x;exact⟨ho _ d,z,ne,k _ _ (.inl rfl) e,l,⟨m,es,ep,k _ _ (.inr d) B,c⟩,r⟩|own y=>obtain⟨g,e⟩:=x;exact⟨g,k _ _ (.inl rfl) e⟩|xd fs=>obtain⟨l,⟨m,es,ep,e,c⟩,r⟩:=x;exact⟨l,⟨m,es,ep,k _ _ (.inl rfl) e,c⟩,r⟩|v7 lo hi=>obtain⟨t,u,v,e⟩:=x;exact⟨t,u,v,k _ _ (.inl rfl) e⟩|cz g u E=>obtain⟨e,q⟩:=x;exact⟨k _ _ (.inl rfl) e,E q⟩|QF ps=>have e:h.get? a=some {cls:=.none,data:=.fields ps}:=x;show h'.get? a=some {cls:=.none,data:=.fields ps};exact k a _ (.inl rfl) e|met f y=>have e:h.get? a=some (methodObj (.ref f) (.ref y)):=x;show h'.get? a=some (methodObj (.ref f) (.ref y));exact k a _ (.inl rfl) e|ext I=>obtain⟨p,⟨o,e⟩,st⟩:=x;exact⟨st _ _ p λo q=>k _ _ (.inl rfl) q,⟨o,k _ _ (.inl rfl) e⟩,st⟩
theorem kW.lt(x:kW P w H h)(e:H a=some o):a<h.objs.size:=(x a o e).lt
theorem kW.fresh(x:kW P w H h)(e:h.objs.size<=a):H a=none:=by cases q:H a with|none=>rfl|some u=>exact absurd (lt_of_lt_of_le (x.lt q) e) (lt_irrefl _)
theorem kW.kept(x:kW P w H h)(k:∀b u,h.get? b=some u->h'.get? b=some u):kW P w H h':=λa o e=>(x a o e).stay (λb u _ q=>k b u q) (λ_ q=>q) λ_ _ q=>q
theorem kW.laid(x:kW P w H h)(k:∀b u,h.get? b=some u->h'.get? b=some u)(l:h.objs.size<=a)(f:aX P w (upd H a o) h' a o):kW P w (upd H a o) h':=λb u e=>by
 have g:=x.fresh l;by_cases j:b=a;.subst j;rw[aF]at e;cases e;exact f
 .rw[ao j]at e;exact(x b u e).stay (λc v _ q=>k c v q) (λc q=>by rw[ao (dY q g)];exact q) λc xs q=>by rw[ao (dY q g)];exact q
end
def Rd(H:Hp)(a:Addr)(u:HO):Prop:=H a=some u\/∃o,H a=some (.cz o u)
theorem Rd.ok{P:Program}{a:Addr}{u:HO}(r:Rd H a u)(x:kW P w H h):aX P w H h a u:=by
 rcases r with r|⟨o,r⟩;.exact x a u r
 .obtain⟨_,q⟩:=x a _ r;exact q
def TF:Option HO->Prop|some (.lst _)=>True|some (.dK _)=>True|some (.dT _)=>True|some (.set _ _)=>True|some (.ins _ _ _)=>True|some (.ext _)=>True|_=>False
section
variable{P:Program}{w:World}{H:Hp}{h h':Heap}{x e:Addr}{o':HO}
theorem kW.write(ok:kW P w H h)(f:TF (H x))(he:e=x\/H e=some (.own x))(k:∀b u,b≠e->h.get? b=some u->h'.get? b=some u)(j:∃u,h'.get? e=some u)(l:aX P w (upd H x o') h' x o'):kW P w (upd H x o') h':=λb u q=>by
 have n:∀c y,H c=some (.own y)->c≠x:=λc y r z=>by subst z;rw[r]at f;exact f
 have m:∀c xs,H c=some (.tup xs)->c≠x:=λc xs r z=>by subst z;rw[r]at f;exact f
 by_cases g:b=x;.subst g;rw[aF]at q;cases q;exact l
 . rw[ao g]at q;by_cases a:b=e
   . have o:H b=some (.own x):=by
      rcases he with z|z;.exact absurd (a.trans z) g
      .rw[a];exact z
     rw[q]at o;cases o;obtain⟨v,p⟩:=j;exact⟨v,by rw[a];exact p⟩
   . refine(ok b u q).stay (λc v hc r=>k c v ?_ r) (λc r=>by rw[ao (n c b r)];exact r) λc xs r=>by rw[ao (m c xs r)];exact r
     rcases hc with rfl|hc;.exact a
     . rintro rfl;rcases he with z|z;.exact n c b hc z
       .rw[hc]at z;cases z;exact g rfl
end
structure Un(fs ex:List Addr)(H H':Hp)(h h':Heap):Prop where
 keep:∀b o,h.get? b=some o->H b=none->b∉fs->b∉ex->h'.get? b=some o
 slot:∀b o,h.get? b=some o->H b=none->b∈fs->b∉ex->∃sl,h'.get? b=some {o with slots:=sl}free:∀b o,h.get? b=some o->H b=none->b∉ex->H' b=none
 there:∀b o,h.get? b=some o->b∉ex->∃o',h'.get? b=some o'
 tups:∀b xs,H b=some (.tup xs)->H' b=some (.tup xs)tU:∀b o u,H b=some (.cz o u)->H' b=some (.cz o u)vM:∀b ps,H b=some (.QF ps)->∃more,H' b=some (.QF (ps++more))
section
variable{fs fs' ex ex':List Addr}{H H1 H2:Hp}{h h1 h2 h':Heap}{a x e:Addr}{o:HO}
theorem Un.any(u:Un fs ex H H1 h h1){b:Addr}{c:Obj}(q:h.get? b=some c)(n:H b=none)(f:b∉ex):∃sl,h1.get? b=some {c with slots:=sl}:=by
 by_cases g:b∈fs;.exact u.slot b c q n g f
 .exact⟨c.slots,u.keep b c q n g f⟩
theorem Un.kept(k:∀b u,h.get? b=some u->h'.get? b=some u):Un fs ex H H h h':=⟨λb c q _ _ _=>k b c q,λb c q _ _ _=>⟨c.slots,k b c q⟩,λ_ _ _ n _=>n,λb c q _=>⟨c,k b c q⟩,λ_ _ q=>q,λ_ _ _ q=>q,λ_ ps q=>⟨#[],by rw[q];simp⟩⟩
theorem Un.refl:Un fs ex H H h h:=Un.kept λ_ _ q=>q
theorem Un.laid(k:∀b u,h.get? b=some u->h'.get? b=some u)(f:h.objs.size<=a)(c:H a=none):Un fs ex H (upd H a o) h h' where
 keep:=λb u q _ _ _=>k b u q;slot:=λb u q _ _ _=>⟨u.slots,k b u q⟩;free:=λb u q n _=>by rw[ao (ne_of_lt (lt_of_lt_of_le (lt_size q) f))];exact n
 there:=λb u q _=>⟨u,k b u q⟩;tups:=λb xs q=>by rw[ao (dY q c)];exact q
 tU:=λb u xs q=>by rw[ao (dY q c)];exact q
 vM:=λb ps q=>⟨#[],by rw[ao (dY q c),q];simp⟩
theorem Un.write(f:TF (H x))(he:e=x\/H e=some (.own x))(k:∀b u,b≠e->h.get? b=some u->h'.get? b=some u)(g:∃u,h'.get? e=some u):Un fs ex H (upd H x o) h h':=by
 have l:∀b,H b=none->b≠x:=λb n z=>by subst z;rw[n]at f;exact f
 have m:∀b,H b=none->b≠e:=λb n z=>by
  subst z;rcases he with r|r;.exact l b n r
  .rw[n]at r;cases r
 have j:∀b u,H b=some u->¬ TF (some u)->b≠x:=λb u q p z=>by subst z;rw[q]at f;exact p f
 refine⟨λb u q n _ _=>k b u (m b n) q,λb u q n _ _=>⟨u.slots,k b u (m b n) q⟩,λb u q n _=>by rw[ao (l b n)];exact n,λb u q _=>?_,λb xs q=>by rw[ao (j b _ q λz=>z)];exact q,λb u xs q=>by rw[ao (j b _ q λz=>z)];exact q,λb ps q=>⟨#[],by rw[ao (j b _ q λz=>z),q];simp⟩⟩;by_cases c:b=e;.subst c;exact g
 .exact⟨u,k b u c q⟩
end
noncomputable def Xz(h:Heap)(H:Hp):List Addr:=(List.range h.objs.size).filter λa=>(H a).isSome
noncomputable def rW(h:Heap)(H:Hp):Heap:=PySem.W.hideAll h (Xz h H)
theorem Ax(h:Heap)(H:Hp):(rW h H).objs.size=h.objs.size:=PySem.W.hideAll_size _ _
theorem Dr{b:Addr}{o:Obj}(e:h.get? b=some o)(n:H b=none):(rW h H).get? b=some o:=PySem.W.hideAll_get _ e λa=>by have q:(H b).isSome=true:=(List.mem_filter.mp a).2;rw[n]at q;simp at q
theorem Ho{b:Addr}{o:Obj}(e:(rW h H).get? b=some o):h.get? b=some o/\H b=none:=by have a:h.get? b=some o:=PySem.W.of_hideAll (Xz h H) e;refine⟨a,?_⟩;cases q:H b with|none=>rfl|some x=>have c:b∈Xz h H:=List.mem_filter.mpr ⟨mem_range.mpr (lt_size a),by simp[q]⟩;have z:(rW h H).get? b=none:=PySem.W.hideAll_none (Xz h H) c;rw[z]at e;cases e
structure Mod(K:PySem.W.Frag)(mg:Str->Option Value)(base:Heap):Prop where
 pJ:K.In base
 glob:base.Ns mainGlobals mg
 blt:∃mb,base.Ns builtinsNs mb/\∀x:Str,x≠"__name__"->mb x=bootBuiltins x
 nolimit:base.NoLimit
structure Cx where
 prog:Program
 w:World
 K:PySem.W.Frag
 mg:Str->Option Value
 base:Heap
 A:Around
 N:List Str
 s₀:Shared
 H₀:Hp
 env:Env
 outer:List Env
 stack:List Env
 ex:List Addr
 fn:Str->Bool
 calm:Bool
 pn:List (Addr×Obj)xe:Value->Shared->Prop
variable{X:Cx}
noncomputable def frs(l:List Env):List Addr:=l.filterMap (·.frame)
noncomputable abbrev Cx.fs(X:Cx):List Addr:=frs X.outer
def uC(a:Scope)(x:Str):Prop:=a.names.lookup x=some .local\/a.names.lookup x=some .cell\/a.names.lookup x=some .free
def Loc(a:Scope)(x:Str):Prop:=a.names.lookup x=some .local\/a.names.lookup x=some .cell
def Look(env:Env)(h:Heap)(m:Str->Option Value)(x:Str)(u:Value):Prop:=(env.kindOf x=some .local/\m x=some u)\/((env.kindOf x=some .cell\/env.kindOf x=some .free)/\∃c,env.cells.lookup x=some c/\h.IsCell c (some u))
structure Cx.Ok(X:Cx):Prop where
 mod:Mod X.K X.mg X.base
 kind:X.env.scope.kind=.function
 glob:X.env.globals=mainGlobals
 blt:X.env.builtins=builtinsNs
 above:X.s₀.heap.objs.size<=X.env.locals
 inj:∀x y c,X.env.cells.lookup x=some c->X.env.cells.lookup y=some c->x=y
 has:∀x,(X.env.kindOf x=some .cell\/X.env.kindOf x=some .free)->∃c,X.env.cells.lookup x=some c
 cab:∀x c,X.fn x=true->X.env.cells.lookup x=some c->X.s₀.heap.objs.size<=c
 hd:X.calm=true->X.A.handled=none
 frames:X.A.frames=some X.stack
 Yt:X.stack=X.outer\/(X.stack=X.env::X.outer/\X.env.frame=some X.env.locals)exf:∀b∈X.ex,b≠X.env.locals/\∀x c,X.env.cells.lookup x=some c->c≠b
 bs:∀b o,X.base.get? b=some o->X.s₀.heap.get? b=some o/\X.H₀ b=none
 Lh:X.base.objs.size<=X.s₀.heap.objs.size
 Gx:∀b o,X.base.get? b=some o->b∉X.ex
 JR:∀b∈X.ex,b∉X.fs
 n6:X.s₀.heap.FunFrames X.base X.outer
 Sw:∀b∈X.fs,X.H₀ b=none
structure Inv(X:Cx)(pins:List (Addr×Obj))(σ:List (Option V))(H:Hp)(s:Shared):Prop where
 ok:X.Ok
 os:s.os=X.s₀.os
 bare:AllBare s.gens
 base:Un X.fs X.ex X.H₀ H X.s₀.heap s.heap
 loc:∃m,s.heap.Ns X.env.locals m/\∀(i:Nat)(x:Str)(v:V),X.N[i]?=some x->σ[i]?=some (some v)->uC X.env.scope x->∃u,RelV v u/\Look X.env s.heap m x u
 cell:∀x c,X.env.cells.lookup x=some c->∃v,s.heap.IsCell c v
 free:H X.env.locals=none
 jo:∀x c,X.env.cells.lookup x=some c->H c=none
 pin:∀p∈X.pn++pins,s.heap.get? p.1=some p.2/\H p.1=none/\p.1≠X.env.locals/\p.1∉X.fs/\∀v,p.2.data≠.cell v
 hok:kW X.prog X.w H s.heap
 len:σ.length=X.N.length
section
variable{X:Cx}{pins:List (Addr×Obj)}{σ:List (Option V)}{H H':Hp}{s:Shared}{h':Heap}
theorem Cx.Ok.Zi(ok:X.Ok){b:Addr}{o:Obj}(e:X.base.get? b=some o):b∉X.fs:=λa=>by have:=(ok.n6.mem a).1;rw[e]at this;cases this
theorem Inv.bs(I:Inv X pins σ H s):∀b o,X.base.get? b=some o->s.heap.get? b=some o/\H b=none:=λb o e=>⟨I.base.keep b o (I.ok.bs b o e).1 (I.ok.bs b o e).2 (I.ok.Zi e) (I.ok.Gx b o e),I.base.free b o (I.ok.bs b o e).1 (I.ok.bs b o e).2 (I.ok.Gx b o e)⟩
theorem Inv.bk(I:Inv X pins σ H s):∀b o,X.base.get? b=some o->s.heap.get? b=some o:=λb o e=>(I.bs b o e).1
theorem Inv.mod(I:Inv X pins σ H s):Mod X.K X.mg X.base:=I.ok.mod
theorem Inv.Ob(I:Inv X pins σ H s):X.K.In s.heap:=I.ok.mod.pJ.keeps I.bk
theorem Inv.lt(I:Inv X pins σ H s):X.env.locals<s.heap.objs.size:=let⟨_,hn,_⟩:=I.loc;hn.lt
theorem Inv.sz(I:Inv X pins σ H s):X.s₀.heap.objs.size<=s.heap.objs.size:=le_trans I.ok.above (le_of_lt I.lt)
theorem Inv.aap(I:Inv X pins σ H s){a:Addr}(h:s.heap.objs.size<=a):a∉X.fs:=λb=>by obtain⟨_,o,ho,_⟩:=I.ok.n6.mem b;exact absurd (lt_of_lt_of_le (lt_size ho) (le_trans I.sz h)) (lt_irrefl _)
theorem Inv.Qt(I:Inv X pins σ H s):∀x c,X.env.cells.lookup x=some c->c≠X.env.locals:=λx c e z=>by obtain⟨v,o,ho,hd⟩:=I.cell x c e;obtain⟨m,⟨f,es,ep,a,b,_⟩,_⟩:=I.loc;rw[z,a]at ho;cases ho;rw[b]at hd;cases hd
theorem Inv.n6(I:Inv X pins σ H s):s.heap.FunFrames X.base X.outer:=by
 have all:∀(l:List Env),(∀b∈frs l,b∈X.fs)->X.s₀.heap.FunFrames X.base l->s.heap.FunFrames X.base l:=by intro l;induction l with|nil=>intro _ _;trivial|cons env r g=>intro hs j;obtain⟨k,⟨L,o,a,m,ho,hd⟩,hr⟩:=j;have c:L∈X.fs:=hs L (by unfold frs;rw[filterMap_cons,a];exact mem_cons_self);obtain⟨sl,e⟩:=I.base.slot L o ho (I.ok.Sw L c) c λz=>I.ok.JR L z c;exact⟨k,⟨L,_,a,m,e,hd⟩,g (λb f=>hs b (by unfold frs;rw[filterMap_cons,a];exact mem_cons_of_mem _ f)) hr⟩
 exact all X.outer (λ_ f=>f) I.ok.n6
theorem Inv.stack(I:Inv X pins σ H s):s.heap.FunFrames X.base X.stack:=by
 rcases I.ok.Yt with e|⟨e,a⟩;.rw[e];exact I.n6
 .rw[e];obtain⟨m,b,_⟩:=I.loc;refine .cons (by rw[I.ok.kind];decide) a b ?_ I.n6;exact Heap.get?_none_of_le (le_trans I.ok.Lh I.ok.above)
theorem Inv.sr(I:Inv X pins σ H s):∀b∈frs X.stack,b∈X.env.locals::X.fs:=λb a=>by
 rcases I.ok.Yt with e|⟨e,c⟩;.rw[e]at a;exact mem_cons_of_mem _ a
 .rw[e]at a;unfold frs at a;rw[filterMap_cons,c]at a;exact a
theorem Inv.yS(I:Inv X pins σ H s):∀b∈frs X.stack,H b=none:=λb hb=>by
 rcases mem_cons.mp (I.sr b hb)with e|hb;.rw[e];exact I.free
 .obtain⟨_,o,ho,_⟩:=I.ok.n6.mem hb;exact I.base.free b o ho (I.ok.Sw b hb) λz=>I.ok.JR b z hb
theorem Inv.step{g':Array GenState}{d':Drawn}{ch:List Addr}(I:Inv X pins σ H s)(f:∀b∈ch,(b∈X.ex\/X.s₀.heap.objs.size<=b)/\b≠X.env.locals/\(∀x c,X.env.cells.lookup x=some c->c≠b)/\∀p∈X.pn++pins,p.1≠b)(keep:∀b o,b≠X.env.locals->b∉X.fs->b∉ch->s.heap.get? b=some o->H b=none->h'.get? b=some o)(slot:∀b o,b≠X.env.locals->b∈X.fs->b∉ch->s.heap.get? b=some o->H b=none->∃sl,h'.get? b=some {o with slots:=sl})(free:∀b o,b∉ch->s.heap.get? b=some o->H b=none->H' b=none)(there:∀b o,b∉ch->s.heap.get? b=some o->∃y,h'.get? b=some y)(tups:∀b xs,H b=some (.tup xs)->H' b=some (.tup xs))(tU:∀b o u,H b=some (.cz o u)->H' b=some (.cz o u))(vM:∀b ps,H b=some (.QF ps)->∃more,H' b=some (.QF (ps++more)))(ns:∀m,s.heap.Ns X.env.locals m->h'.Ns X.env.locals m)(hok:kW X.prog X.w H' h')(O:AllBare g'):Inv X pins σ H' {s with heap:=h',gens:=g',drawn:=d',toks:=t'}:=by
 have B:∀b o,X.s₀.heap.get? b=some o->b≠X.env.locals:=λb o e=>ne_of_lt (lt_of_lt_of_le (lt_size e) I.ok.above);have G:∀b o,X.s₀.heap.get? b=some o->b∉X.ex->b∉ch:=λb o e a t=>by
  rcases(f b t).1 with z|z;.exact a z
  .exact absurd (lt_of_lt_of_le (lt_size e) z) (lt_irrefl _)
 have g:∀x c,X.env.cells.lookup x=some c->∀v,s.heap.IsCell c v->h'.IsCell c v:=λx c e v⟨o,ho,hd⟩=>by
  have C:c∉ch:=λz=>(f c z).2.2.1 x c e rfl;by_cases hc:c∈X.fs;.obtain⟨sl,q⟩:=slot c o (I.Qt x c e) hc C ho (I.jo x c e);exact⟨_,q,hd⟩
  .exact⟨o,keep c o (I.Qt x c e) hc C ho (I.jo x c e),hd⟩
 refine⟨I.ok,I.os,O,⟨λb o e n t a=>?_,λb o e n t a=>?_,λb o e n a=>?_,λb o e a=>?_,λb xs e=>tups b xs (I.base.tups b xs e),λb o xs e=>tU b o xs (I.base.tU b o xs e),λb ps e=>?_⟩,?_,λx c e=>?_,?_,λx c e=>?_,λp L=>?_,hok,I.len⟩;.exact keep b o (B b o e) t (G b o e a) (I.base.keep b o e n t a) (I.base.free b o e n a)
 .obtain⟨sl,j⟩:=I.base.slot b o e n t a;obtain⟨J,E⟩:=slot b _ (B b o e) t (G b o e a) j (I.base.free b o e n a);exact⟨J,E⟩
 .obtain⟨y,j⟩:=I.base.there b o e a;exact free b y (G b o e a) j (I.base.free b o e n a)
 .obtain⟨y,j⟩:=I.base.there b o e a;exact there b y (G b o e a) j
 .obtain⟨m1,j⟩:=I.base.vM b ps e;obtain⟨Q,E⟩:=vM b _ j;exact⟨m1++Q,by rw[E,Array.append_assoc]⟩
 . obtain⟨m,U,W⟩:=I.loc;refine⟨m,ns m U,λi x v j E Y=>?_⟩;obtain⟨u,r,l⟩:=W i x v j E Y;refine⟨u,r,?_⟩;rcases l with l|⟨k,c,e,z⟩;.exact .inl l
   .exact .inr ⟨k,c,e,g x c e _ z⟩
 .obtain⟨v,z⟩:=I.cell x c e;exact⟨v,g x c e v z⟩
 .obtain⟨m,⟨o,_,_,ho,_⟩,_⟩:=I.loc;exact free _ o (λz=>(f _ z).2.1 rfl) ho I.free
 .obtain⟨v,o,ho,hd⟩:=I.cell x c e;exact free c o (λz=>(f c z).2.2.1 x c e rfl) ho (I.jo x c e)
 .obtain⟨e,n,ne,N,d⟩:=I.pin p L;have C:p.1∉ch:=λz=>(f p.1 z).2.2.2 p L rfl;exact⟨keep p.1 p.2 ne N C e n,free p.1 p.2 C e n,ne,N,d⟩
theorem Inv.un(I:Inv X pins σ H s)(u:Un X.fs [] H H' s.heap h')(hok:kW X.prog X.w H' h'):Inv X pins σ H' {s with heap:=h',toks:=t'}:=by obtain⟨m,⟨o,es,ep,ho,r⟩,_⟩:=id I.loc;obtain⟨sl,j⟩:=u.any ho I.free (by simp);exact I.step (g':=s.gens) (d':=s.drawn) (ch:=[]) (λ_ z=>nomatch z) (λb o _ c _ e n=>u.keep b o e n c (by simp)) (λb o _ c _ e n=>u.slot b o e n c (by simp)) (λb o _ e n=>u.free b o e n (by simp)) (λb o _ e=>u.there b o e (by simp)) u.tups u.tU u.vM (λl k=>by obtain⟨p,f,g,a,r'⟩:=k;rw[ho]at a;cases a;exact⟨_,f,g,j,r'⟩) hok I.bare
theorem Inv.call{g':Array GenState}{d':Drawn}{ch:List Addr}(I:Inv X pins σ H s)(u:Un (frs X.stack) ch H H' s.heap h')(hok:kW X.prog X.w H' h')(l:AllBare g')(a:∀b∈ch,(b∈X.ex\/X.s₀.heap.objs.size<=b)/\b≠X.env.locals/\(∀x c,X.env.cells.lookup x=some c->c≠b)/\∀p∈X.pn++pins,p.1≠b):Inv X pins σ H' {s with heap:=h',gens:=g',drawn:=d',toks:=t'}:=by obtain⟨m,⟨o,es,ep,ho,r⟩,_⟩:=id I.loc;obtain⟨sl,g⟩:=u.any ho I.free λz=>(a _ z).2.1 rfl;exact I.step (ch:=ch) a (λb o g q hc e n=>u.keep b o e n (λz=>(mem_cons.mp (I.sr b z)).elim g q) hc) (λb o _ _ hc e n=>u.any e n hc) (λb o hc e n=>u.free b o e n hc) (λb o hc e=>u.there b o e hc) u.tups u.tU u.vM (λv t=>by obtain⟨y,j,k,f,r'⟩:=t;rw[ho]at f;cases f;exact⟨_,j,k,g,r'⟩) hok l
theorem Inv.turned{it:Addr}(I:Inv X pins σ H s)(k:∀b o,b≠it->s.heap.get? b=some o->h'.get? b=some o)(g:H it=none)(f:it≠X.env.locals)(h1:it∈X.ex\/X.s₀.heap.objs.size<=it)(j:∀x c,X.env.cells.lookup x=some c->c≠it)(l:∀p∈X.pn++pins,p.1≠it):Inv X pins σ H {s with heap:=h',toks:=t'}:=by
 have a:∀b u,H b=some u->b≠it:=λb u e z=>by rw[z,g]at e;cases e
 refine I.step (g':=s.gens) (d':=s.drawn) (ch:=[it]) (λb t=>?_) (λb o _ _ hc e _=>k b o (λz=>hc (by simp[z])) e) (λb o _ _ hc e _=>⟨o.slots,k b o (λz=>hc (by simp[z])) e⟩) (λ_ _ _ _ n=>n) (λb o hc e=>⟨o,k b o (λz=>hc (by simp[z])) e⟩) (λ_ _ e=>e) (λ_ _ _ e=>e) (λb ps e=>⟨#[],by rw[e];simp⟩) (λm y=>?_) (λb u e=>?_) I.bare
 . have e:b=it:=by simpa using t
   subst e;exact⟨h1,f,j,l⟩
 .obtain⟨o,es,ep,ho,r⟩:=y;exact⟨o,es,ep,k _ o (Ne.symm f) ho,r⟩
 . refine(I.hok b u e).stay (λc v hc q=>k c v ?_ q) (λ_ q=>q) λ_ _ q=>q;rcases hc with z|z;.rw[z];exact a b u e
   .exact a c _ z
theorem Inv.tok(I:Inv X pins σ H s)(t:Nat):Inv X pins σ H {s with toks:=t}:=I.un (h':=s.heap) (t':=t) Un.refl I.hok
theorem Inv.kept{t':Nat}(I:Inv X pins σ H s)(k:∀b u,s.heap.get? b=some u->h'.get? b=some u):Inv X pins σ H {s with heap:=h',toks:=t'}:=I.un (Un.kept k) (I.hok.kept k)
theorem Inv.laid{a:Addr}{o:HO}{t':Nat}(I:Inv X pins σ H s)(k:∀b u,s.heap.get? b=some u->h'.get? b=some u)(c:s.heap.objs.size<=a)(e:aX X.prog X.w (upd H a o) h' a o):Inv X pins σ (upd H a o) {s with heap:=h',toks:=t'}:=I.un (Un.laid k c (I.hok.fresh c)) (I.hok.laid k c e)
theorem Inv.write{x e:Addr}{o:HO}{t':Nat}(I:Inv X pins σ H s)(f:TF (H x))(he:e=x\/H e=some (.own x))(k:∀b u,b≠e->s.heap.get? b=some u->h'.get? b=some u)(a:∃u,h'.get? e=some u)(c:aX X.prog X.w (upd H x o) h' x o):Inv X pins σ (upd H x o) {s with heap:=h',toks:=t'}:=I.un (Un.write f he k a) (I.hok.write f he k a c)
theorem Inv.zP{a:List (Addr×Obj)}(I:Inv X pins σ H s)(h:∀p∈a,s.heap.get? p.1=some p.2/\H p.1=none/\p.1≠X.env.locals/\p.1∉X.fs/\∀v,p.2.data≠.cell v):Inv X a σ H s:=⟨I.ok,I.os,I.bare,I.base,I.loc,I.cell,I.free,I.jo,λp b=>(mem_append.mp b).elim (λz=>I.pin p (List.mem_append_left _ z)) (h p),I.hok,I.len⟩
theorem uG{N:List Str}(c:N.Nodup){j:Nat}{x:Str}(a:N[i]?=some x)(b:N[j]?=some x):i=j:=by obtain⟨h1,e⟩:=dj a;obtain⟨g,f⟩:=dj b;exact(List.getElem_inj c).mp (e.trans f.symm)
theorem pZ{E:Value->Shared->Prop}{x:Str}{v:V}{u:Value}{Q:Unit->Shared->Prop}(I:Inv X pins σ H s)(hN:X.N.Nodup)(hi:X.N[i]?=some x)(l:Loc X.env.scope x)(r:RelV v u)(h:∀s',Inv X pins (σ.set i (some v)) H s'->(∃a,SameBut a s.heap s'.heap/\(a=X.env.locals\/X.env.cells.lookup x=some a))->Q () s')(hf:X.fn x=true\/X.env.scope.names.lookup x=some .local:=by first|exact .inl rfl|exact .inr rfl|assumption):wpAny M A (storeName X.env x u) Q E s:=by
 obtain⟨m,hn,hl⟩:=id I.loc;have O:(X.env.scope.kind==.class||(X.env.scope.kind==.module&&X.env.locals !=X.env.globals))=false:=by rw[I.ok.kind];rfl
 have C:i<σ.length:=by rw[I.len];exact(dj hi).1
 have Qt:=I.Qt;have f:∀{a:Addr}{h':Heap},(∃o,s.heap.get? a=some o/\H a=none)->SameBut a s.heap h'->kW X.prog X.w H h':=λ{a h'}ha hs b ob e=>by
  obtain⟨_,_,t⟩:=ha;refine(I.hok b ob e).stay (λc Z hc q=>(hs.2 c ?_).trans q) (λ_ q=>q) λ_ _ q=>q;rintro rfl;rcases hc with rfl|hc;.rw[t]at e;cases e
  .rw[t]at hc;cases hc
 rcases l with hk|hk
 . refine wpAny_storeName_local hk hn (λh' ae hs=>?_) O;obtain⟨oL,_,_,af,_⟩:=id hn;refine h _ ⟨I.ok,I.os,I.bare,⟨λb o e n G l=>?_,λb o e n G l=>?_,I.base.free,λb o e l=>?_,I.base.tups,I.base.tU,I.base.vM⟩,⟨_,ae,λj y v' g B e3=>?_⟩,λy c e=>?_,I.free,I.jo,λp hp=>?_,f ⟨oL,af,I.free⟩ hs,by simpa using I.len⟩ ⟨_,hs,.inl rfl⟩;.exact(hs.2 b (ne_of_lt (lt_of_lt_of_le (lt_size e) I.ok.above))).trans (I.base.keep b o e n G l)
   .obtain⟨sl,g⟩:=I.base.slot b o e n G l;exact⟨sl,(hs.2 b (ne_of_lt (lt_of_lt_of_le (lt_size e) I.ok.above))).trans g⟩
   .obtain⟨o',g⟩:=I.base.there b o e l;exact⟨o',(hs.2 b (ne_of_lt (lt_of_lt_of_le (lt_size e) I.ok.above))).trans g⟩
   . by_cases J:j=i;.subst J;rw[hi]at g;cases g;rw[getElem?_set_self C]at B;cases B;exact⟨u,r,.inl ⟨hk,by simp⟩⟩
     . rw[di J]at B;obtain⟨u',r',q⟩:=hl j y v' g B e3;refine⟨u',r',?_⟩;rcases q with⟨k,e⟩|⟨k,c,e,z⟩;.refine .inl ⟨k,?_⟩;have:y≠x:=λe=>J (uG hN g (e▸hi));simp[this,e]
       .exact .inr ⟨k,c,e,z.sameBut hs (Qt y c e)⟩
   .obtain⟨Z,z⟩:=I.cell y c e;exact⟨Z,z.sameBut hs (Qt y c e)⟩
   .obtain⟨e,n,ne,nf,d⟩:=I.pin p hp;exact⟨(hs.2 p.1 ne).trans e,n,ne,nf,d⟩
 . have L:X.fn x=true:=by
    rcases hf with z|z;.exact z
    .rw[z]at hk;cases hk
   obtain⟨c,hc⟩:=I.ok.has x (.inl hk);obtain⟨Z,z⟩:=I.cell x c hc;refine wpAny_storeName_cell I.ok.kind hk hc z (λh' U hs=>?_);obtain⟨oc,W,ag⟩:=id z;refine h {s with heap:=h'} ⟨I.ok,I.os,I.bare,⟨λb o e n G l=>?_,λb o e n G l=>?_,I.base.free,λb o e l=>?_,I.base.tups,I.base.tU,I.base.vM⟩,⟨m,hn.sameBut hs (Ne.symm (Qt x c hc)),λj y v' g B e3=>?_⟩,λy c' e=>?_,I.free,I.jo,λp hp=>?_,f ⟨oc,W,I.jo x c hc⟩ hs,by simpa using I.len⟩ ⟨c,hs,.inr hc⟩;.exact(hs.2 b (ne_of_lt (lt_of_lt_of_le (lt_size e) (I.ok.cab x c L hc)))).trans (I.base.keep b o e n G l)
   .obtain⟨sl,g⟩:=I.base.slot b o e n G l;exact⟨sl,(hs.2 b (ne_of_lt (lt_of_lt_of_le (lt_size e) (I.ok.cab x c L hc)))).trans g⟩
   .obtain⟨o',g⟩:=I.base.there b o e l;exact⟨o',(hs.2 b (ne_of_lt (lt_of_lt_of_le (lt_size e) (I.ok.cab x c L hc)))).trans g⟩
   . by_cases J:j=i;.subst J;rw[hi]at g;cases g;rw[getElem?_set_self C]at B;cases B;exact⟨u,r,.inr ⟨.inl hk,c,hc,U⟩⟩
     . rw[di J]at B;obtain⟨u',r',q⟩:=hl j y v' g B e3;refine⟨u',r',?_⟩;rcases q with q|⟨k,c',e,z'⟩;.exact .inl q
       .refine .inr ⟨k,c',e,z'.sameBut hs ?_⟩;rintro rfl;exact J (uG hN g (I.ok.inj _ _ _ e hc▸hi))
   . by_cases Y:c'=c;.subst Y;exact⟨_,U⟩
     .obtain⟨w2,z2⟩:=I.cell y c' e;exact⟨w2,z2.sameBut hs Y⟩
   .obtain⟨e,n,ne,nf,d⟩:=I.pin p hp;refine⟨(hs.2 p.1 ?_).trans e,n,ne,nf,d⟩;intro q;rw[q,W]at e;have q':oc=p.2:=Option.some.inj e;exact d Z (by rw[<-q'];exact ag)
theorem ud{E:Value->Shared->Prop}{x:Str}{v:V}{u:Value}{Q:Unit->Shared->Prop}(I:Inv X pins σ H s)(b:X.N.Nodup)(hi:X.N[i]?=some x)(c:Loc X.env.scope x)(r:RelV v u)(h:∀a,Inv X pins (σ.set i (some v)) H a->Q () a)(e:X.fn x=true\/X.env.scope.names.lookup x=some .local:=by first|exact .inl rfl|exact .inr rfl|assumption):wpAny M A (storeName X.env x u) Q E s:=pZ I b hi c r (λa f _=>h a f) e
end
abbrev XK:=Value->Option Addr->Hp->Prop
noncomputable abbrev St:=List (Option V)
abbrev VK:=V->Hp->Prop
abbrev TE:=St->Hp->VK->Prop
abbrev TT:=St->Hp->(Bool->Hp->Prop)->Prop
abbrev TA:=St->Hp->(List V->Hp->Prop)->Prop
structure Ends where
 nx:St->Hp->Prop
 rt:VK
 bk:St->Hp->Prop:=λ_ _=>False
 ct:St->Hp->Prop:=λ_ _=>False
abbrev TS:=Ends->St->Hp->Prop
inductive EP(X:Cx)(pins:List (Addr×Obj))(σ:St)(Q:VK)(u:Value)(s':Shared):Prop where|mk(v:V)(H':Hp)(q0:Inv X pins σ H' s')(q1:RelV v u)(q2:Q v H')
def TP(X:Cx)(pins:List (Addr×Obj))(σ:St)(Q:Bool->Hp->Prop)(b:Bool)(c:Shared):Prop:=∃a,Inv X pins σ a c/\Q b a
inductive AP(X:Cx)(pins:List (Addr×Obj))(σ:St)(Q:List V->Hp->Prop)(us:List Value)(s':Shared):Prop where|mk(vs:List V)(H':Hp)(q0:Inv X pins σ H' s')(q1:Vals vs us)(q2:Q vs H')
def SP(X:Cx)(pins:List (Addr×Obj))(D:Ends)(f:Flow)(c:Shared):Prop:=match f with|.next=>∃a b,Inv X pins a b c/\D.nx a b|.brk=>∃a b,Inv X pins a b c/\D.bk a b|.cont=>∃a b,Inv X pins a b c/\D.ct a b|.ret u=>∃v a b,Inv X pins a b c/\RelV v u/\D.rt v b
def PE(X:Cx)(e:Expr)(t:TE):Prop:=∀(pins:List (Addr×Obj))(s:Shared)(σ:St)(H:Hp)(Q:VK),Inv X pins σ H s->t σ H Q->wpAny (model X.prog X.w) X.A (eval e X.env) (EP X pins σ Q) X.xe s
def PT(X:Cx)(e:Expr)(t:TT):Prop:=∀(pins:List (Addr×Obj))(s:Shared)(σ:St)(H:Hp)(Q:Bool->Hp->Prop),Inv X pins σ H s->t σ H Q->wpAny (model X.prog X.w) X.A (isTrue e X.env (eval e X.env)) (TP X pins σ Q) X.xe s
def PW(X:Cx)(e:Expr)(t:TT):Prop:=∀(a:Sem Value)(pins:List (Addr×Obj))(s:Shared)(σ:St)(H:Hp)(Q:Bool->Hp->Prop),Inv X pins σ H s->t σ H Q->wpAny (model X.prog X.w) X.A (isTrue e X.env a) (TP X pins σ Q) X.xe s
theorem PW.pt{e:Expr}{t:TT}(h:PW X e t):PT X e t:=h _
def PA(X:Cx)(es:List Expr)(t:TA):Prop:=∀(pos:Pos)(pins:List (Addr×Obj))(s:Shared)(σ:St)(H:Hp)(Q:List V->Hp->Prop),Inv X pins σ H s->t σ H Q->wpAny (model X.prog X.w) X.A (spliced (backTo pos (starEach es X.env))) (AP X pins σ Q) X.xe s
def PS(X:Cx)(st:Stmt)(t:TS):Prop:=∀(pins:List (Addr×Obj))(s:Shared)(σ:St)(H:Hp)(D:Ends),Inv X pins σ H s->t D σ H->wpAny (model X.prog X.w) X.A (exec st X.env) (SP X pins D) X.xe s
def ug(X:Cx)(st:List Stmt)(t:TS):Prop:=∀(pins:List (Addr×Obj))(s:Shared)(σ:St)(H:Hp)(D:Ends),Inv X pins σ H s->t D σ H->wpAny (model X.prog X.w) X.A (execs st X.env) (SP X pins D) X.xe s
theorem bB{b:Type}{t:Sem b}{Q c:b->Shared->Prop}{E:Value->Shared->Prop}(h:wpAny M A t Q E s)(e:∀a s,Q a s->c a s):wpAny M A t c E s:=wpAny_mono h e λ_ _ x=>x
section
variable{X:Cx}
def Om(i:Nat):TE:=λσ H Q=>∃v,σ[i]?=some (some v)/\Q v H
def tC(v:V):TE:=λ_ H Q=>Q v H
theorem dh{x:Str}(f:X.N[i]?=some x)(g:uC X.env.scope x)(hd:(x==("__debug__":Str))=false:=by decide)(b:(x==("__classdict__":Str))=false:=by decide):PE X (.Name x pos) (Om i):=by
 intro pins s σ H Q I h;obtain⟨v,e,h⟩:=h;obtain⟨m,j,k⟩:=I.loc;obtain⟨u,r,l⟩:=k i x v f e g;have fin:EP X pins σ Q u s:=⟨v,H,I,r,h⟩;rcases l with⟨hk,n⟩|⟨hk,c,hc,a⟩;.exact wpAny_Name (wpAny_loadName_local I.ok.kind hk j n fin) hd
 . rcases hk with hk|hk;.exact wpAny_Name (wpAny_loadName_cell I.ok.kind hk hc a fin) hd
   .exact wpAny_Name (wpAny_loadName_free I.ok.kind hk hc a fin b) hd
theorem wN{i j pos}:PE X (.Constant (.int i) j pos) (tC (.int i)):=λ_ _ _ H _ I h=>wpAny_Constant_int ⟨.int i,H,I.tok _,⟨_,rfl⟩,h⟩
theorem Uw{b j pos}:PE X (.Constant (.bool b) j pos) (tC (.bl b)):=λ_ _ _ H _ I h=>Constant_bool ⟨.bl b,H,I,rfl,h⟩
theorem MK{j pos}:PE X (.Constant .none j pos) (tC .non):=λ_ _ _ H _ I h=>Constant_none ⟨.non,H,I,rfl,h⟩
def Gl(X:Cx)(x:Str):Prop:=X.env.kindOf x=some .globalImplicit
theorem HS{E:Value->Shared->Prop}{σ:St}{x:Str}{u:Value}{Q:Value->Shared->Prop}(I:Inv X pins σ H s)(a:Gl X x)(b:X.mg x=some u)(h:Q u s)(hd:(x==("__debug__":Str))=false:=by decide):wpAny (model X.prog X.w) X.A (eval (.Name x pos) X.env) Q E s:=Calls.Name_function_global I.ok.kind a (Calls.loadGlobal_global (by rw[I.ok.glob];exact I.mod.glob.keeps I.bk) b h) hd
theorem jC{E:Value->Shared->Prop}{σ:St}{x:Str}{u:Value}{Q:Value->Shared->Prop}(I:Inv X pins σ H s)(a:Gl X x)(b:X.mg x=none)(c:bootBuiltins x=some u)(h:Q u s)(e:x≠"__name__":=by decide)(hd:(x==("__debug__":Str))=false:=by decide):wpAny (model X.prog X.w) X.A (eval (.Name x pos) X.env) Q E s:=by obtain⟨g,h1,f⟩:=I.mod.blt;exact Calls.Name_function_global I.ok.kind a (Calls.loadGlobal_builtin (by rw[I.ok.glob];exact I.mod.glob.keeps I.bk) b (by rw[I.ok.blt];exact h1.keeps I.bk) ((f x e).trans c) h) hd
theorem Jt{x:Str}{v:V}{u:Value}(a:Gl X x)(b:X.mg x=none)(c:bootBuiltins x=some u)(r:RelV v u)(e:x≠"__name__":=by decide)(hd:(x==("__debug__":Str))=false:=by decide):PE X (.Name x pos) (tC v):=λ_ _ _ H _ I h=>jC I a b c ⟨v,H,I,r,h⟩ e hd
variable{a b:Expr}{ta tb:TE}{pos:Pos}
def PC(X:Cx)(op:CmpOp)(a b:Expr)(t:TE):Prop:=∀(pins:List (Addr × Obj))(s:Shared)(σ:St)(H:Hp)(Q:VK),Inv X pins σ H s->t σ H Q->wpAny (model X.prog X.w) X.A (eval a X.env) (λv c=>wpAny (model X.prog X.w) X.A (eval b X.env) (λu e=>wpAny (model X.prog X.w) X.A (compareOp op v u) (EP X pins σ Q) X.xe e) X.xe c) X.xe s
def tB(t:TE):TT:=λσ H Q=>t σ H λx e=>∃c,x=.bl c/\Q c e
theorem O3{op:CmpOp}{t:TE}(h:PC X op a b t)(h1:behindInMarks op b=false:=by first|exact Wd _ (by decide) (by decide)|rfl):PT X (.Compare a [op] [b] pos) (tB t):=by intro pins s σ H Q I e;refine wpAny_isTrue_Compare1 (bB (h pins s σ H _ I e) λv s1 h1=>bB h1 λu s2 f=>bB f λc s3⟨x,H1,I1,r1,q1⟩=>?_) h1;obtain⟨d,rfl,q⟩:=q1;cases r1;exact wpAny_truthy_bool ⟨H1,I1,q⟩
theorem Mv{e:Expr}{t:TE}(h:PE X e t)(he:∀c,isTrue e X.env c=(do let v<-c;standAt e.pos;holding [v] (truthy v)):=by intro _;rfl):PT X e (tB t):=by intro pins s σ H Q I f;refine isTrue_plain (bB (h pins s σ H _ I f) λv s1⟨x,H1,I1,r1,q1⟩=>?_) (he _);obtain⟨d,rfl,q⟩:=q1;cases r1;exact wpAny_truthy_bool ⟨H1,I1,q⟩
variable{tA tB':TT}{rest:List Expr}
def tOr(t u:TT):TT:=λσ H Q=>t σ H λc e=>if c=true then Q true e else u σ e Q
def ZW(t:TT):TT:=λσ H Q=>t σ H λc e=>Q (!c) e
theorem Qp(f:PT X a tA):PW X (.BoolOp .Or [a] pos) tA:=by intro wh pins s σ H Q I h;refine isTrue_or (bB (f pins s σ H Q I h) λc s1 e=>?_);cases c with|false=>exact isTrue_or_nil e|true=>exact e
theorem T8(f:PT X a tA)(g:PW X (.BoolOp .Or (b::rest) pos) tB'):PW X (.BoolOp .Or (a::b::rest) pos) (tOr tA tB'):=by intro wh pins s σ H Q I h;refine isTrue_or (bB (f pins s σ H _ I h) λc s1⟨e,I1,q1⟩=>?_);cases c with|true=>exact⟨e,I1,q1⟩|false=>exact g wh pins s1 σ e Q I1 q1
theorem Nr(e:PT X a tA):PT X (.UnaryOp .Not a pos) (ZW tA):=by intro pins s σ H Q I h;exact isTrue_not (e pins s σ H (λc f=>Q (!c) f) I h)
def Tu(ta tb:TE):TE:=λσ H Q=>ta σ H λx e=>∃c,x=.bl c/\if c=true then tb σ e Q else Q (.bl false) e
def Tq(ta:TE):TE:=λσ H Q=>ta σ H λx e=>∃c,x=.bl c/\Q (.bl (!c)) e
theorem O9{op}{t:TE}(h:PE X a t):PE X (.BoolOp op [a] pos) t:=λpins s σ H Q I c=>BoolOp_one (h pins s σ H Q I c)
theorem Qh(f:PE X a ta)(g:PE X (.BoolOp .And (b::rest) pos) tb):PE X (.BoolOp .And (a::b::rest) pos) (Tu ta tb):=by intro pins s σ H Q I h;refine BoolOp_and (bB (f pins s σ H _ I h) λv s1⟨x,H1,I1,r1,e⟩=>?_);obtain⟨c,rfl,e⟩:=e;cases r1;refine wpAny_truthy_bool ?_;cases c with|true=>exact g pins s1 σ H1 Q I1 e|false=>exact⟨.bl false,H1,I1,rfl,e⟩
theorem PX(f:PE X a ta):PE X (.UnaryOp .Not a pos) (Tq ta):=by intro pins s σ H Q I h;refine UnaryOp_ (bB (f pins s σ H _ I h) λv s1⟨x,H1,I1,r1,e⟩=>?_);obtain⟨c,rfl,e⟩:=e;cases r1;exact not_of (wpAny_truthy_bool ⟨.bl (!c),H1,I1,rfl,e⟩)
def tIf(t:TT)(ta tb:TE):TE:=λσ H Q=>t σ H λc e=>if c=true then ta σ e Q else tb σ e Q
theorem Et{c:Expr}(hc:PT X c tA)(f:PE X a ta)(g:PE X b tb):PE X (.IfExp c a b pos) (tIf tA ta tb):=by intro pins s σ H Q I h;refine wpAny_IfExp (bB (hc pins s σ H _ I h) λd s1⟨e,I1,q1⟩=>?_);cases d with|true=>exact f pins s1 σ e Q I1 q1|false=>exact g pins s1 σ e Q I1 q1
end
def dJ(K:PySem.W.Frag)(H:Hp)(a:Addr)(xs:List V):Prop:=Rd H a (.lst xs)\/∃(o:Obj)(b:Array Value)(n:Nat),K.lookup a=some o/\o.cls=.type "list"/\o.dict=none/\o.data=.seq b n/\b.size<=sizeLine/\Vals xs b.toList
def ji(K:PySem.W.Frag)(H:Hp)(a:Addr)(xs:List V):Prop:=Rd H a (.tup xs)\/∃(o:Obj)(b:Array Value)(n:Nat),K.lookup a=some o/\o.cls=.type "tuple"/\o.data=.seq b n/\b.size<=sizeLine/\Vals xs b.toList
noncomputable def aaF:Value->Option V|.none=>some .non|.bool b=>some (.bl b)|.int i _=>some (.int i)|.str x _=>some (.str x)|.bytes b _=>some (.byt b)|.float b _=>some (.flt b)|.ref a=>some (.ref a)|.type n=>some (.ty n)|_=>none
theorem RelV.abs{x:V}{u:Value}(r:RelV x u):aaF u=some x:=by cases x with|non=>cases r;rfl|bl _=>cases r;rfl|int _=>obtain⟨t,rfl⟩:=r;rfl|str _=>obtain⟨t,rfl⟩:=r;rfl|byt _=>obtain⟨t,rfl⟩:=r;rfl|flt _=>obtain⟨t,rfl⟩:=r;rfl|ref _=>cases r;rfl|ty _=>cases r;rfl
theorem RelV.inj{x y:V}{u:Value}(r:RelV x u)(q:RelV y u):x=y:=Option.some.inj (r.abs.symm.trans q.abs)
theorem Vals.inj:∀{xs ys:List V}{us:List Value},Vals xs us->Vals ys us->xs=ys|_,_,_,.nil,.nil=>rfl|_,_,_,.cons r t,.cons r' t'=>by rw[r.inj r',Vals.inj t t']
section
variable{X:Cx}{pins:List (Addr×Obj)}{σ:St}{H:Hp}{s:Shared}{a:Addr}{xs ys:List V}
theorem dJ.of(h:H a=some (.lst xs)):dJ K H a xs:=.inl (.inl h)
theorem ji.of(h:H a=some (.tup xs)):ji K H a xs:=.inl (.inl h)
theorem Inv.list(I:Inv X pins σ H s)(h:dJ X.K H a xs):∃b:List Value,Vals xs b/\PlainL s.heap a b.toArray/\xs.length<=sizeLine:=by
 rcases h with h|⟨o,b,n,c,hc,hd,hs,hz,r⟩;.obtain⟨z,b,n,r,e⟩:=h.ok I.hok;exact⟨b,r,⟨_,n,e,rfl,rfl,rfl⟩,z⟩
 .refine⟨b.toList,r,⟨o,n,I.Ob a o c,hc,hd,by simpa using hs⟩,?_⟩;have e:=r.length;simp only[length_toList]at e;omega
theorem Inv.tuple(I:Inv X pins σ H s)(h:ji X.K H a xs):∃b:List Value,Vals xs b/\IsTup s.heap a b.toArray/\xs.length<=sizeLine:=by
 rcases h with h|⟨o,b,n,c,hc,hs,hz,r⟩;.obtain⟨z,b,r,p⟩:=h.ok I.hok;exact⟨b,r,p,z⟩
 .refine⟨b.toList,r,⟨o,I.Ob a o c,hc,n,by simpa using hs⟩,?_⟩;have e:=r.length;simp only[length_toList]at e;omega
theorem Inv.vq(I:Inv X pins σ H s)(h:dJ X.K H a xs)(h':dJ X.K H a ys):xs=ys:=by
 obtain⟨b,r,⟨o,n,e,_,_,d⟩,_⟩:=I.list h;obtain⟨its',r',⟨f,g,c,_,_,d'⟩,_⟩:=I.list h';rw[e]at c;cases c;rw[d]at d';injection d' with d1 _;have:b=its':=by simpa using congrArg toList d1
 subst this;exact r.inj r'
theorem Inv.qQ(I:Inv X pins σ H s)(h:ji X.K H a xs)(h':ji X.K H a ys):xs=ys:=by
 obtain⟨b,r,⟨o,e,_,n,d⟩,_⟩:=I.tuple h;obtain⟨its',r',⟨f,c,_,g,d'⟩,_⟩:=I.tuple h';rw[e]at c;cases c;rw[d]at d';injection d' with d1 _;have:b=its':=by simpa using congrArg toList d1
 subst this;exact r.inj r'
end
noncomputable abbrev Cx.wish(X:Cx)(E:Value->Shared->Prop):Cx:={X with xe:=E}
noncomputable abbrev Cx.Ux(X:Cx):Cx:=X.wish λ_ _=>False
theorem Cx.Ok.wish{X:Cx}(ok:X.Ok)(E:Value->Shared->Prop):(X.wish E).Ok:=⟨ok.mod,ok.kind,ok.glob,ok.blt,ok.above,ok.inj,ok.has,ok.cab,ok.hd,ok.frames,ok.Yt,ok.exf,ok.bs,ok.Lh,ok.Gx,ok.JR,ok.n6,ok.Sw⟩
theorem Cx.Ok.gV{E:Value->Shared->Prop}(ok:(X.wish E).Ok):X.Ok:=⟨ok.mod,ok.kind,ok.glob,ok.blt,ok.above,ok.inj,ok.has,ok.cab,ok.hd,ok.frames,ok.Yt,ok.exf,ok.bs,ok.Lh,ok.Gx,ok.JR,ok.n6,ok.Sw⟩
section
variable{X:Cx}{pins:List (Addr×Obj)}{σ:St}{H:Hp}{s:Shared}{E:Value->Shared->Prop}
theorem Inv.wish(I:Inv X pins σ H s)(E:Value->Shared->Prop):Inv (X.wish E) pins σ H s:=⟨I.ok.wish E,I.os,I.bare,I.base,I.loc,I.cell,I.free,I.jo,I.pin,I.hok,I.len⟩
theorem Inv.gV(I:Inv (X.wish E) pins σ H s):Inv X pins σ H s:=⟨I.ok.gV,I.os,I.bare,I.base,I.loc,I.cell,I.free,I.jo,I.pin,I.hok,I.len⟩
theorem SP.gV{D:Ends}{f:Flow}{c:Shared}(h:SP (X.wish E) pins D f c):SP X pins D f c:=by cases f with|next=>obtain⟨a,b,I,q⟩:=h;exact⟨a,b,I.gV,q⟩|brk=>obtain⟨a,b,I,q⟩:=h;exact⟨a,b,I.gV,q⟩|cont=>obtain⟨a,b,I,q⟩:=h;exact⟨a,b,I.gV,q⟩|ret u=>obtain⟨v,a,b,I,r,q⟩:=h;exact⟨v,a,b,I.gV,r,q⟩
theorem ug.Ux{st:List Stmt}{t:TS}(h:ug X.Ux st t):ug X st t:=λpins s σ H D I a=>wpAny_mono (h pins s σ H D (I.wish _) a) (λ_ _ q=>q.gV) λ_ _ z=>False.elim z
end
section
variable{X:Cx}{st:Stmt}{rest:List Stmt}{t u:TS}{e:Expr}{te:TE}{pos:Pos}
def Vn:TS:=λD σ H=>D.nx σ H
def ZZ(t u:TS):TS:=λD σ H=>t {D with nx:=u D} σ H
theorem yH:ug X [] Vn:=λ_ _ σ H _ I h=>wpAny_execs_nil ⟨σ,H,I,h⟩
theorem jJ(h1:PS X st t)(b:ug X rest u):ug X (st::rest) (ZZ t u):=by intro pins s σ H D I h;refine wpAny_execs_cons (bB (h1 pins s σ H {D with nx:=u D} I h) λf s1 q=>?_);cases f with|next=>obtain⟨a,c,g,q⟩:=q;exact b pins s1 a c D g q|ret v=>exact q|brk=>exact q|cont=>exact q
theorem Inv.quiet{σ:St}(I:Inv X pins σ H s):interactive X.env=false:=by simp[interactive,I.ok.kind]
def VD(te:TE):TS:=λD σ H=>te σ H λ_ a=>D.nx σ a
theorem rN(he:PE X e te)(hs:swapsWith e none pos.line X.env=pure false:=by rfl):PS X (.Expr e pos) (VD te):=by intro pins s σ H D I h;exact wpAny_Expr_any (bB (he pins s σ H _ I h) λv s1⟨x,H1,I1,r1,q1⟩=>⟨σ,H1,I1,q1⟩) I.quiet hs
def ZL(te:TE):TS:=λD σ H=>te σ H D.rt
theorem CQ(he:PE X e te):PS X (.Return (some e) pos) (ZL te):=by intro pins s σ H D I h;exact wpAny_Return_some (bB (he pins s σ H _ I h) λv s1⟨x,H1,I1,r1,q1⟩=>⟨x,σ,H1,I1,r1,q1⟩)
def Zu(c:TT)(t u:TS):TS:=λD σ H=>c σ H λb a=>if b=true then t D σ a else u D σ a
theorem Kw{c:Expr}{a b:List Stmt}{f:TT}(hc:PT X c f)(j:ug X a t)(k:ug X b u):PS X (.If c a b pos) (Zu f t u):=by intro pins s σ H D I h;refine wpAny_If (bB (hc pins s σ H _ I h) λd s1⟨g,I1,q1⟩=>?_);cases d with|true=>exact j pins s1 σ g D I1 q1|false=>exact k pins s1 σ g D I1 q1
end
abbrev TG:=V->St->Hp->(St->Hp->Prop)->Prop
abbrev HF:=List V->St->Hp->(St->Hp->Prop)->Prop
def PG(X:Cx)(a:Expr)(t:TG):Prop:=∀(pins:List (Addr × Obj))(s:Shared)(σ:St)(H:Hp)(v:V)(u:Value)(Q:St->Hp->Prop),Inv X pins σ H s->RelV v u->t v σ H Q->wpAny (model X.prog X.w) X.A (assign a X.env u) (λ_ e=>∃b c,Inv X pins b c e/\Q b c) X.xe s
def Xe(X:Cx)(c:List Expr)(t:HF):Prop:=∀(pins:List (Addr × Obj))(s:Shared)(σ:St)(H:Hp)(vs:List V)(us:List Value)(Q:St->Hp->Prop),Inv X pins σ H s->Vals vs us->t vs σ H Q->wpAny (model X.prog X.w) X.A (assignInOrder ((assignEach c X.env).map (·.2)) us) (λ_ e=>∃a b,Inv X pins a b e/\Q a b) X.xe s
abbrev CN:=V->V->V->Hp->(Hp->Prop)->Prop
def Oe(X:Cx)(t:CN):Prop:=∀(pins:List (Addr × Obj))(s:Shared)(σ:St)(H:Hp)(o i v:V)(a iv u:Value)(Q:Hp->Prop),Inv X pins σ H s->RelV o a->RelV i iv->RelV v u->t o i v H Q->wpAny (model X.prog X.w) X.A (setItem a iv u) (λ_ c=>∃b,Inv X pins σ b c/\Q b) X.xe s
abbrev W2:=V->V->Hp->VK->Prop
def WX(X:Cx)(op:Operator)(t:W2):Prop:=∀(pins:List (Addr × Obj))(s:Shared)(σ:St)(H:Hp)(x y:V)(v u:Value)(Q:VK),Inv X pins σ H s->RelV x v->RelV y u->t x y H Q->wpAny (model X.prog X.w) X.A (inplaceOp op v u) (EP X pins σ Q) X.xe s
section
variable{X:Cx}{pos:Pos}
def jm(i:Nat):TG:=λv σ H Q=>Q (σ.set i (some v)) H
theorem bD{x:Str}(a:X.N.Nodup)(hi:X.N[i]?=some x)(b:Loc X.env.scope x)(c:X.fn x=true\/X.env.scope.names.lookup x=some .local:=by first|exact .inl rfl|exact .inr rfl|assumption):PG X (.Name x pos) (jm i):=by intro pins s σ H v u Q I r h;exact wpAny_assign_Name (ud I a hi b r (λf e=>⟨_,H,e,h⟩) c)
def Wa:HF:=λvs σ H Q=>vs=[]/\Q σ H
def J3(t:TG)(u:HF):HF:=λvs σ H Q=>∃v r,vs=v::r/\t v σ H λa b=>u r a b Q
theorem m8:Xe X [] Wa:=by intro pins s σ H vs us Q I r h;obtain⟨e,h⟩:=h;subst e;cases r;exact assignInOrder_nil ⟨σ,H,I,h⟩
theorem dB{e:Expr}{es:List Expr}{t:TG}{u:HF}(h1:PG X e t)(b:Xe X es u)(hs:(assignEach (e::es) X.env).map (·.2)=assign e X.env::(assignEach es X.env).map (·.2):=by rfl):Xe X (e::es) (J3 t u):=by intro pins s σ H vs us Q I r h;obtain⟨v,g,c,h⟩:=h;subst c;cases r with|cons r f=>rw[hs];refine assignInOrder_cons (bB (h1 pins s σ H _ _ _ I r h) λ_ s1⟨a,H1,I1,q1⟩=>?_);exact b pins s1 a H1 _ _ Q I1 f q1
def Tj(K:PySem.W.Frag)(n:Nat)(t:HF):TG:=λv σ H Q=>∃a xs,v=.ref a/\ji K H a xs/\xs.length=n/\t xs σ H Q
theorem sY{es:List Expr}{k:Nat}{t:HF}{n:Nat}(hc:X.calm=true)(h:Xe X es t)(g:(assignEach es X.env).length=n:=by rfl)(hst:(assignEach es X.env).findIdx? (·.1)=none:=by rfl):PG X (.Tuple es k pos) (Tj X.K n t):=by intro pins s σ H v u Q I r c;obtain⟨a,xs,j,l,m,c⟩:=c;subst j;cases r;obtain⟨p,f,ht,hz⟩:=I.tuple l;refine assign_Tuple_tuple (I.ok.hd hc) ht (by simp[g,<-m,f.length]) hst λh' q=>?_;have x:Inv X pins σ H {s with heap:=h'}:=I.kept (t':=s.toks) λb o e=>q b o (ne_of_lt (lt_size e)) e;exact h pins _ σ H xs _ Q x (by simpa using f) c
def aaf(to a:TE)(t:CN):TG:=λv σ H Q=>to σ H λo b=>a σ b λi c=>t o i v c λe=>Q σ e
theorem Pb{o i:Expr}{to b:TE}{t:CN}(ho:PE X o to)(hi:PE X i b)(hs:Oe X t)(c:∀ v,assign (.Subscript o i pos) X.env v=(do
  let a<-holding [v] (eval o X.env)let iv<-holding [v,a] (eval i X.env)standAt pos
  holding [v,a,iv] (setItem a iv v)release [v,a,iv] []):=by intro _;rfl):PG X (.Subscript o i pos) (aaf to b t):=by intro pins s σ H v u Q I r h;rw[c];refine wpAny_bind (wpAny_holding (bB (ho pins s σ H _ I h) λa s1⟨x,H1,I1,r1,q1⟩=>?_));refine wpAny_bind (wpAny_holding (bB (hi pins s1 σ H1 _ I1 q1) λiv s2⟨y,H2,I2,r2,q2⟩=>?_));refine wpAny_bind (wpAny_standAt (wpAny_bind (wpAny_holding (bB (hs pins s2 σ H2 x y v a iv u _ I2 r1 r2 r q2) λ_ s3⟨e,I3,q3⟩=>?_))));exact wpAny_release ⟨σ,e,I3,q3⟩
def Qf(te:TE)(g:TG):TS:=λD σ H=>te σ H λx a=>g x σ a D.nx
theorem Gs{e:Expr}{te:TE}{g:TG}(he:PE X e te)(a:PG X tg g)(hs:swapsWithSole [tg] e pos.line X.env=pure false:=by rfl)(b:swappedStores [tg] e X.env=pure none:=by rfl)(h1:(assignEach [tg] X.env).map (·.2)=[assign tg X.env]:=by rfl):PS X (.Assign [tg] e pos) (Qf te g):=by intro pins s σ H D I h;refine wpAny_Assign_stores (bB (he pins s σ H _ I h) λv s1⟨x,H1,I1,r1,q1⟩=>?_) hs b;rw[h1];exact bB (a pins s1 σ H1 x v _ I1 r1 q1) λ_ s2 q=>q
theorem wz{x:Str}{e:Expr}{te:TE}{a:Pos}(b:X.N.Nodup)(hi:X.N[i]?=some x)(c:Loc X.env.scope x)(he:PE X e te)(hs:swapsWith e (some (.Name x a)) pos.line X.env=pure false:=by rfl)(f:X.fn x=true\/X.env.scope.names.lookup x=some .local:=by first|exact .inl rfl|exact .inr rfl|assumption):PS X (.Assign [.Name x a] e pos) (Qf te (jm i)):=by intro pins s σ H D I h;refine wpAny_Assign_Name (bB (he pins s σ H _ I h) λv s1⟨y,H1,I1,r1,q1⟩=>?_) hs;exact ud I1 b hi c r1 (λs2 g=>⟨_,H1,g,q1⟩) f
def V3(to a te:TE)(b:V->V->Hp->VK->Prop)(c:W2)(e:CN):TS:=λD σ H=>to σ H λo f=>a σ f λi g=>b o i g λx j=>te σ j λy k=>c x y k λz l=>e o i z l λm=>D.nx σ m
def V9(X:Cx)(t:V->V->Hp->VK->Prop):Prop:=∀(pins:List (Addr × Obj))(s:Shared)(σ:St)(H:Hp)(o i:V)(a iv:Value)(Q:VK),Inv X pins σ H s->RelV o a->RelV i iv->t o i H Q->wpAny (model X.prog X.w) X.A (getItem a iv) (EP X pins σ Q) X.xe s
theorem Ir{o i e:Expr}{to g te:TE}{j:V->V->Hp->VK->Prop}{k:W2}{l:CN}{op:Operator}{c:Pos}(ho:PE X o to)(hi:PE X i g)(p:V9 X j)(he:PE X e te)(q:WX X op k)(hs:Oe X l)(r:∀b iv a,augStore i b iv a=(do holding [a,b,iv] (setItem b iv a);release [a,b,iv] [];pure .next):=by intros;rfl):PS X (.AugAssign (.Subscript o i c) op e pos) (V3 to g te j k l):=by intro pins s σ H D I h;refine wpAny_AugAssign_SubscriptAny (bB (ho pins s σ H _ I h) λb s1⟨m,H1,I1,r1,q1⟩=>?_) r;refine bB (hi pins s1 σ H1 _ I1 q1) λiv s2⟨n,H2,I2,r2,q2⟩=>?_;refine bB (p pins s2 σ H2 m n b iv _ I2 r1 r2 q2) λf s3⟨t,H3,I3,r3,q3⟩=>?_;refine bB (he pins s3 σ H3 _ I3 q3) λv s4⟨u,H4,I4,r4,q4⟩=>?_;refine bB (q pins s4 σ H4 t u f v _ I4 r3 r4 q4) λa s5⟨x,H5,I5,r5,q5⟩=>?_;exact bB (hs pins s5 σ H5 m n x b iv a _ I5 r1 r2 r5 q5) λ_ s6⟨y,I6,q6⟩=>⟨σ,y,I6,q6⟩
def Zz(f:Int->Int->Int):W2:=λx y H Q=>∃i j,x=.int i/\y=.int j/\Q (.int (f i j)) H
theorem Qj:WX X .Add (Zz λi j=>i+j):=by intro pins s σ H x y v u Q I r1 a h;obtain⟨i,j,b,c,q⟩:=h;subst b;subst c;obtain⟨t,rfl⟩:=r1;obtain⟨t',rfl⟩:=a;exact iadd_int ⟨.int _,H,I.tok _,⟨_,rfl⟩,q⟩
end
section
variable{X:Cx}{pos:Pos}
def Ou(c:TT)(j:TS):TS:=λD σ H=>∃W:Nat->St->Hp->Prop,(∃m,W m σ H)/\∀m σ H,W m σ H->c σ H λb e=>if b=true then ∃N:St->Hp->Prop,(∀a f,N a f->∃g,g<m/\W g a f)/\j {D with nx:=N,ct:=N,bk:=D.nx} σ e else D.nx σ e
theorem DN{c:Expr}{body:List Stmt}{u:TT}{x:TS}(y:PassesOwn (model X.prog X.w) X.A X.env X.xe)(hc:PT X c u)(G:ug X body x):PS X (.While c body [] pos) (Ou u x):=by intro pins s σ H D I h;obtain⟨W,⟨m0,J⟩,g⟩:=h;refine wpAny_While (codeAny_whileLoop (λn L=>∃j z,Inv X pins j z L/\W n j z) ?_ m0 ⟨σ,H,I,J⟩);rintro n s1⟨e,B,O,Q⟩;refine wpAny_passesOwn y (bB (hc pins s1 e B _ O (g n e B Q)) λb s2⟨C,I2,l⟩=>?_);cases b with
 |true=>obtain⟨N,E,l⟩:=l;rw[if_pos rfl];refine wpAny_passesOwn y (bB (G pins s2 e C _ I2 l) λf s3 m=>?_);cases f with|next=>obtain⟨a,k,o,p⟩:=m;obtain⟨q,r,t⟩:=E a k p;exact⟨q,r,a,k,o,t⟩|cont=>obtain⟨a,k,o,p⟩:=m;obtain⟨q,r,t⟩:=E a k p;exact⟨q,r,a,k,o,t⟩|brk=>exact m|ret v=>exact m
 |false=>rw[if_neg Bool.false_ne_true];exact wpAny_execs_nil ⟨e,C,I2,l⟩
end
structure It where
 go:Nat->Hp->Prop
 Lj:Nat->Hp->V->Hp->Prop
 stop:Nat->Hp->Prop
def o6(X:Cx)(pins:List (Addr×Obj))(H:Hp)(b:Addr):Prop:=H b=none/\b≠X.env.locals/\b∉X.fs/\(b∈X.ex\/X.s₀.heap.objs.size<=b)/\(∀x c,X.env.cells.lookup x=some c->c≠b)/\∀p∈X.pn++pins,p.1≠b
theorem Inv.Gd{σ:St}{f:Hp}{b:Addr}(I:Inv X pins σ H s)(a:s.heap.objs.size<=b)(g:f b=none):o6 X pins f b:=by
 refine⟨g,Nat.ne_of_gt (lt_of_lt_of_le I.lt a),I.aap a,.inr (le_trans I.sz a),λx c e z=>?_,λp j z=>?_⟩;.obtain⟨v,q⟩:=I.cell x c e;exact absurd (lt_of_lt_of_le q.lt (by rw[z];exact a)) (lt_irrefl _)
 .exact absurd (lt_of_lt_of_le (lt_size (I.pin p j).1) (by rw[z];exact a)) (lt_irrefl _)
structure Turn(P:Program)(w:World)(K:PySem.W.Frag)(tg:Expr)(J:It)(fp:List Addr)(it:Addr)(tn:Nat->Heap->Prop):Prop where
 mem:it∈fp
 obj:∀i h,tn i h->∀b∈fp,∃o,h.get? b=some o/\∀v,o.data≠.cell v
 keep:∀i h h',tn i h->(∀b∈fp,∀o,h.get? b=some o->h'.get? b=some o)->tn i h'
 item:∀(X:Cx),X.prog=P->X.w=w->X.K=K->X.calm=true->∀(i:Nat)(pins:List (Addr×Obj))(s:Shared)(σ:St)(H:Hp)(E:Value->Shared->Prop),Inv X pins σ H s->(∀b∈fp,o6 X pins H b)->tn i s.heap->J.go i H->wpAny (model P w) X.A (pyNext (.ref it)) (λr s1=>∃u,r=some u/\wpAny (model P w) X.A (letOwnedTupleGo tg (.ref it) u) (λ_ s2=>∃x H',Inv X pins σ H' s2/\RelV x u/\J.Lj i H x H'/\tn (i+1) s2.heap/\∀b∈fp,H' b=none) E s1) E s
 done:∀(X:Cx),X.prog=P->X.w=w->X.K=K->X.calm=true->∀(i:Nat)(pins:List (Addr×Obj))(s:Shared)(σ:St)(H:Hp)(E:Value->Shared->Prop),Inv X pins σ H s->(∀b∈fp,o6 X pins H b)->tn i s.heap->J.stop i H->wpAny (model P w) X.A (pyNext (.ref it)) (λr s1=>r=none/\Inv X pins σ H s1) E s
 self:∀(A:Around)(i:Nat)(s:Shared)(Q:Value->Shared->Prop)(E:Value->Shared->Prop),tn i s.heap->Q (.ref it) s->wpAny (model P w) A (pyIter (.ref it)) Q E s
abbrev TI:=St->Hp->(It->Hp->Prop)->Prop
def PIE(X:Cx)(pins:List (Addr×Obj))(σ:St)(tg:Expr)(R:It->Hp->Prop)(a:Value)(s2:Shared):Prop:=∃(it:Addr)(e:List Addr)(f:Nat->Heap->Prop)(J:It)(c:Hp),a=.ref it/\Inv X pins σ c s2/\Turn X.prog X.w X.K tg J e it f/\f 0 s2.heap/\(∀b∈e,o6 X pins c b)/\R J c
def PI(X:Cx)(tg iter:Expr)(a:TI):Prop:=∀(pins:List (Addr × Obj))(s:Shared)(σ:St)(H:Hp)(R:It->Hp->Prop),Inv X pins σ H s->a σ H R->wpAny (model X.prog X.w) X.A (eval iter X.env) (λv s1=>wpAny (model X.prog X.w) X.A (pyIter v) (PIE X pins σ tg R) X.xe s1) X.xe s
theorem zm{E:Value->Shared->Prop}{it:Addr}{u:Value}{o:Obj}{n:String}{vs:Array Value}{Q:Unit->Shared->Prop}(ho:s.heap.get? it=some o)(hc:o.cls=.type n)(hd:o.data=.fields vs)(b:["enumerate","zip","dict_itemiterator","dict_reverseitemiterator","odict_iterator","itertools.zip_longest","itertools.pairwise"].contains n=false)(a:Q () s):wpAny M A (letOwnedTupleGo tg (.ref it) u) Q E s:=by unfold letOwnedTupleGo;cases tg<;>first|exact wpAny_pure a|(cases u<;>first|exact wpAny_pure a|(refine wpAny_bind (wpAny_load ho ?_);rw[hc,hd];show wpAny M A (if(["enumerate","zip","dict_itemiterator","dict_reverseitemiterator","odict_iterator","itertools.zip_longest","itertools.pairwise"].contains n&&vs[0]?==some (rawInt _))=true then _ else _) Q E s;rw[if_neg (by intro h;rw[b,Bool.false_and]at h;cases h)];exact wpAny_pure a))
noncomputable def Ms(K:PySem.W.Frag)(a:Addr):It:=⟨λi H=>∃xs x,dJ K H a xs/\xs[i]?=some x,λi H x b=>b=H/\∀xs,dJ K H a xs->xs[i]?=some x,λi H=>∃xs,dJ K H a xs/\xs.length<=i⟩
noncomputable def R6(K:PySem.W.Frag)(a:Addr):It:=⟨λi H=>∃xs x,ji K H a xs/\xs[i]?=some x,λi H x b=>b=H/\∀xs,ji K H a xs->xs[i]?=some x,λi H=>∃xs,ji K H a xs/\xs.length<=i⟩
noncomputable def RQ(lo:Int)(n:Nat):It:=⟨λi _=>i<n,λi H x a=>a=H/\x=.int (lo+i),λi _=>n<=i⟩
theorem Ak{P:Program}(a it:Addr):Turn P w K tg (Ms K a) [it] it (λi h=>h.IsListIter it a i)where
 mem:=by simp
 obj:=λi h st b f=>by
  have e:b=it:=by simpa using f
  subst e;obtain⟨o,e,c,d⟩:=st;exact⟨o,e,λv z=>by rw[d]at z;cases z⟩
 keep:=λi h h' st k=>st.at λo e=>k it (by simp) o e;item:=by intro X m n q hc i pins s σ H E I j st r;subst m n q;obtain⟨xs,x,l,t⟩:=r;obtain⟨y,B,p,hz⟩:=I.list l;obtain⟨u,C,G⟩:=B.get t;obtain⟨f0,f1,f2,f3,f4,f5⟩:=j it (by simp);refine wpAny_pyNext_list_item st p.isList (x:=u) (by simpa using C) λh' g sb=>?_;have J:Inv X pins σ H {s with heap:=h'}:=I.turned (t':=s.toks) (λb o f e=>(sb.2 b f).trans e) f0 f1 f3 f4 f5;obtain⟨o,e,c,d⟩:=id g;exact⟨u,rfl,zm (s:={s with heap:=h'}) e c d (by decide) ⟨x,H,J,G,⟨rfl,λys L=>by rw[I.vq L l];exact t⟩,g,λb f=>(j b f).1⟩⟩
 done:=by intro X m n q hc i pins s σ H E I j st r;subst m n q;obtain⟨xs,l,t⟩:=r;obtain⟨y,B,p,hz⟩:=I.list l;obtain⟨f0,f1,f2,f3,f4,f5⟩:=j it (by simp);have O:=B.length;exact wpAny_pyNext_list_end (I.ok.hd hc) st p.isList (by simp;omega) λh' N=>⟨rfl,I.turned (t':=s.toks) (λb o f e=>N b o f e) f0 f1 f3 f4 f5⟩
 self:=λ_ _ _ _ _ st h=>wpAny_pyIter_listiter st h
theorem wQ{P:Program}(a it:Addr):Turn P w K tg (R6 K a) [it] it (λi h=>h.IsTupleIter it a i)where
 mem:=by simp
 obj:=λi h st b f=>by
  have e:b=it:=by simpa using f
  subst e;obtain⟨o,e,c,d⟩:=st;exact⟨o,e,λv z=>by rw[d]at z;cases z⟩
 keep:=λi h h' st k=>st.at λo e=>k it (by simp) o e;item:=by intro X n q r hc i pins s σ H E I l st t;subst n q r;obtain⟨xs,x,m,y⟩:=t;obtain⟨g,B,p,hz⟩:=I.tuple m;obtain⟨u,C,G⟩:=B.get y;obtain⟨f0,f1,f2,f3,f4,f5⟩:=l it (by simp);refine wpAny_pyNext_tuple_item st (show s.heap.IsTuple a g.toArray from p) (x:=u) (by simpa using C) λh' j sb=>?_;have J:Inv X pins σ H {s with heap:=h'}:=I.turned (t':=s.toks) (λb o f e=>(sb.2 b f).trans e) f0 f1 f3 f4 f5;obtain⟨o,e,c,d⟩:=id j;exact⟨u,rfl,zm (s:={s with heap:=h'}) e c d (by decide) ⟨x,H,J,G,⟨rfl,λys L=>by rw[I.qQ L m];exact y⟩,j,λb f=>(l b f).1⟩⟩
 done:=by intro X n q r hc i pins s σ H E I l st t;subst n q r;obtain⟨xs,m,y⟩:=t;obtain⟨g,B,p,hz⟩:=I.tuple m;obtain⟨f0,f1,f2,f3,f4,f5⟩:=l it (by simp);have O:=B.length;exact wpAny_pyNext_tuple_end (I.ok.hd hc) st (show s.heap.IsTuple a g.toArray from p) (by simp;omega) λh' N=>⟨rfl,I.turned (t':=s.toks) (λb o f e=>N b o f e) f0 f1 f3 f4 f5⟩
 self:=λ_ _ _ _ _ st h=>wpAny_pyIter_tupleiter st h
theorem wZ{P:Program}(it:Addr)(lo:Int)(n:Nat):Turn P w K tg (RQ lo n) [it] it (λi h=>IsRangeIter h it (lo+(i:Nat)*1) ((n:Int)-(i:Nat)) 1)where
 mem:=by simp
 obj:=λi h st b a=>by
  have e:b=it:=by simpa using a
  subst e;exact⟨_,st,λv z=>by have q:Data.fields _=Data.cell v:=z;cases q⟩
 keep:=λi h h' st k=>k it (by simp) _ st;item:=by intro X g j l hc i pins s σ H E I f st m;subst g j l;obtain⟨f0,f1,f2,f3,f4,f5⟩:=f it (by simp);have W:=Walks.range (prog:=X.prog) (w:=X.w) (I.ok.hd hc) it lo 1 n;refine W.item i s _ _ m st λv h' p r c u=>?_;obtain⟨t,rfl⟩:=r;have x:Inv X pins σ H {s with heap:=h',toks:=p}:=I.turned (λb o a e=>u b o (by simpa using a) e) f0 f1 f3 f4 f5;refine⟨_,rfl,zm (s:={s with heap:=h',toks:=p}) (n:="range_iterator") c rfl rfl (by decide) ⟨.int (lo+i),H,x,⟨t,?_⟩,⟨rfl,rfl⟩,c,λb a=>(f b a).1⟩⟩;rw[mul_one]
 done:=by intro X g j l hc i pins s σ H E I f st m;subst g j l;obtain⟨f0,f1,f2,f3,f4,f5⟩:=f it (by simp);exact wpAny_pyNext_range_end (I.ok.hd hc) st (by have:n<=i:=m;omega) λh' y=>⟨rfl,I.turned (t':=s.toks) (λb o a e=>y b o a e) f0 f1 f3 f4 f5⟩
 self:=λ_ _ _ _ _ st h=>wpAny_pyIter_rangeiter st h
section
variable{X:Cx}{tg:Expr}
theorem uf{σ:St}{R:It->Hp->Prop}{E:Value->Shared->Prop}{lo hi:Int}{t u v:Tok}{a:Nat}(I:Inv X pins σ H s)(h1:-(2^62)<=lo)(f:lo<2^62)(g:-(2^62)<=hi)(j:hi<2^62)(q:R (RQ lo (hi-lo).toNat) H):wpAny (model X.prog X.w) X.A (pyIter (.ref s.heap.objs.size)) (PIE X pins σ tg R) E {s with heap:=s.heap.push {cls:=.type "range",data:=.fields #[.int lo t,.int hi u,.int 1 v]},toks:=a}:=by
 refine wpAny_pyIter_range (IsRange.new ..) (small_one h1 f g j) ?_;have c:Inv X pins σ H {s with heap:=s.heap.push {cls:=.type "range",data:=.fields #[.int lo t,.int hi u,.int 1 v]},toks:=a}:=I.kept λb o e=>fH e;refine⟨(s.heap.push {cls:=.type "range",data:=.fields #[.int lo t,.int hi u,.int 1 v]}).objs.size,[(s.heap.push {cls:=.type "range",data:=.fields #[.int lo t,.int hi u,.int 1 v]}).objs.size],_,_,H,rfl,c.kept (t':=a) λb o e=>fH e,wZ _ lo (hi-lo).toNat,?_,λb k=>?_,q⟩
 . have l:lo+((0:Nat):Int)*1=lo:=by simp
   have m:(((hi-lo).toNat:Nat):Int)-((0:Nat):Int)=Builtin.Range.rangeSize lo hi 1:=by rw[rangeSize_one];split<;>omega
   show IsRangeIter _ _ (lo+((0:Nat):Int)*1) ((((hi-lo).toNat:Nat):Int)-((0:Nat):Int)) 1;rw[l,m];exact get?_push_size _ rfl
 . have e:b=(s.heap.push {cls:=.type "range",data:=.fields #[.int lo t,.int hi u,.int 1 v]}).objs.size:=by simpa using k
   subst e;exact c.Gd (bN) (c.hok.fresh (bN))
def Tg(a:TA):TI:=λσ H R=>a σ H λvs b=>∃j:Int,vs=[.int j]/\-(2^62)<=j/\j<2^62/\R (RQ 0 j.toNat) b
def Ti(a:TA):TI:=λσ H R=>a σ H λvs b=>∃i j:Int,vs=[.int i,.int j]/\(-(2^62)<=i/\i<2^62/\-(2^62)<=j/\j<2^62)/\R (RQ i (j-i).toNat) b
theorem qx{a:Expr}{c:TA}{p:Pos}(f:Gl X "range")(g:X.mg "range"=none)(k:PA X [a] c)(hs:starEach [a] X.env=[(false,eval a X.env)]:=by rfl):PI X tg (.Call (.Name "range" p) [a] [] pos) (Tg c):=by intro pins s σ H R I h;refine Call_ (jC I f g boot_range (PyProof.Rows.callWith_type1 (bB (k pos pins s σ H _ I h) λus s1⟨vs,H1,I1,r1,b⟩=>?_) hs rfl));obtain⟨j,e,b,l,q⟩:=b;subst e;cases r1 with|cons r m=>cases m;obtain⟨t,rfl⟩:=r;exact call_range_1 (uf I1 (by omega) (by omega) b l (by simpa using q))
theorem Ao{a b:Expr}{k:TA}{p:Pos}(l:Gl X "range")(m:X.mg "range"=none)(n:PA X [a,b] k)(hs:starEach [a,b] X.env=[(false,eval a X.env),(false,eval b X.env)]:=by rfl)(c:starEach [b] X.env=[(false,eval b X.env)]:=by rfl):PI X tg (.Call (.Name "range" p) [a,b] [] pos) (Ti k):=by intro pins s σ H R I h;refine Call_ (jC I l m boot_range (PyProof.Rows.callWith_type1 (bB (n pos pins s σ H _ I h) λus s1⟨vs,H1,I1,r1,f⟩=>?_) (by rw[hs,c]) (by rw[c];rfl)));obtain⟨i,j,e,⟨f,o,u,v⟩,q⟩:=f;subst e;cases r1 with|cons r g=>cases g with|cons r' g=>cases g;obtain⟨t,rfl⟩:=r;obtain⟨t',rfl⟩:=r';exact call_range_2 (uf I1 f o u v q)
def ZM(f:TI)(g:TG)(j:TS):TS:=λD σ H=>f σ H λJ k=>∃W:Nat->Nat->St->Hp->Prop,(∃m,W 0 m σ k)/\∀i m σ H,W i m σ H->(J.stop i H/\D.nx σ H)\/(J.go i H/\∃N:St->Hp->Prop,(∀a b,N a b->∃e,e<m/\W (i+1) e a b)/\∀x b,J.Lj i H x b->g x σ b λc l=>j {D with nx:=N,ct:=N,bk:=D.nx} c l)
noncomputable def oK(a:List Addr)(h:Heap):List (Addr×Obj):=a.filterMap λb=>(h.get? b).map λo=>(b,o)
theorem fZ{a:List Addr}{b:Addr}{o:Obj}(c:b∈a)(e:h.get? b=some o):(b,o)∈oK a h:=List.mem_filterMap.mpr ⟨b,c,by rw[e];rfl⟩
theorem Ad{a:List Addr}{p:Addr×Obj}(c:p∈oK a h):p.1∈a/\h.get? p.1=some p.2:=by obtain⟨b,f,e⟩:=List.mem_filterMap.mp c;cases q:h.get? b with|none=>rw[q]at e;cases e|some o=>rw[q]at e;have g:(b,o)=p:=Option.some.inj e;subst g;exact⟨f,q⟩
theorem Inv.pinned{σ:St}{a:List Addr}(I:Inv X pins σ H s)(g:∀b∈a,o6 X pins H b)(ho:∀b∈a,∃o,s.heap.get? b=some o/\∀v,o.data≠.cell v):Inv X (pins++oK a s.heap) σ H s:=I.zP λp j=>(mem_append.mp j).elim (λz=>I.pin p (mem_append_right _ z)) λz=>by obtain⟨c,e⟩:=Ad z;obtain⟨f0,f1,f2,_⟩:=g p.1 c;obtain⟨o,f,d⟩:=ho p.1 c;rw[e]at f;cases f;exact⟨e,f0,f1,f2,d⟩
theorem Inv.jW{a:List (Addr×Obj)}{σ:St}(I:Inv X (pins++a) σ H s):Inv X pins σ H s:=I.zP λp b=>I.pin p (mem_append_right _ (List.mem_append_left _ b))
theorem Ck{iter:Expr}{body:List Stmt}{Z:TI}{g:TG}{tb:TS}(z:PassesOwn (model X.prog X.w) X.A X.env X.xe)(hc:X.calm=true)(hi:PI X tg iter Z)(hg:PG X tg g)(c:ug X body tb)(hs:∀x,foldedSetIterable iter X.env x=pure x:=by intro _;rfl):PS X (.For tg iter body [] pos) (ZM Z g tb):=by
 intro pins s σ H D I h;refine wpAny_For (bB (hi pins s σ H _ I h) λv s1 h1=>bB h1 λae s2 h2=>?_) hs;obtain⟨it,B,tn,J,H2,e,I2,T,Q,f2,W,⟨m0,w0⟩,C⟩:=h2;subst e--what stays true of the iterator's objects through the loop
 have j:∀{t:Hp},(∀b∈B,t b=none)->∀b∈B,o6 X pins t b:=λhn b c=>⟨hn b c,(f2 b c).2⟩;refine codeAny_forLoop_any (λn s'=>∃i k t,Inv X pins k t s'/\tn i s'.heap/\(∀b∈B,t b=none)/\W i n k t) ?_ m0 ⟨0,σ,H2,I2,Q,λb c=>(f2 b c).1,w0⟩;rintro n s3⟨i,l,O,I3,E,G,w3⟩;rcases C i n l O w3 with⟨stop,qn⟩|⟨go,N,hN,step⟩;.refine wpAny_passesOwn z (bB (T.done X rfl rfl rfl hc i pins s3 l O X.xe I3 (j G) E stop) λr s4⟨hr,I4⟩=>?_);subst hr;exact wpAny_execs_nil ⟨l,O,I4,qn⟩
 . refine wpAny_passesOwn z (bB (T.item X rfl rfl rfl hc i pins s3 l O X.xe I3 (j G) E go) λr s4⟨u,hr,h4⟩=>?_);subst hr;refine wpAny_passesOwn z (bB h4 λ_ s5⟨x,H5,I5,r5,y5,JV,fr5⟩=>?_);have U:=I5.pinned (j fr5) (T.obj _ _ JV);refine wpAny_passesOwn z (bB (hg _ s5 l H5 x u _ U r5 (step x H5 y5)) λ_ s6⟨Y,H6,I6,q6⟩=>?_);refine wpAny_passesOwn z (bB (c _ s6 Y H6 _ I6 q6) λf s7 y=>?_);have again:∀{a:St}{p:Hp},Inv X (pins++oK B s5.heap) a p s7->N a p->∃m,m<n/\∃i k t,Inv X pins k t s7/\tn i s7.heap/\(∀b∈B,t b=none)/\W i m k t:=λ{a p}q L=>by obtain⟨m',hm,w7⟩:=hN a p L;refine⟨m',hm,i+1,a,p,q.jW,T.keep _ _ _ JV λb c o e=>(q.pin (b,o) (mem_append_right _ (mem_append_right _ (fZ c e)))).1,λb c=>?_,w7⟩;obtain⟨o,e,d⟩:=T.obj _ _ JV b c;exact(q.pin (b,o) (mem_append_right _ (mem_append_right _ (fZ c e)))).2.1
   cases f with|next=>obtain⟨a,p,q,L⟩:=y;exact again q L|cont=>obtain⟨a,p,q,L⟩:=y;exact again q L|brk=>obtain⟨a,p,q,y⟩:=y;exact⟨a,p,q.jW,y⟩|ret v=>obtain⟨x7,a,p,q,r7,y⟩:=y;exact⟨x7,a,p,q.jW,r7,y⟩
end
abbrev R2:=V->V->Hp->VK->Prop
def gD(X:Cx)(f:Value->Value->Sem Value)(r:R2):Prop:=∀(pins:List (Addr × Obj))(s:Shared)(σ:St)(H:Hp)(x y:V)(v u:Value)(Q:VK),Inv X pins σ H s->RelV x v->RelV y u->r x y H Q->wpAny (model X.prog X.w) X.A (f v u) (EP X pins σ Q) X.xe s
def Zr(X:Cx)(f:Value->Sem Value)(r:V->Hp->VK->Prop):Prop:=∀(pins:List (Addr × Obj))(s:Shared)(σ:St)(H:Hp)(x:V)(v:Value)(Q:VK),Inv X pins σ H s->RelV x v->r x H Q->wpAny (model X.prog X.w) X.A (f v) (EP X pins σ Q) X.xe s
def cR(X:Cx)(f:Value)(r:List V->Hp->VK->Prop):Prop:=∀(pins:List (Addr × Obj))(s:Shared)(σ:St)(H:Hp)(xs:List V)(us:List Value)(Q:VK),Inv X pins σ H s->Vals xs us->r xs H Q->wpAny (model X.prog X.w) X.A (call f us) (EP X pins σ Q) X.xe s
def Sh(r:R2)(a b:TE):TE:=λσ H Q=>a σ H λx c=>b σ c λy e=>r x y e Q
def tUn(r:V->Hp->VK->Prop)(a:TE):TE:=λσ H Q=>a σ H λx b=>r x b Q
def rI(C:Int->Int->Prop)(g:Int->Int->V):R2:=λx y H Q=>∃i j,x=.int i/\y=.int j/\C i j/\Q (g i j) H
def Ku(g:Int->Int->V):R2:=λx y H Q=>∃i j,x=.int i/\y=.int j/\Q (g i j) H
def rU(g:Int->V):V->Hp->VK->Prop:=λx H Q=>∃i,x=.int i/\Q (g i) H
section
variable{X:Cx}{a b c:Expr}{ta tb tc:TE}{pos:Pos}
theorem U3(l:PE X a ta)(m:PE X b tb){σ:St}{R:V->V->Hp->Prop}(I:Inv X pins σ H s)(h:ta σ H λx k=>tb σ k λy e=>R x y e){Q:Value->Shared->Prop}{f:Value->Value->Sem Value}(n:∀v u s2 x y e,Inv X pins σ e s2->RelV x v->RelV y u->R x y e->wpAny (model X.prog X.w) X.A (f v u) Q X.xe s2):wpAny (model X.prog X.w) X.A (eval a X.env) (λv g=>wpAny (model X.prog X.w) X.A (eval b X.env) (λu j=>wpAny (model X.prog X.w) X.A (f v u) Q X.xe j) X.xe g) X.xe s:=by refine bB (l pins s σ H _ I h) λv s1⟨x,k,I1,r1,q1⟩=>?_;refine bB (m pins s1 σ k _ I1 q1) λu s2⟨y,e,I2,r2,q2⟩=>?_;exact n v u s2 x y e I2 r1 r2 q2
theorem UJ{op:Operator}{r:R2}(ho:gD X (binaryOp op) r)(e:PE X a ta)(f:PE X b tb):PE X (.BinOp a op b pos) (Sh r ta tb):=by intro pins s σ H Q I h;exact wpAny_BinOp (U3 e f I h λv u s2 x y g j k l q=>ho pins s2 σ g x y v u Q j k l q)
theorem Vs{op:UnaryOp}{r:V->Hp->VK->Prop}(ho:Zr X (unaryOp op) r)(e:PE X a ta):PE X (.UnaryOp op a pos) (tUn r ta):=by intro pins s σ H Q I h;exact UnaryOp_ (bB (e pins s σ H _ I h) λv s1⟨x,H1,I1,r1,q1⟩=>ho pins s1 σ H1 x v Q I1 r1 q1)
theorem Zc{f:Value->Value->Sem Value}{C:Int->Int->Prop}{g:Int->Int->Int}(rule:∀(i j:Int)(t u:Tok)(s:Shared)(Q:Value->Shared->Prop)(E:Value->Shared->Prop),C i j->Q (.int (g i j) s.toks) {s with toks:=s.toks+1}->wpAny (model X.prog X.w) X.A (f (.int i t) (.int j u)) Q E s):gD X f (rI C λi j=>.int (g i j)):=by intro pins s σ H x y v u Q I e k h;obtain⟨i,j,rfl,rfl,hc,q⟩:=h;obtain⟨t,rfl⟩:=e;obtain⟨t',rfl⟩:=k;exact rule i j t t' s _ _ hc ⟨.int (g i j),H,I.tok _,⟨_,rfl⟩,q⟩
theorem Vj{f:Value->Value->Sem Value}{g:Int->Int->Int}(rule:∀(i j:Int)(t u:Tok)(s:Shared)(Q:Value->Shared->Prop)(E:Value->Shared->Prop),Q (.int (g i j) s.toks) {s with toks:=s.toks+1}->wpAny (model X.prog X.w) X.A (f (.int i t) (.int j u)) Q E s):gD X f (Ku λi j=>.int (g i j)):=by intro pins s σ H x y v u Q I e k h;obtain⟨i,j,rfl,rfl,q⟩:=h;obtain⟨t,rfl⟩:=e;obtain⟨t',rfl⟩:=k;exact rule i j t t' s _ _ ⟨.int (g i j),H,I.tok _,⟨_,rfl⟩,q⟩
theorem Vx{f:Value->Value->Sem Value}{g:Int->Int->Bool}(rule:∀(i j:Int)(t u:Tok)(s:Shared)(Q:Value->Shared->Prop)(E:Value->Shared->Prop),Q (.bool (g i j)) s->wpAny (model X.prog X.w) X.A (f (.int i t) (.int j u)) Q E s):gD X f (Ku λi j=>.bl (g i j)):=by intro pins s σ H x y v u Q I e k h;obtain⟨i,j,rfl,rfl,q⟩:=h;obtain⟨t,rfl⟩:=e;obtain⟨t',rfl⟩:=k;exact rule i j t t' s _ _ ⟨.bl (g i j),H,I,rfl,q⟩
def aar(i j:Int):Prop:=0<=j/\j<=1000000/\i.natAbs<2^64
def MF(i j:Int):Prop:=(-(2^64)<i/\i<2^64)\/(-(2^64)<j/\j<2^64)
theorem MF.ok{i j:Int}(h:MF i j):IntMulOk i j:=by
 rcases h with⟨h1,e⟩|⟨h1,e⟩;.exact .of_left (intBits_le_64 h1 e)
 .exact .of_right (intBits_le_64 h1 e)
theorem Nf:gD X (binaryOp .Add) (Ku λi j=>.int (i+j)):=Vj λ_ _ _ _ _ _ _ q=>add_int q
theorem Od:gD X (binaryOp .Sub) (Ku λi j=>.int (i-j)):=Vj λ_ _ _ _ _ _ _ q=>sub_int q
theorem P0:gD X (binaryOp .Mult) (rI MF λi j=>.int (i*j)):=Zc λ_ _ _ _ _ _ _ hc q=>mul_int q hc.ok
theorem Qx:gD X (binaryOp .Mod) (rI (λ_ j=>0<j) λi j=>.int (i%j)):=Zc λi j _ _ _ _ _ hc q=>by have h1:(0:Int)<j:=hc;exact mod_int' (by omega) (by rw[Int.fmod_eq_emod_of_nonneg i (by omega)];exact q)
theorem OJ:gD X (binaryOp .Pow) (rI aar λi j=>.int (i^j.toNat)):=Zc λ_ _ _ _ _ _ _ hc q=>pow_int_small hc.1 hc.2.1 hc.2.2 q
theorem unI{f:Value->Sem Value}{g:Int->Int}(rule:∀(i:Int)(t:Tok)(s:Shared)(Q:Value->Shared->Prop)(E:Value->Shared->Prop),Q (.int (g i) s.toks) {s with toks:=s.toks+1}->wpAny (model X.prog X.w) X.A (f (.int i t)) Q E s):Zr X f (rU λi=>.int (g i)):=by intro pins s σ H x v Q I e h;obtain⟨i,rfl,q⟩:=h;obtain⟨t,rfl⟩:=e;exact rule i t s _ _ ⟨.int (g i),H,I.tok _,⟨_,rfl⟩,q⟩
theorem Mx:Zr X (unaryOp .USub) (rU λi=>.int (-i)):=unI λ_ _ _ _ _ q=>neg_int q
end
section
variable{X:Cx}{a b c:Expr}{ta tb tc:TE}{pos:Pos}
theorem QD{σ:St}{Q:VK}{k f:Bool}(I:Inv X pins σ H s)(q:Q (.bl k) H)(e:k=f):EP X pins σ Q (.bool f) s:=by subst e;exact⟨.bl k,H,I,rfl,q⟩
theorem UT:gD X (compareOp .Lt) (Ku λi j=>.bl (decide (i<j))):=Vx λ_ _ _ _ _ _ _ q=>lt_int q
theorem Vo:gD X (compareOp .Gt) (Ku λi j=>.bl (decide (j<i))):=Vx λ_ _ _ _ _ _ _ q=>gt_int q
theorem IW:gD X (compareOp .IsNot) (λx y H Q=>y=.non/\Q (.bl (!decide (x=.non))) H):=by intro pins s σ H x y v u Q I e f h;obtain⟨rfl,q⟩:=h;cases f;refine isnot_none_gen (QD I q ?_);cases x<;>first|(cases e;rfl)|(obtain⟨t,rfl⟩:=e;rfl)
theorem jw(b:Expr){op:CmpOp}(h:op≠.In:=by decide)(e:op≠.NotIn:=by decide):behindInMarks op b=false:=by
 have f:(op==CmpOp.In)=false:=by cases op<;>first|rfl|exact absurd rfl h
 have g:(op==CmpOp.NotIn)=false:=by cases op<;>first|rfl|exact absurd rfl e
 cases b<;>simp[behindInMarks,f,g]
def Um(t:TE):TT:=λσ H Q=>t σ H λx e=>∃k,x=.bl k/\Q k e
theorem yq{op:CmpOp}{r:R2}(ho:gD X (compareOp op) r)(f:PE X a ta)(g:PE X b tb)(j:behindInMarks op b=false):PT X (.Compare a [op] [b] pos) (Um (Sh r ta tb)):=by intro pins s σ H Q I h;refine wpAny_isTrue_Compare1 (bB (f pins s σ H _ I h) λv s1⟨x,H1,I1,r1,q1⟩=>bB (g pins s1 σ H1 _ I1 q1) λu s2⟨y,H2,I2,r2,q2⟩=>bB (ho pins s2 σ H2 x y v u _ I2 r1 r2 q2) λc s3⟨z,H3,I3,r3,k,e,q3⟩=>?_) j;subst e;cases r3;exact wpAny_truthy_bool ⟨H3,I3,q3⟩
theorem nP:(sizeLine:Nat)<2^63:=by rw[sizeLine_eq];decide
theorem wA:gD X (binaryOp .Add) (λx y H Q=>∃i j,x=.str i/\y=.str j/\i.length+j.length<=sizeLine/\Q (.str (i++j)) H):=by intro pins s σ H x y v u Q I e f h;obtain⟨i,j,rfl,rfl,hz,q⟩:=h;obtain⟨t,rfl⟩:=e;obtain⟨t',rfl⟩:=f;exact add_str (λt' g=>⟨.str (i++j),H,I.tok _,⟨_,rfl⟩,q⟩) hz
theorem vals1{x:V}(r:Vals [x] us):∃u,us=[u]/\RelV x u:=by cases r with|cons r1 e=>cases e;exact⟨_,rfl,r1⟩
theorem vals2{x y:V}(r:Vals [x,y] us):∃u e,us=[u,e]/\RelV x u/\RelV y e:=by cases r with|cons r1 f=>cases f with|cons g j=>cases j;exact⟨_,_,rfl,r1,g⟩
theorem Bp(hc:X.calm=true):cR X (.builtin "max") (λxs H Q=>∃i j,xs=[.int i,.int j]/\Q (.int (if j>i then j else i)) H):=by
 intro pins s σ H xs us Q I r h;obtain⟨i,j,rfl,q⟩:=h;obtain⟨u,f,rfl,⟨t,rfl⟩,⟨t',rfl⟩⟩:=vals2 r;refine max_two_ints (I.ok.hd hc) λh' g k=>⟨_,H,I.kept k,?_,q⟩;by_cases e:j>i;.rw[if_pos e,if_pos e];exact⟨_,rfl⟩
 .rw[if_neg e,if_neg e];exact⟨_,rfl⟩
theorem zX(hc:X.calm=true):cR X (.builtin "min") (λxs H Q=>∃i j,xs=[.int i,.int j]/\Q (.int (if j<i then j else i)) H):=by
 intro pins s σ H xs us Q I r h;obtain⟨i,j,rfl,q⟩:=h;obtain⟨u,f,rfl,⟨t,rfl⟩,⟨t',rfl⟩⟩:=vals2 r;refine min_two_ints (I.ok.hd hc) λh' g k=>⟨_,H,I.kept k,?_,q⟩;by_cases e:j<i;.rw[if_pos e,if_pos e];exact⟨_,rfl⟩
 .rw[if_neg e,if_neg e];exact⟨_,rfl⟩
end
theorem mj.some_of{v:V}{o:Option Value}(r:mj (some v) o):∃u,o=some u/\RelV v u:=by cases o with|none=>exact(show False from r).elim|some u=>exact⟨u,rfl,r⟩
structure gU(k:Nat)(A:Around):Prop where
 hd:A.handled=none
 dp:A.depth+3*k+5<recursionLimit
 un:A.units+16*k+200<cLine
theorem gU.deeper{k:Nat}{A:Around}(r:gU (k+1) A)(env:Env):gU k (A.deeper env):=⟨r.hd,by have:=r.dp;show A.depth+1+3*k+5<_;omega,by have:=r.un;show A.units+3+16*k+200<_;omega⟩
theorem gU.depth{k:Nat}{A:Around}(r:gU k A):A.depth<recursionLimit:=by have:=r.dp;omega
def aaw:TA:=λ_ H Q=>Q [] H
def T7(a:TE)(b:TA):TA:=λσ H Q=>a σ H λx c=>b σ c λxs e=>Q (x::xs) e
section
variable{X:Cx}{e:Expr}{es:List Expr}{te:TE}{t:TA}{pos:Pos}
theorem dF:PA X [] aaw:=λ_ _ _ _ H Q I h=>Calls.spliced_nil ⟨[],H,I,.nil,h⟩
theorem bC(a:PE X e te)(hr:PA X es t)(hs:starEach (e::es) X.env=(false,eval e X.env)::starEach es X.env:=by rfl):PA X (e::es) (T7 te t):=by intro pos pins s σ H Q I h;rw[hs];show wpAny _ _ (spliced ((false,eval e X.env)::backTo pos (starEach es X.env))) _ _ s;refine Calls.spliced_cons (bB (a pins s σ H _ I h) λu s1⟨x,H1,I1,r1,q1⟩=>?_);exact bB (hr pos pins s1 σ H1 _ I1 q1) λus s2⟨xs,H2,I2,r2,q2⟩=>⟨x::xs,H2,I2,.cons r1 r2,q2⟩
def aat(t:TA):TE:=λσ H Q=>t σ H λxs a=>xs.length<=sizeLine/\∀p,a p=none->Q (.ref p) (upd a p (.tup xs))
def aaO(t:TA):TE:=λσ H Q=>t σ H λxs a=>xs.length<=sizeLine/\∀p,a p=none->Q (.ref p) (upd a p (.lst xs))
theorem Oq{x1}(h:PA X es t):PE X (.Tuple es x1 pos) (aat t):=by intro pins s σ H Q I a;refine wpAny_Tuple_spliced (bB (h pos pins s σ H _ I a) λus s1⟨xs,H1,I1,r,z,q⟩=>⟨by rw[<-r.length];exact z,?_⟩);have c:H1 s1.heap.objs.size=none:=I1.hok.fresh (bN);refine⟨.ref s1.heap.objs.size,upd H1 s1.heap.objs.size (.tup xs),I1.laid (t':=s1.toks) (λb u e=>fH e) (bN) ?_,rfl,q _ c⟩;exact⟨z,us,r,⟨_,get?_push_size _ rfl,rfl,_,rfl⟩⟩
theorem Nx(h:PA X es t):PE X (.List es pos) (aaO t):=by intro pins s σ H Q I a;refine wpAny_List_spliced (bB (h pos pins s σ H _ I a) λus s1⟨xs,H1,I1,r,z,q⟩=>⟨by rw[<-r.length];exact z,?_⟩);have c:H1 s1.heap.objs.size=none:=I1.hok.fresh (bN);refine⟨.ref s1.heap.objs.size,upd H1 s1.heap.objs.size (.lst xs),I1.laid (t':=s1.toks) (λb u e=>fH e) (bN) ?_,rfl,q _ c⟩;exact⟨z,us,0,r,get?_push_size _ rfl⟩
end
abbrev Sp:=List V->Hp->VK->XK->Prop
abbrev Ei:=List Env->Hp->Shared->XK->Value->Shared->Prop
structure Jl(P:Program)(w:World)(K:PySem.W.Frag)(mg:Str->Option Value)(base:Heap)(A:Around)(outer:List Env)(s:Shared)(H:Hp):Prop where
 frames:A.frames=some outer
 mod:Mod K mg base
 bs:∀b o,base.get? b=some o->s.heap.get? b=some o/\H b=none
 Lh:base.objs.size<=s.heap.objs.size
 n6:s.heap.FunFrames base outer
 Sw:∀b∈frs outer,H b=none
 hok:kW P w H s.heap
 bare:AllBare s.gens
def CE(outer:List Env)(P:Program)(w:World)(H:Hp)(s:Shared)(Q:VK)(u:Value)(a:Shared):Prop:=∃v b,a.os=s.os/\AllBare a.gens/\Un (frs outer) [] H b s.heap a.heap/\kW P w b a.heap/\RelV v u/\Q v b
def CR(CX:Ei)(outer:List Env)(P:Program)(w:World)(H:Hp)(s:Shared)(Q:VK)(E:XK)(r:Result)(a:Shared):Prop:=match r with|.ok (.ret u)=>CE outer P w H s Q u a|.ok _=>False|.error e=>CX outer H s E e a
structure lg(P:Program)(w:World)(K:PySem.W.Frag)(mg:Str->Option Value)(base:Heap)(CX:Ei)(k:Nat)(f:Addr)(fd:FuncData)(ps:List Str)(sp:Sp):Prop where
 len:∀vs H Q E,sp vs H Q E->vs.length=ps.length
 run:∀(A:Around)(outer:List Env)(s:Shared)(H:Hp)(args:Args)(us:List Value)(vs:List V)(Q:VK)(E:XK),gU k A->Jl P w K mg base A outer s H->BindsTo s fd args (ps.zip us)->Vals vs us->sp vs H Q E->codeAny (model P w) A (.call (.ref f) args) (CR CX outer P w H s Q E) s
section
variable{X:Cx}{pins:List (Addr×Obj)}{σ:St}{H:Hp}{s s':Shared}
theorem Inv.env0(I:Inv X pins σ H s):Jl X.prog X.w X.K X.mg X.base X.A X.stack s H:=⟨I.ok.frames,I.ok.mod,I.bs,le_trans I.ok.Lh I.sz,I.stack,I.yS,I.hok,I.bare⟩
theorem Inv.after{Q:VK}{u:Value}(I:Inv X pins σ H s)(h:CE X.stack X.prog X.w H s Q u s'):EP X pins σ Q u s':=by obtain⟨v,c,os,bare,un,hok,r,q⟩:=h;obtain⟨e,g,d,t,a⟩:=s';obtain rfl:a=s.os:=os;exact⟨v,c,I.call (h':=e) (g':=g) (d':=d) (t':=t) (ch:=[]) un hok bare (λb z=>absurd z (by simp)),r,q⟩
end
def Ve(sp:Sp)(a:List V)(E:XK)(t:TA):TE:=λσ H Q=>t σ H λvs b=>sp (vs++a) b Q E
def Binds(K:PySem.W.Frag)(fd:FuncData)(ps:List Str)(a:List Value):Prop:=∀(s:Shared)(us:List Value),K.In s.heap->(us++a).length=ps.length->BindsTo s fd ⟨us,[]⟩ (ps.zip (us++a))
theorem Binds.all{fd:FuncData}{ps:List Str}(h:∀us:List Value,us.length=ps.length->bindArgs fd ⟨us,[]⟩=pure (ps.zip us)):Binds K fd ps []:=λs us _ a=>by rw[append_nil]at a ⊢;exact .of_eq (h us a)
def Passes(CX:Ei)(X:Cx)(E:XK):Prop:=∀(pins:List (Addr×Obj))(σ:St)(H:Hp)(s:Shared)(e:Value)(a:Shared),Inv X pins σ H s->CX X.stack H s E e a->X.xe e a
section
variable{X:Cx}{CX:Ei}{k:Nat}{f C:Addr}{fd:FuncData}{ps:List Str}{sp:Sp}{Lk:List V}{ds:List Value}{E:XK}{x m:Str}{p pos apos:Pos}{e o:Expr}{es:List Expr}{ta:TE}{t:TA}
theorem Qz{σ:St}{Q:VK}{vs:List V}(F:lg X.prog X.w X.K X.mg X.base CX k f fd ps sp)(hr:gU k X.A)(c:Binds X.K fd ps ds)(hd:Vals Lk ds)(g:Passes CX X E)(I:Inv X pins σ H s)(r:Vals vs us)(h:sp (vs++Lk) H Q E):wpAny (model X.prog X.w) X.A (call (.ref f) us) (EP X pins σ Q) X.xe s:=by
 have b:Vals (vs++Lk) (us++ds):=r.append hd;have j:(us++ds).length=ps.length:=by rw[<-b.length];exact F.len _ _ _ _ h
 refine wpAny_call (codeAny_mono (F.run X.A X.stack s H ⟨us,[]⟩ (us++ds) (vs++Lk) Q E hr I.env0 (c s us I.Ob j) b h) λr l a=>?_);cases r with|error e=>exact g pins σ H s e l I a|ok fl=>cases fl with|ret u=>exact I.after a|next=>exact False.elim a|brk=>exact False.elim a|cont=>exact False.elim a
theorem Ib(F:lg X.prog X.w X.K X.mg X.base CX k f fd ps sp)(hr:gU k X.A)(b:Gl X x)(c:X.mg x=some (.ref f))(g:keepIn X.K (.ref f)=true)(j:Binds X.K fd ps ds)(hd:Vals Lk ds)(l:Passes CX X E)(n:PA X (e::es) t)(a:(x==("__debug__":Str))=false:=by decide)(he:starEach (e::es) X.env=(false,eval e X.env)::starEach es X.env:=by rfl)(hpl:(backTo pos (starEach es X.env)).any (·.1)=false:=by rfl):PE X (.Call (.Name x p) (e::es) [] pos) (Ve sp Lk E t):=by intro pins s σ H Q I h;refine wpAny_Call_Name_kw (HS I b c ?_ a);refine PySem.W.callWith_K (h₀:=X.base) I.ok.mod.pJ g (bB (n pos pins s σ H _ I h) λus s1⟨vs,H1,I1,r,q⟩=>⟨I1.Ob,?_⟩) he hpl;exact Qz F hr j hd l I1 r q
end
structure aU(N P:List Str)(sc:Scope):Prop where
 kind:sc.kind=.function
 co:sc.isCoroutine=false
 gen:sc.isGenerator=false
 nd:N.Nodup
 pre:N.take P.length=P
 par:∀x∈P,sc.names.lookup x=some .local\/sc.names.lookup x=some .cell
 QG:∀y∈sc.names,y.2≠.free
theorem qI{kindOf:Str->Option NameKind}{x:Str}:∀{binds:List (Str×Value)}{m:Str->Option Value},(∀v,(x,v)∉binds)->bindL kindOf binds m x=m x
 |[],_,_=>rfl|(n,v)::r,m,h=>by
   unfold bindL;rw[qI λw a=>h w (mem_cons_of_mem _ a)];split
   . have:x≠n:=by rintro rfl;exact h v mem_cons_self
     simp[this]
   .rfl
theorem qe{kindOf:Str->Option NameKind}{x:Str}:∀{binds:List (Str×Value)}{m:Str->Option Value},(∀v,(x,v)∉binds)->bindC kindOf binds m x=m x
 |[],_,_=>rfl|(n,v)::r,m,h=>by
   unfold bindC;rw[qe λw a=>h w (mem_cons_of_mem _ a)];split;.rfl
   . have:x≠n:=by rintro rfl;exact h v mem_cons_self
     simp[this]
theorem qO{kindOf:Str->Option NameKind}{x:Str}{v:Value}:∀{P:List Str}{vs:List Value}{i:Nat}{m:Str->Option Value},P.Nodup->P[i]?=some x->vs[i]?=some v->kindOf x=some .local->bindL kindOf (P.zip vs) m x=some v|[],_,_,_,_,h,_,_=>by simp at h|_::_,[],_,_,_,_,h,_=>by simp at h|p::P,w::vs,0,m,nd,h1,a,b=>by simp at h1 a;subst h1;subst a;show bindL kindOf ((p,w)::P.zip vs) m p=_;unfold bindL;rw[qI λv c=>(nodup_cons.mp nd).1 (of_mem_zip c).1,if_pos b];simp|p::P,w::vs,i+1,m,nd,h1,a,b=>by show bindL kindOf ((p,w)::P.zip vs) m x=_;unfold bindL;exact qO (i:=i) (nodup_cons.mp nd).2 (by simpa using h1) (by simpa using a) b
theorem qG{kindOf:Str->Option NameKind}{x:Str}{v:Value}:∀{P:List Str}{vs:List Value}{i:Nat}{m:Str->Option Value},P.Nodup->P[i]?=some x->vs[i]?=some v->kindOf x≠some .local->bindC kindOf (P.zip vs) m x=some v|[],_,_,_,_,h,_,_=>by simp at h|_::_,[],_,_,_,_,h,_=>by simp at h|p::P,w::vs,0,m,nd,h1,a,b=>by simp at h1 a;subst h1;subst a;show bindC kindOf ((p,w)::P.zip vs) m p=_;unfold bindC;rw[qe λv c=>(nodup_cons.mp nd).1 (of_mem_zip c).1,if_neg b];simp|p::P,w::vs,i+1,m,nd,h1,a,b=>by show bindC kindOf ((p,w)::P.zip vs) m x=_;unfold bindC;exact qG (i:=i) (nodup_cons.mp nd).2 (by simpa using h1) (by simpa using a) b
noncomputable def start(N:List Str)(vs:List V):St:=vs.map some++replicate (N.length-vs.length) none
noncomputable def wO(CX:Ei)(P:Program)(w:World)(K:PySem.W.Frag)(mg:Str->Option Value)(base:Heap)(N:List Str)(qual:Str)(scope:Scope)(f:Addr)(b:Value)(A:Around)(outer:List Env)(s:Shared)(H:Hp)(E:XK):Cx where prog:=P;w:=w;K:=K;mg:=mg;base:=base;A:=A.deeper (envOfC qual scope s.heap.objs.size f b);N:=N;s₀:=s;H₀:=H;env:=envOfC qual scope s.heap.objs.size f b;outer:=outer;stack:=envOfC qual scope s.heap.objs.size f b::outer;ex:=[];calm:=true;fn:=λ_=>true;pn:=[];xe:=λe c=>wpAny (model P w) (A.deeper (envOfC qual scope s.heap.objs.size f b)) (leaving (envOfC qual scope s.heap.objs.size f b) e) (λ_ a=>CX outer H s E e a) (λg a=>CX outer H s E g a) c
theorem ue{a:Scope}{n:Nat}{x:Str}(h:a.names.lookup x=some .cell):∃c,(cellsFrom n a.names []).lookup x=some c:=by have q:=PySem.W.cellsFrom_some a.names n [] (.inl h);exact Option.isSome_iff_exists.mp q
theorem Aw{CX:Ei}{P:Program}{mg:Str->Option Value}{base:Heap}{N ps:List Str}{qual:Str}{scope:Scope}{f:Addr}{o:Value}{outer:List Env}{s1:Shared}{E:XK}{vs:List V}(S:aU N ps scope)(hd:A.handled=none)(j:Jl P w K mg base A outer s H)(J:vs.length=ps.length)(r:Vals vs us)(x:InCallC s s.heap.objs.size (bindL (envOfC qual scope s.heap.objs.size f o).kindOf (ps.zip us) λ_=>none) (cellsFrom (s.heap.objs.size+1) scope.names []) (bindC (envOfC qual scope s.heap.objs.size f o).kindOf (ps.zip us) λ_=>none) s1):Inv (wO CX P w K mg base N qual scope f o A outer s H E) [] (start N vs) H s1:=by
 have hpl:ps.length<=N.length:=by have:=congrArg List.length S.pre;rw[length_take]at this;omega
 obtain⟨h1,L,rfl,B⟩:=x.done;have t:∀b:Addr,b∉(wO CX P w K mg base N qual scope f o A outer s H E).ex:=λb z=>absurd (show b∈([]:List Addr)from z) (by simp);refine⟨⟨j.mod,S.kind,rfl,rfl,bN,λy z c h1 g=>?_,λy hy=>?_,λy c _ h=>?_,λ_=>hd,Around.frames_deeper j.frames,.inr ⟨rfl,rfl⟩,λb z=>absurd z (t b),j.bs,j.Lh,λb _ _=>t b,λb z=>absurd z (t b),j.n6,j.Sw⟩,rfl,j.bare,Un.kept B,⟨_,x.toInCall.ns,λi y v h1 g O=>?_⟩,λy c h=>⟨_,x.cell y c h⟩,j.hok.fresh (bN),λy c h=>?_,λp l=>absurd (show p∈([]:List (Addr×Obj))from l) (by simp),j.hok.kept B,?_⟩;.exact name_of_addr x.apart (PySem.mem_of_lookup h1) (PySem.mem_of_lookup g)
 . have hy:scope.names.lookup y=some .cell\/scope.names.lookup y=some .free:=hy;rcases hy with hy|hy;.exact ue hy
   .exact absurd rfl (S.QG _ (PySem.mem_of_lookup hy))
 .exact le_of_lt (x.above y c (PySem.mem_of_lookup h))
 . have hi:i<vs.length:=by
    unfold start at g;by_cases hi:i<vs.length;.exact hi
    .rw[getElem?_append_right (by simpa using hi)]at g;rw[List.getElem?_replicate]at g;split at g<;>cases g
   have G:vs[i]?=some v:=by unfold start at g;rw[getElem?_append_left (by simpa using hi),getElem?_map]at g;cases e:vs[i]?with|none=>rw[e]at g;cases g|some a=>rw[e]at g;cases g;rfl
   obtain⟨u,C,I⟩:=r.get G;have l:ps[i]?=some y:=by rw[<-S.pre,List.getElem?_take_of_lt (by omega)];exact h1
   have m:ps.Nodup:=by rw[<-S.pre];exact S.nd.sublist (List.take_sublist _ _)
   refine⟨u,I,?_⟩;rcases S.par y (mem_of_getElem? l)with k|k;.exact .inl ⟨k,qO m l C k⟩
   .obtain⟨c,e⟩:=ue (n:=s.heap.objs.size+1) k;refine .inr ⟨.inl k,c,e,?_⟩;have q:=x.cell y c e;rw[qG m l C (by show scope.names.lookup y≠_;rw[k];decide)]at q;exact q
 .exact j.hok.fresh (le_of_lt (x.above y c (PySem.mem_of_lookup h)))
 .unfold start;show _=N.length;rw[length_append,length_map,List.length_replicate];omega
theorem Tf{CX:Ei}{P:Program}{w:World}{K:PySem.W.Frag}{mg:Str->Option Value}{base:Heap}{k:Nat}{f:Addr}{name qual:Str}{a:Arguments}{body:List Stmt}{scope:Scope}{L kV m O cdv ct oc:Value}{U Z:Option Addr}{z:Array (Option Value)}{N ps:List Str}{sp:Sp}(lk:K.lookup f=some ⟨oc,Z,.func (PySem.W.fnOf name qual a body scope L kV m O U cdv ct),z⟩)(B:PySem.W.codeIn K cdv qual=true)(S:aU N ps scope)(len:∀vs H Q E,sp vs H Q E->vs.length=ps.length)(j:∀(A:Around)(outer:List Env)(s:Shared)(H:Hp)(vs:List V)(Q:VK)(E:XK),gU k (A.deeper (envOfC qual scope s.heap.objs.size f cdv))->sp vs H Q E->∃t,ug (wO CX P w K mg base N qual scope f cdv A outer s H E) body t/\t {nx:=λ_ g=>Q .non g,rt:=Q} (start N vs) H):lg P w K mg base CX (k+1) f (PySem.W.fnOf name qual a body scope L kV m O U cdv ct) ps sp:=by
 refine⟨len,λA outer s H args us vs Q E hr p hb r hsp=>?_⟩;have hl:=len _ _ _ _ hsp;have Y:K.In s.heap:=p.mod.pJ.keeps λb o e=>(p.bs b o e).1;have lim:s.heap.NoLimit:=p.mod.nolimit.keeps λb o e=>(p.bs b o e).1;have l:∀y∈ps.zip us,scope.names.lookup y.1=some .local\/(scope.names.lookup y.1=some .cell/\((cellsFrom (s.heap.objs.size+1) scope.names []).lookup y.1).isSome=true):=λ⟨n,v⟩hy=>by
  rcases S.par n (of_mem_zip hy).1 with q|q;.exact .inl q
  .exact .inr ⟨q,PySem.W.cellsFrom_some _ _ _ (.inl q)⟩
 refine codeAny_call_function hr.depth (Y _ _ lk) rfl S.co S.gen rfl (PySem.W.codeRec_of Y B) (hb _ _ _ _ ?_);refine wpAny_newFunctionEnv_cells S.kind l λenv he s1 x=>?_;subst he;refine⟨lim.keeps x.toInCall.keep,codeAny_func ?_⟩;obtain⟨t,ht,hq⟩:=j A outer s H vs Q E (hr.deeper _) hsp;have I:Inv (wO CX P w K mg base N qual scope f cdv A outer s H E) [] (start N vs) H s1:=Aw S hr.hd p hl r x;refine wpAny_mono (ht [] s1 (start N vs) H _ I hq) (λfl C hs=>?_) λe C hs=>hs;have fin:∀{c:St}{g:Hp}{v:V}{u:Value},Inv (wO CX P w K mg base N qual scope f cdv A outer s H E) [] c g C->RelV v u->Q v g->CE outer P w H s Q u C:=λ{c g v u}J G q=>⟨v,g,J.os,J.bare,J.base,J.hok,G,q⟩;cases fl with|ret u=>obtain⟨v,c,g,J,G,q⟩:=hs;exact fin J G q|next=>obtain⟨c,g,J,q⟩:=hs;exact fin (v:=V.non) (u:=Value.none) J rfl q|brk=>obtain⟨_,_,_,q⟩:=hs;exact False.elim q|cont=>obtain⟨_,_,_,q⟩:=hs;exact False.elim q
section
variable{X:Cx}{x:Str}{p pos:Pos}{e:Expr}{es:List Expr}{t:TA}{id T:String}{r:List V->Hp->VK->Prop}
def Yi(r:List V->Hp->VK->Prop)(t:TA):TE:=λσ H Q=>t σ H λvs a=>r vs a Q
theorem dq(hc:cR X (.builtin id) r)(b:Gl X x)(c:X.mg x=none)(f:bootBuiltins x=some (.builtin id))(g:PA X (e::es) t)(j:x≠"__name__":=by decide)(a:(x==("__debug__":Str))=false:=by decide)(he:starEach (e::es) X.env=(false,eval e X.env)::starEach es X.env:=by rfl)(hpl:(backTo pos (starEach es X.env)).any (·.1)=false:=by rfl):PE X (.Call (.Name x p) (e::es) [] pos) (Yi r t):=by intro pins s σ H Q I h;refine wpAny_Call_Name_kw (jC I b c f ?_ j a);exact PyProof.Rows.callWith_builtin1 (bB (g pos pins s σ H _ I h) λus s1⟨vs,H1,I1,r1,q1⟩=>hc pins s1 σ H1 vs us Q I1 r1 q1) he hpl
theorem lB(hc:cR X (.type T) r)(b:Gl X x)(c:X.mg x=none)(f:bootBuiltins x=some (.type T))(g:PA X (e::es) t)(j:x≠"__name__":=by decide)(a:(x==("__debug__":Str))=false:=by decide)(he:starEach (e::es) X.env=(false,eval e X.env)::starEach es X.env:=by rfl)(hpl:(backTo pos (starEach es X.env)).any (·.1)=false:=by rfl):PE X (.Call (.Name x p) (e::es) [] pos) (Yi r t):=by intro pins s σ H Q I h;refine wpAny_Call_Name_kw (jC I b c f ?_ j a);exact PyProof.Rows.callWith_type1 (bB (g pos pins s σ H _ I h) λus s1⟨vs,H1,I1,r1,q1⟩=>hc pins s1 σ H1 vs us Q I1 r1 q1) he hpl
end
end L2
namespace HT
open PySem PyProof.Rows
section
variable{prog:Program}{w:World}{A:Around}{E:Value->Shared->Prop}{s:Shared}
theorem Iw{t b:Addr}{vs ws:List Value}{Q:Value->Shared->Prop}(ht:IsTup s.heap t vs.toArray)(o:IsTup s.heap b ws.toArray)(j:vs≠[])(h1:ws=[]->Q (.ref t) s)(p:ws≠[]->Q (.ref s.heap.objs.size) {s with heap:=s.heap.push {cls:=.type "tuple",data:=.seq (vs++ws).toArray}})(hsz:vs.length+ws.length<=sizeLine):wpAny (model prog w) A (binaryOp .Add (.ref t) (.ref b)) Q E s:=by
 obtain⟨⟨cls,k,data,sl⟩,ho,hc,n,hd⟩:=id ht;obtain⟨⟨l,c,data2,f⟩,a,g,m,h⟩:=id o;simp only at hc hd g h;subst hc hd g h;have e:vs.toArray++ws.toArray=(vs++ws).toArray:=by simp
 by_cases i:ws=[];.exact concat_meets ⟨_,ho,rfl⟩ ⟨_,a,rfl⟩ noFill_tuple_add seq_tuple_add slot_tuple_add entry_tuple_add (args_tuple_add_2 _ _) (tuple_addW1 t b vs.toArray ws.toArray n m k c sl f (by simpa using j) (by simp[i])) ⟨ho,a,h1 i⟩
 .refine concat_meets ⟨_,ho,rfl⟩ ⟨_,a,rfl⟩ noFill_tuple_add seq_tuple_add slot_tuple_add entry_tuple_add (args_tuple_add_2 _ _) (tuple_addW2 t b vs.toArray ws.toArray n m k c sl f (by simpa using j) (by simpa using i) (by rw[size_toArray,size_toArray];exact hsz)) ⟨ho,a,?_⟩;rw[e];exact p i
noncomputable def cF(n d:Nat):Option Int->Nat|none=>d|some v=>if v<0 then(v+(n:Int)).toNat else min v.toNat n
theorem Mz(n d:Nat)(hd:d<=n)(o:Option Int):cF n d o<=n:=by cases o with|none=>exact hd|some v=>
   show(if v<0 then(v+(n:Int)).toNat else min v.toNat n)<=n;by_cases a:v<0;.rw[if_pos a];omega
   .rw[if_neg a];exact Nat.min_le_right _ _
theorem yP(v:Int)(n d:Nat):(if v<0 then max (v+(n:Int)) 0 else min v (n:Int))=((cF n d (some v):Nat):Int):=by
 show(if v<0 then max (v+(n:Int)) 0 else min v (n:Int))=(((if v<0 then(v+(n:Int)).toNat else min v.toNat n):Nat):Int);by_cases a:v<0;.simp only[if_pos a];omega
 .simp only[if_neg a];omega
theorem xj(lo hi:Option Int)(n:Nat):sliceAdjust lo hi 1 (n:Int)=(((cF n 0 lo:Nat):Int),((cF n n hi:Nat):Int)):=by
 have h1:¬((1:Int)<0):=by omega
 unfold sliceAdjust;simp only[h1,if_false];refine Prod.ext ?_ ?_;.cases lo with|none=>rfl|some v=>exact yP v n 0
 .cases hi with|none=>rfl|some v=>exact yP v n n
theorem xq(i j:Nat):slicePlaces (i:Int) (j:Int) 1=j-i:=by
 unfold slicePlaces;have h1:(1:Int)>0:=by omega
 simp only[h1,if_true,Int.ediv_one];split<;>omega
theorem oW{v:Value}{o:Option Int}{Q:Option Int->Shared->Prop}(p:IsPart v o)(h:Q o s):wpAny (model prog w) A (Builtin.Slice.slicePartIndex v) Q E s:=by cases p with|none=>exact slicePart_none h|int i t=>exact slicePart_int h
theorem fK{sl:Addr}{c e:Value}{lo hi:Option Int}{n:Nat}{Q:Int×Int×Nat->Shared->Prop}(hs:s.heap.IsSliceOf sl c e .none)(f:IsPart c lo)(g:IsPart e hi)(h:Q (((cF n 0 lo:Nat):Int),1,cF n n hi-cF n 0 lo) s):wpAny (model prog w) A (sliceApplied (.ref sl) (pure (n:Int))) Q E s:=by obtain⟨os,a,i,b⟩:=id hs;unfold sliceApplied Builtin.Slice.sliceFields;refine wpAny_bind (wpAny_bind (wpAny_field a b (x:=c) rfl (wpAny_bind (wpAny_field a b (x:=e) rfl (wpAny_bind (wpAny_field a b (x:=.none) rfl (wpAny_pure ?_)))))));refine wpAny_bind (slicePart_none ?_);show wpAny _ _ (if((1:Int)==0)=true then _ else _) _ _ s;rw[if_neg (by decide)];refine wpAny_bind (oW f (wpAny_bind (oW g (wpAny_bind (wpAny_pure ?_)))));show wpAny _ _ (match sliceAdjust lo hi 1 (n:Int)with|(lo,hi)=>pure (lo,(1:Int),slicePlaces lo hi 1)) _ _ s;rw[xj lo hi n];show wpAny _ _ (pure (((cF n 0 lo:Nat):Int),(1:Int),slicePlaces ((cF n 0 lo:Nat):Int) ((cF n n hi:Nat):Int) 1)) _ _ s;rw[xq];exact wpAny_pure h
theorem Fy(xs:Array Value)(i k:Nat):((List.range k).filterMap λ(m:Nat)=>xs[((i:Int)+(m:Int)*1).toNat]?).toArray=((xs.toList.drop i).take k).toArray:=by
 have e:(λ(m:Nat)=>xs[((i:Int)+(m:Int)*1).toNat]?)=λm=>xs[i+m]?:=by
  funext m;have:((i:Int)+(m:Int)*1).toNat=i+m:=by omega
  rw[this]
 rw[e];have:=pick_run xs i k;rw[List.filterMap_map]at this;have a:((λx=>xs[x]?)∘ λx=>i+x)=λm=>xs[i+m]?:=rfl;rw[a]at this;rw[this]
theorem jT{t sl:Addr}{items:Array Value}{g i:Value}{lo hi:Option Int}{Q:Value->Shared->Prop}(ht:IsTup s.heap t items)(hs:s.heap.IsSliceOf sl g i .none)(j:IsPart g lo)(k:IsPart i hi)(l:¬(cF items.size 0 lo=0/\cF items.size items.size hi=items.size))(h:Q (.ref s.heap.objs.size) {s with heap:=s.heap.push {cls:=.type "tuple",data:=.seq ((items.toList.drop (cF items.size 0 lo)).take (cF items.size items.size hi-cF items.size 0 lo)).toArray}})(hsz:items.size<=sizeLine):wpAny (model prog w) A (getItem (.ref t) (.ref sl)) Q E s:=by
 have a:sizeOk (.seq ((items.toList.drop (cF items.size 0 lo)).take (cF items.size items.size hi-cF items.size 0 lo)).toArray):=by show((items.toList.drop (cF items.size 0 lo)).take (cF items.size items.size hi-cF items.size 0 lo)).toArray.size<=sizeLine;rw[size_toArray,length_take,length_drop,length_toList];omega
 have o:cF items.size items.size hi<=items.size:=Mz _ _ (bN) hi;obtain⟨os,b,c,n⟩:=id hs;have e:s.TypeIs (.ref sl) "slice":=⟨os,b,c⟩;unfold getItem;try with_reducible refine wpAny_holding ?_
 first|refine wpAny_bind (wpAny_pure ?_)|skip
 refine wpAny_bind (wpAny_sequenceKey ht.typeIs (by decide) ?_);refine wpAny_bind (wpAny_callSpecial?_slot (name:=Str.ofString "__getitem__") ht.typeIs PyProof.Rows.slot_tuple_getitem (wpAny_call_entry PyProof.Rows.slot_tuple_getitem ht.typeIs entry_tuple_getitem ?_ (args_tuple_getitem _ _)));show wpAny _ _ (tupleItemsOf (.ref t)>>=_) _ _ s;refine wpAny_bind (tupleItemsOf_ ht ?_);refine wpAny_bind (wpAny_typeOf e ?_);rw[if_pos (by decide)];refine wpAny_bind (fK hs j k ?_);have f:¬((((cF items.size 0 lo:Nat):Int)==0&&(1:Int)==1&&(cF items.size items.size hi-cF items.size 0 lo)==items.size)=true):=by intro q;rw[and_eq_true,and_eq_true]at q;have p:((cF items.size 0 lo:Nat):Int)=0:=eq_of_beq q.1.1;have r:cF items.size items.size hi-cF items.size 0 lo=items.size:=eq_of_beq q.2;exact l ⟨by omega,by omega⟩
 show wpAny _ _ (if(((cF items.size 0 lo:Nat):Int)==0&&(1:Int)==1&&(cF items.size items.size hi-cF items.size 0 lo)==items.size)=true then _ else _) _ _ s;rw[if_neg f,Fy];first|exact wpAny_bind (m:=tupleExact _) (wpAny_newObj_type (wpAny_pure ⟨_,rfl,wpAny_pure h⟩) a)|exact wpAny_bind (m:=tupleExact _) (wpAny_newObj_type (wpAny_bind (wpAny_pure (wpAny_pure ⟨_,rfl,wpAny_pure h⟩))) a)|exact wpAny_bind (wpAny_bind (m:=tupleExact _) (wpAny_newObj_type (wpAny_pure (wpAny_pure ⟨_,rfl,wpAny_pure h⟩)) a))|exact wpAny_bind (wpAny_bind (m:=tupleExact _) (wpAny_newObj_type (wpAny_pure ⟨_,rfl,wpAny_pure h⟩) a))
end
end HT
namespace L2
open PySem PySem.Spec PyProof.Rows
variable{n:Nat}
abbrev TO:=St->Hp->(Option Int->Hp->Prop)->Prop
def PO(X:Cx)(e:Option Expr)(t:TO):Prop:=∀(a:List (Addr × Obj))(s:Shared)(σ:St)(H:Hp)(Q:Option Int->Hp->Prop),Inv X a σ H s->t σ H Q->wpAny (model X.prog X.w) X.A (evalPart e X.env) (λu c=>∃o b,Inv X a σ b c/\IsPart u o/\Q o b) X.xe s
def Jb:TO:=λ_ H Q=>Q none H
def Vl(t:TE):TO:=λσ H Q=>t σ H λx a=>∃i,x=.int i/\Q (some i) a
section
variable{X:Cx}{e:Expr}{te:TE}{lo hi:Option Expr}{tl th:TO}{pos p2:Pos}
theorem JF:PO X none Jb:=by intro a s σ H Q I h;rw[evalPart_none];exact wpAny_pure ⟨none,H,I,.none,h⟩
theorem JL(h:PE X e te):PO X (some e) (Vl te):=by intro a s σ H Q I b;rw[evalPart_some];refine bB (h a s σ H _ I b) λu s1⟨x,H1,I1,r1,q1⟩=>?_;obtain⟨i,rfl,q⟩:=q1;obtain⟨t,rfl⟩:=r1;exact⟨some i,H1,I1,.int i t,q⟩
def Yj(X:Cx)(r:V->Option Int->Option Int->Hp->VK->Prop):Prop:=∀(a:List (Addr × Obj))(s:Shared)(σ:St)(H:Hp)(x:V)(v b c:Value)(lo hi:Option Int)(sl:Addr)(Q:VK),Inv X a σ H s->RelV x v->s.heap.IsSliceOf sl b c .none->IsPart b lo->IsPart c hi->r x lo hi H Q->∃T id,typeLookup (.type T) "__getitem__"=pure (some (.builtin id))/\s.TypeIs v T/\wpAny (model X.prog X.w) X.A (getItem v (.ref sl)) (EP X a σ Q) X.xe s
def tSl(r:V->Option Int->Option Int->Hp->VK->Prop)(te:TE)(tl th:TO):TE:=λσ H Q=>te σ H λx a=>tl σ a λl b=>th σ b λu c=>r x l u c Q
theorem uw{r:V->Option Int->Option Int->Hp->VK->Prop}(hr:Yj X r)(he:PE X e te)(g:PO X lo tl)(i:PO X hi th):PE X (.Subscript e (.Slice lo hi none p2) pos) (tSl r te tl th):=by intro a s σ H Q I h;refine Subscript_ (bB (he a s σ H _ I h) λv s1⟨x,H1,I1,r1,q1⟩=>?_);refine wpAny_Slice (bB (g a s1 σ H1 _ I1 q1) λc s2⟨l,H2,I2,pl,q2⟩=>bB (i a s2 σ H2 _ I2 q2) λf s3⟨u,H3,I3,pu,q3⟩=>?_);rw[evalPart_none];refine wpAny_pure ?_;have j:Inv X a σ H3 {s3 with heap:=s3.heap.push {cls:=.type "slice",data:=.fields #[c,f,.none]}}:=I3.kept (t':=s3.toks) λb o q=>fH q;obtain⟨T,id,k,ht,m⟩:=hr a {s3 with heap:=s3.heap.push {cls:=.type "slice",data:=.fields #[c,f,.none]}} σ H3 x v c f l u s3.heap.objs.size Q j r1 (Heap.IsSliceOf.new ..) pl pu q3;show wpAny (model X.prog X.w) X.A (subscriptTail e (.Slice lo hi none p2) v (.ref s3.heap.objs.size)) (EP X a σ Q) X.xe {s3 with heap:=s3.heap.push {cls:=.type "slice",data:=.fields #[c,f,.none]}};exact tail_any (ops:=[.ref s3.heap.objs.size,v]) ht k m (by with_unfolding_all rfl)
noncomputable def vz(xs:List V)(lo hi:Option Int):List V:=(xs.drop (HT.cF xs.length 0 lo)).take (HT.cF xs.length xs.length hi-HT.cF xs.length 0 lo)
theorem lR(xs:List V)(lo hi:Option Int):(vz xs lo hi).length<=xs.length:=by unfold vz;rw[length_take,length_drop];omega
def YW(K:PySem.W.Frag):V->Option Int->Option Int->Hp->VK->Prop:=λx lo hi H Q=>∃a xs,x=.ref a/\ji K H a xs/\¬(HT.cF xs.length 0 lo=0/\HT.cF xs.length xs.length hi=xs.length)/\∀p,H p=none->Q (.ref p) (upd H p (.tup (vz xs lo hi)))
theorem Nz:Yj X (YW X.K):=by
 intro g s σ H x v p t lo hi sl Q I i hs j k h;obtain⟨a,xs,rfl,l,m,q⟩:=h;cases i;obtain⟨f,r,ht,hz⟩:=I.tuple l;have c:f.toArray.size=xs.length:=by rw[size_toArray];exact r.length.symm
 refine⟨"tuple",_,PyProof.Rows.slot_tuple_getitem.lookup,ht.typeIs,?_⟩;refine HT.jT ht hs j k (by rw[c];exact m) ?_ (by rw[c];exact hz);rw[c];refine⟨.ref s.heap.objs.size,_,I.laid (t':=s.toks) (o:=.tup (vz xs lo hi)) (λb u q=>fH q) (bN) ?_,rfl,q _ (I.hok.fresh (bN))⟩;exact⟨le_trans (lR xs lo hi) hz,_,(r.drop (HT.cF xs.length 0 lo)).take (HT.cF xs.length xs.length hi-HT.cF xs.length 0 lo),IsTup.new _ _⟩
def VG(K:PySem.W.Frag):R2:=λx y H Q=>∃a b xs ys,x=.ref a/\y=.ref b/\ji K H a xs/\ji K H b ys/\xs≠[]/\xs.length+ys.length<=sizeLine/\(ys=[]->Q (.ref a) H)/\(ys≠[]->∀p,H p=none->Q (.ref p) (upd H p (.tup (xs++ys))))
theorem Vals.mY{xs:List V}{a:List Value}(r:Vals xs a):a=[]↔xs=[]:=by cases r with|nil=>simp|cons _ _=>simp
theorem HR:gD X (binaryOp .Add) (VG X.K):=by intro f s σ H x y v u Q I i j h;obtain⟨a,b,xs,ys,rfl,rfl,k,l,m,hz,p,r⟩:=h;cases i;cases j;obtain⟨t,r1,A,_⟩:=I.tuple k;obtain⟨g,c,p2,_⟩:=I.tuple l;refine HT.Iw A p2 (λz=>m (r1.mY.mp z)) (λz=>⟨.ref a,H,I,rfl,p (c.mY.mp z)⟩) (λz=>?_) (by rw[<-r1.length,<-c.length];exact hz);refine⟨.ref s.heap.objs.size,_,I.laid (t':=s.toks) (o:=.tup (xs++ys)) (λb B q=>fH q) (bN) ?_,rfl,r (λw=>z (c.mY.mpr w)) _ (I.hok.fresh (bN))⟩;exact⟨by rw[length_append];exact hz,_,r1.append c,IsTup.new _ _⟩
end
noncomputable def gw(n:Nat)(i:Int):Option Nat:=if 0<=i then(if i<n then some i.toNat else none)else if-(n:Int)<=i then some (i+n).toNat else none
noncomputable def DY{a:Type}(xs:List a)(i:Int):Option a:=(gw xs.length i).bind λj=>xs[j]?
theorem yx{i:Int}{j:Nat}(h:gw n i=some j):seqIndex? i n=some j/\j<n/\-(n:Int)<=i/\i<n:=by
 unfold gw at h;by_cases h0:0<=i
 . rw[if_pos h0]at h;by_cases h1:i<n;.rw[if_pos h1]at h;have e:i.toNat=j:=Option.some.inj h;exact⟨by rw[seqIndex_of h0 h1,e],by omega,by omega,h1⟩
   .rw[if_neg h1]at h;cases h
 . rw[if_neg h0]at h;by_cases h1:-(n:Int)<=i;.rw[if_pos h1]at h;have e:(i+n).toNat=j:=Option.some.inj h;exact⟨by rw[seqIndex_neg (by omega) h1,e],by omega,h1,by omega⟩
   .rw[if_neg h1]at h;cases h
theorem tG{a:Type}{xs:List a}{i:Int}{v:a}(h:DY xs i=some v):∃j,seqIndex? i xs.length=some j/\xs[j]?=some v/\j<xs.length/\-(xs.length:Int)<=i/\i<xs.length:=by unfold DY at h;cases e:gw xs.length i with|none=>rw[e]at h;cases h|some j=>rw[e]at h;obtain⟨h1,b,c,f⟩:=yx e;exact⟨j,h1,h,b,c,f⟩
def sI(b:Expr):Prop:=∀o i,subscripted b false o i=operate [o,i] (getItem o i)
def Xy(X:Cx)(r:R2):Prop:=∀(b slice:Expr)(a:List (Addr × Obj))(s:Shared)(σ:St)(H:Hp)(x y:V)(v u:Value)(Q:VK),Inv X a σ H s->RelV x v->RelV y u->r x y H Q->subscripted slice false v u=operate [v,u] (getItem v u)->wpAny (model X.prog X.w) X.A (subscriptTail b slice v u) (EP X a σ Q) X.xe s
def MtR(X:Cx)(id:String)(r:V->List V->Hp->VK->Prop):Prop:=∀(a:List (Addr × Obj))(s:Shared)(σ:St)(H:Hp)(x:V)(xs:List V)(v:Value)(b:List Value)(Q:VK),Inv X a σ H s->RelV x v->Vals xs b->r x xs H Q->wpAny (model X.prog X.w) X.A (call (.builtin id) (v::b)) (EP X a σ Q) X.xe s
section
variable{X:Cx}{a b:Expr}{ta tb:TE}{pos:Pos}
theorem KH{r:R2}(hr:Xy X r)(e:PE X a ta)(f:PE X b tb)(hs:sI b):PE X (.Subscript a b pos) (Sh r ta tb):=by intro c s σ H Q I h;exact Subscript_ (U3 e f I h λv u s2 x y g i j k q=>hr a b c s2 σ g x y v u Q i j k q (hs _ _))
def VJ(K:PySem.W.Frag):R2:=λx y H Q=>∃p xs i v,x=.ref p/\y=.int i/\dJ K H p xs/\DY xs i=some v/\Q v H
def aav(K:PySem.W.Frag):R2:=λx y H Q=>∃p xs i v,x=.ref p/\y=.int i/\ji K H p xs/\DY xs i=some v/\Q v H
theorem zG:Xy X (VJ X.K):=by
 intro e slice c s σ H x y v u Q I m o h hs;obtain⟨p,xs,i,z,rfl,rfl,A,he,q⟩:=h;cases m;obtain⟨t,rfl⟩:=o;obtain⟨f,r,g,hz⟩:=I.list A;obtain⟨j,h1,B,M,C,E⟩:=tG he;obtain⟨w,l,G⟩:=r.get B;have J:=r.length;have N:=nP;have fin:EP X c σ Q w s:=⟨z,H,I,G,q⟩;by_cases h0:0<=i
 . have k:i.toNat=j:=by rw[seqIndex_of h0 E]at h1;exact Option.some.inj h1
   exact item_listR g.isList h0 (by omega) (by rw[k];simpa using l) fin hs
 . have k:(i+(f.toArray.size:Int)).toNat=j:=by rw[seqIndex_neg (by omega) C]at h1;rw[size_toArray,<-J];exact Option.some.inj h1
   exact subscriptTail_builtinR (x:=w) g.isList.typeIs slot_list_getitem.lookup (wpAny_getItem_list_neg (Q:=λr L=>r=w/\EP X c σ Q r L) g.isList (by omega) (by rw[size_toArray]<;>omega) (by omega) (by rw[k];simpa using l) ⟨rfl,fin⟩) hs
theorem Mg:Xy X (aav X.K):=by intro e slice c s σ H x y v u Q I g k h hs;obtain⟨p,xs,i,z,rfl,rfl,l,he,q⟩:=h;cases g;obtain⟨t,rfl⟩:=k;obtain⟨m,r,f,hz⟩:=I.tuple l;obtain⟨j,h1,o,G,J,L⟩:=tG he;obtain⟨w,A,B⟩:=r.get o;have C:=r.length;have M:=nP;have fin:EP X c σ Q w s:=⟨z,H,I,B,q⟩;exact subscriptTail_builtinR (x:=w) f.typeIs slot_tuple_getitem.lookup (getItem_tuple (j:=j) (Q:=λr E=>r=w/\EP X c σ Q r E) f (by omega) (by omega) (by rw[size_toArray,<-C];exact h1) (by simpa using A) ⟨rfl,fin⟩) hs
theorem xU(c:List Value)(n j:Nat)(u:Value):Obj.mapSeq (·.setIfInBounds j u) {cls:=.type "list",data:=.seq c.toArray n}={cls:=.type "list",data:=.seq (c.set j u).toArray n}:=by simp[Obj.mapSeq]
theorem Inv.lst{f:List (Addr×Obj)}{σ:St}{H:Hp}{s:Shared}{p:Addr}{xs:List V}(I:Inv X f σ H s)(h:H p=some (.lst xs)):∃(c:List Value)(n:Nat),Vals xs c/\s.heap.get? p=some {cls:=.type "list",data:=.seq c.toArray n}/\xs.length<=sizeLine:=by obtain⟨z,c,n,r,e⟩:=I.hok p _ h;exact⟨c,n,r,e,z⟩
theorem Inv.Qy{c:List (Addr×Obj)}{σ:St}{H:Hp}{s:Shared}{p:Addr}{xs ys:List V}{g its':List Value}{n i:Nat}{f:Obj->Obj}(I:Inv X c σ H s)(h:H p=some (.lst xs))(ho:s.heap.get? p=some {cls:=.type "list",data:=.seq g.toArray n})(j:f {cls:=.type "list",data:=.seq g.toArray n}={cls:=.type "list",data:=.seq its'.toArray i})(r:Vals ys its')(hz:ys.length<=sizeLine)(t:Nat):Inv X c σ (upd H p (.lst ys)) {s with heap:=s.heap.update p f,toks:=t}:=by
 have e:(s.heap.update p f).get? p=some {cls:=.type "list",data:=.seq its'.toArray i}:=by rw[Heap.get?_update_self f ho (by rw[j]<;>rfl),j]
 refine I.write (x:=p) (e:=p) (by rw[h];trivial) (.inl rfl) (λb u k q=>(get?_update_other _ _ (Ne.symm k)).trans q) ⟨_,e⟩ ?_;exact⟨hz,its',i,r,e⟩
def Vd:V->V->V->Hp->(Hp->Prop)->Prop:=λo i v H Q=>∃p xs k j,o=.ref p/\i=.int k/\H p=some (.lst xs)/\gw xs.length k=some j/\Q (upd H p (.lst (xs.set j v)))
theorem set_list:Oe X Vd:=by
 intro c s σ H o i v C iv u Q I y z A h;obtain⟨p,xs,k,j,rfl,rfl,l,B,q⟩:=h;cases y;obtain⟨t,rfl⟩:=z;obtain⟨e,n,r,ho,hz⟩:=I.lst l;obtain⟨h1,E,m,w⟩:=yx B;have f:=r.length;have G:=nP;have x:Inv X c σ (upd H p (.lst (xs.set j v))) {s with heap:=s.heap.update p (Obj.mapSeq (·.setIfInBounds j u))}:=I.Qy l ho (xU e n j u) (r.set A j) (by rw[List.length_set];exact hz) s.toks;by_cases h0:0<=k
 . have g:k.toNat=j:=by rw[seqIndex_of h0 w]at h1;exact Option.some.inj h1
   exact PySem.W.ki_setAt ho h0 (by omega) (by rw[size_toArray,<-f];exact w) (by rw[g];exact⟨_,x,q⟩)
 . have g:(k+(e.toArray.size:Int)).toNat=j:=by rw[seqIndex_neg (by omega) m]at h1;rw[size_toArray,<-f];exact Option.some.inj h1
   exact PySem.W.ki_setBack ho (by omega) (by rw[size_toArray,<-f];exact m) (by omega) (by rw[g];exact⟨_,x,q⟩)
theorem tK(lo hi:Option Int)(n:Nat):(sliceBounds lo hi none n).1=((HT.cF n 0 lo:Nat):Int)/\(sliceBounds lo hi none n).2.1=((HT.cF n n hi:Nat):Int)/\(sliceBounds lo hi none n).2.2=1:=by
 refine⟨?_,?_,rfl⟩;.cases lo with|none=>simp[sliceBounds,HT.cF]|some i=>
     simp only[sliceBounds,HT.cF,getD_none,show(1:Int)>0 by decide,if_true];by_cases h:i<0;.simp only[h,if_true]<;>omega
     .simp only[h,if_false]<;>omega
 .cases hi with|none=>simp[sliceBounds,HT.cF]|some i=>
     simp only[sliceBounds,HT.cF,getD_none,show(1:Int)>0 by decide,if_true];by_cases h:i<0;.simp only[h,if_true]<;>omega
     .simp only[h,if_false]<;>omega
theorem pL(c:List Value)(lo hi:Option Int):slicePick c.toArray lo hi none=((c.drop (HT.cF c.length 0 lo)).take (HT.cF c.length c.length hi-HT.cF c.length 0 lo)).toArray:=by obtain⟨h1,e,f⟩:=tK lo hi c.toArray.size;unfold slicePick;rw[h1,e,f];simp only[sliceRange_one,pick_run,size_toArray]<;>rfl
def Zk(K:PySem.W.Frag):V->Option Int->Option Int->Hp->VK->Prop:=λx lo hi H Q=>∃a xs,x=.ref a/\dJ K H a xs/\∀p,H p=none->Q (.ref p) (upd H p (.lst (vz xs lo hi)))
theorem Hc:Yj X (Zk X.K):=by intro e s σ H x v l m lo hi sl Q I f hs g i h;obtain⟨a,xs,rfl,j,q⟩:=h;cases f;obtain⟨k,r,ht,hz⟩:=I.list j;have c:=r.length;refine⟨"list",_,slot_list_getitem.lookup,ht.isList.typeIs,?_⟩;refine wpAny_getItem_list_slice ht.isList hs g i .none (by simp) ?_ (by rw[size_toArray]<;>omega);rw[pL,<-c];refine⟨.ref s.heap.objs.size,_,I.laid (t':=s.toks) (o:=.lst (vz xs lo hi)) (λb p q=>fH q) (bN) ?_,rfl,q _ (I.hok.fresh (bN))⟩;exact⟨le_trans (lR xs lo hi) hz,_,0,(r.drop (HT.cF xs.length 0 lo)).take (HT.cF xs.length xs.length hi-HT.cF xs.length 0 lo),get?_push_size _ rfl⟩
theorem tQ:cR X (.builtin "len") (λxs H Q=>∃p ys,xs=[.ref p]/\(dJ X.K H p ys\/ji X.K H p ys)/\Q (.int ys.length) H):=by
 intro g s σ H xs j Q I r h;obtain⟨p,ys,rfl,hq,q⟩:=h;obtain⟨u,rfl,i⟩:=vals1 r;cases i;have k:=nP;rcases hq with hq|hq;.obtain⟨e,r',f,hz⟩:=I.list hq;have c:=r'.length;exact Calls.call_len_list f.isList (by simp only[size_toArray]<;>omega) ⟨.int ys.length,H,I.tok _,⟨s.toks+1,by rw[size_toArray,c]⟩,q⟩
 .obtain⟨e,r',f,hz⟩:=I.tuple hq;have c:=r'.length;exact len_tuple f (by simp only[size_toArray]<;>omega) ⟨.int ys.length,H,I.tok _,⟨s.toks+1,by rw[size_toArray,c]⟩,q⟩
theorem rY:cR X (.type "list") (λxs H Q=>∃p ys,xs=[.ref p]/\(dJ X.K H p ys\/ji X.K H p ys)/\∀l,H l=none->Q (.ref l) (upd H l (.lst ys))):=by
 intro g s σ H xs t Q I r h;obtain⟨p,ys,rfl,hq,q⟩:=h;obtain⟨u,rfl,m⟩:=vals1 r;cases m;have fin:∀(c:List Value),Vals ys c->ys.length<=sizeLine->∀(h':Heap)(f:Nat),(∀b k,s.heap.get? b=some k->h'.get? b=some k)->h'.get? s.heap.objs.size=some {cls:=.type "list",dict:=none,data:=.seq c.toArray f,slots:=#[]}->EP X g σ Q (.ref s.heap.objs.size) {s with heap:=h'}:=λc r' hz h' f kp e=>⟨.ref s.heap.objs.size,_,I.laid (t':=s.toks) kp (bN) (show aX X.prog X.w _ h' _ (.lst ys)from⟨hz,c,f,r',e⟩),rfl,q _ (I.hok.fresh (bN))⟩;rcases hq with hq|hq;.obtain⟨c,r',j,hz⟩:=I.list hq;have i:=r'.length;obtain⟨o,ho,hc,n,hd⟩:=j.isList;exact call_list_seq p (.inl rfl) ho hc hd (λh' f kp e=>fin c r' hz h' f kp e) (by simp only[size_toArray]<;>omega)
 .obtain⟨c,r',j,hz⟩:=I.tuple hq;have i:=r'.length;obtain⟨o,ho,hc,n,hd⟩:=j;exact call_list_seq p (.inr rfl) ho hc hd (λh' f kp e=>fin c r' hz h' f kp e) (by simp only[size_toArray]<;>omega)
theorem jk:cR X (.type "tuple") (λxs H Q=>∃p ys,xs=[.ref p]/\((dJ X.K H p ys/\∀l,H l=none->Q (.ref l) (upd H l (.tup ys)))\/(ji X.K H p ys/\Q (.ref p) H))):=by
 intro c s σ H xs v Q I r h;obtain⟨p,ys,rfl,h⟩:=h;obtain⟨u,rfl,m⟩:=vals1 r;cases m;rcases h with⟨g,q⟩|⟨g,q⟩;.obtain⟨f,r',i,hz⟩:=I.list g;have j:=r'.length;refine call_tuple_list i.isList (λh' kp=>?_) (by simp only[size_toArray]<;>omega);have k:Inv X c σ H {s with heap:=h'}:=I.kept (t':=s.toks) kp;have t:Inv X c σ (upd H h'.objs.size (.tup ys)) {s with heap:=h'.push {cls:=.type "tuple",data:=.seq f.toArray}}:=k.laid (t':=s.toks) (λb o e=>fH e) (bN) (show aX X.prog X.w _ _ _ (.tup ys)from⟨hz,f,r',IsTup.new _ _⟩);exact⟨.ref h'.objs.size,_,t,rfl,q _ (k.hok.fresh (bN))⟩
 .obtain⟨f,r',i,hz⟩:=I.tuple g;exact call_tuple_same i ⟨.ref p,H,I,rfl,q⟩
def tyV(K:PySem.W.Frag)(T:String)(x:V)(H:Hp):Prop:=match x with|.str _=>T="str"|.int _=>T="int"|.ref p=>(T="list"/\∃xs,dJ K H p xs)\/(T="tuple"/\∃o,K.lookup p=some o/\o.cls=.type "tuple"/\o.dict=none)\/(T="dict"/\((∃kvs,H p=some (.dK kvs))\/∃kvs,H p=some (.dT kvs)))\/(T="set"/\∃S n,H p=some (.set S n))|_=>False
theorem O6{g:List (Addr×Obj)}{σ:St}{H:Hp}{s:Shared}{T:String}{x:V}{v:Value}(I:Inv X g σ H s)(r:RelV x v)(ty:tyV X.K T x H):
 s.TypeIs v T/\∀a,v=.ref a->∃j,s.heap.get? a=some j/\j.dict=none:=by cases x with|str z=>obtain⟨t,rfl⟩:=r;cases(show T="str"from ty);exact⟨typeIs_str s z t,λ_ e=>nomatch e⟩|int i=>obtain⟨t,rfl⟩:=r;cases(show T="int"from ty);exact⟨typeIs_int s i t,λ_ e=>nomatch e⟩|ref p=>
   cases r;rcases ty with⟨rfl,xs,l⟩|⟨rfl,o,f,hc,hd⟩|⟨rfl,f⟩|⟨rfl,S,n,f⟩;.obtain⟨m,_,k,_⟩:=I.list l;refine⟨k.isList.typeIs,λa e=>?_⟩;cases e;obtain⟨o,n,e,c,hd,_⟩:=k;exact⟨o,e,hd⟩
   .refine⟨⟨o,I.Ob p o f,hc⟩,λa e=>?_⟩;cases e;exact⟨o,I.Ob _ o f,hd⟩
   . have z:∃o,s.heap.get? p=some o/\o.ExactDict:=by
      rcases f with⟨kvs,f⟩|⟨kvs,f⟩;.obtain⟨_,_,_,_,o,_,_,e,ex,_⟩:=I.hok p _ f;exact⟨o,e,ex⟩
      .obtain⟨_,_,_,_,o,_,_,e,ex,_⟩:=I.hok p _ f;exact⟨o,e,ex⟩
     obtain⟨o,e,ex⟩:=z;refine⟨⟨o,e,ex.1⟩,λa h=>?_⟩;cases h;exact⟨o,e,ex.2.1⟩
   .obtain⟨o,_,_,_,e,ex,_⟩:=I.hok p _ f;refine⟨⟨o,e,ex.1⟩,λa h=>?_⟩;cases h;exact⟨o,e,ex.2.1⟩|_=>exact False.elim ty
def tBM(K:PySem.W.Frag)(T:String)(r:V->List V->Hp->VK->Prop)(to:TE)(t:TA):TE:=λσ H Q=>to σ H λx c=>tyV K T x c/\t σ c λxs e=>r x xs e Q
variable{o e:Expr}{es:List Expr}{to:TE}{t:TA}{name:Str}{apos cpos:Pos}{T id:String}{r:V->List V->Hp->VK->Prop}
theorem Gb(m:PlainAttrs T)(slot:Slot T name id)(k:typeOf (.builtin id)=pure (.type "method_descriptor"))(p:MtR X id r)(ho:PE X o to)(q:PA X (e::es) t)(g:attributeBase o name X.env (eval o X.env)=eval o X.env:=by rfl)(j:((backTo cpos (starEach (e::es) X.env)).all (λx=>!x.1)&&(backToKw cpos (keywordEach [] X.env)).all (λx=>x.1.isSome)&&decide ((e::es).length+([]:List Keyword).length+(if([]:List Keyword).isEmpty then 0 else 1)<30))=true:=by rfl)(i:(apos.endLine==cpos.line)=true:=by rfl)(hs:starEach (e::es) X.env=(false,eval e X.env)::starEach es X.env:=by rfl)(f:(backTo cpos (starEach es X.env)).any (·.1)=false:=by rfl):PE X (.Call (.Attribute o name apos) (e::es) [] cpos) (tBM X.K T r to t):=by intro c s σ H Q I h;refine wpAny_Call_method_late g j i rfl (bB (ho c s σ H _ I h) λv s1⟨x,H1,I1,r1,ty,q1⟩=>?_);obtain⟨h1,u⟩:=O6 I1 r1 ty;refine⟨T,id,m,slot,k,h1,u,?_⟩;have l:=q cpos c s1 σ H1 _ I1 q1;rw[hs]at l ⊢;refine Calls.callWith_builtin (by show(false||(backTo cpos (starEach es X.env)).any (·.1))=false;rw[f]<;>rfl) (Calls.evalArgs_plain ?_);exact bB l λw s2⟨vs,H2,I2,r2,q2⟩=>p c s2 σ H2 x vs v w Q I2 r1 r2 q2
end
def MtM(X:Cx)(id:String)(r:V->List V->Hp->VK->Prop):Prop:=∀(a:List (Addr × Obj))(s:Shared)(σ:St)(H:Hp)(x:V)(xs:List V)(v:Value)(b:List Value)(Q:VK),Inv X a σ H s->RelV x v->Vals xs b->r x xs H Q->wpAny (model X.prog X.w) X.A (call (.builtin id) (v::b)) (EP X a σ Q) X.xe s
theorem Vals.one:∀{x:V}{a:List Value},Vals [x] a->∃u,a=[u]/\RelV x u|x,a,h=>by cases h with|cons r t=>cases t;exact⟨_,rfl,r⟩
theorem Vals.two:∀{x y:V}{a:List Value},Vals [x,y] a->∃u v,a=[u,v]/\RelV x u/\RelV y v|x,y,a,h=>by cases h with|cons r t=>cases t with|cons q z=>cases z;exact⟨_,_,rfl,r,q⟩
theorem Vals.zero:∀{a:List Value},Vals [] a->a=[]|_,.nil=>rfl
theorem Vals.reverse{xs:List V}{a:List Value}(h:Vals xs a):Vals xs.reverse a.reverse:=by induction h with|nil=>exact .nil|cons r t b=>rw[reverse_cons,reverse_cons];exact Vals.append b (.cons r .nil)
theorem Vals.rep{xs:List V}{a:List Value}(h:Vals xs a):∀k:Nat,Vals (replicate k xs).flatten (replicate k a).flatten|0=>.nil|k+1=>by rw[replicate_succ,replicate_succ,flatten_cons,flatten_cons];exact Vals.append h (Vals.rep h k)
theorem foldl_rep(a:List Value):∀(k:Nat)(b:List Value),foldl (λc f=>c++f) b.toArray (replicate k a.toArray)=(b++(replicate k a).flatten).toArray
 |0,b=>by simp|k+1,b=>by
   have e:b.toArray++a.toArray=(b++a).toArray:=by simp
   have g:(b++a)++(replicate k a).flatten=b++(replicate (k+1) a).flatten:=by rw[replicate_succ,flatten_cons,append_assoc]
   rw[<-g,<-foldl_rep a k (b++a),<-e,replicate_succ,List.foldl_cons]
section
variable{X:Cx}{pins:List (Addr×Obj)}{σ:St}{H:Hp}{s:Shared}{l b:Addr}{xs ys zs:List V}
theorem Inv.Vb{a its':List Value}{f:Array Value->Array Value}{t':Nat}(I:Inv X pins σ H s)(c:H l=some (.lst xs))(e:s.heap.get? l=some {cls:=.type "list",data:=.seq a.toArray n})(g:f a.toArray=its'.toArray)(h:Vals ys its')(hz:ys.length<=sizeLine):Inv X pins σ (upd H l (.lst ys)) {s with heap:=s.heap.update l (Obj.mapSeq f),toks:=t'}:=by have q:=PySem.IsL.update e f;rw[g]at q;refine I.write (x:=l) (e:=l) (by rw[c];exact trivial) (.inl rfl) (λk u i j=>(get?_update_other s.heap (Obj.mapSeq f) (Ne.symm i)).trans j) ⟨_,q⟩ ?_;exact⟨hz,its',_,h,q⟩
theorem Inv.Mi{a:List Value}{t':Nat}(I:Inv X pins σ H s)(c:Vals ys a)(hz:ys.length<=sizeLine):Inv X pins σ (upd H s.heap.objs.size (.lst ys)) {s with heap:=s.heap.push {cls:=.type "list",data:=.seq a.toArray},toks:=t'}:=I.laid (λ_ _ q=>fH q) (bN) ⟨hz,a,0,c,get?_push_size _ rfl⟩
theorem Inv.fresh(I:Inv X pins σ H s):H s.heap.objs.size=none:=I.hok.fresh (bN)
theorem Inv.VL(I:Inv X pins σ H s)(c:H l=some (.lst xs)):xs.length<=sizeLine/\∃(a:List Value)(n:Nat),Vals xs a/\xs.length=a.length/\s.heap.get? l=some {cls:=.type "list",data:=.seq a.toArray n}:=by obtain⟨z,a,n,r,e⟩:=I.hok l _ c;exact⟨z,a,n,r,r.length,e⟩
theorem Ci(h:n<=sizeLine):listTooLong n=false:=by unfold listTooLong;exact decide_eq_false (by omega)
end
section
variable{X:Cx}
def Jp:V->List V->Hp->VK->Prop:=λx vs H Q=>∃l xs y,x=.ref l/\vs=[y]/\H l=some (.lst xs)/\xs.length<sizeLine/\Q .non (upd H l (.lst (xs++[y])))
theorem lq:MtM X "list.append" Jp:=by intro b s σ H x vs v j Q I f g h;obtain⟨l,xs,y,rfl,rfl,c,hz,q⟩:=h;cases f;obtain⟨u,rfl,i⟩:=g.one;obtain⟨z,a,n,r,k,e⟩:=I.VL c;refine call_meets F.slot_list_append ⟨_,e,rfl⟩ F.entry_list_append (F.args_list_append_2 _ _) (PySem.list_append l a.toArray n u (by rw[size_toArray];omega)) ⟨e,?_⟩;refine⟨.non,_,I.Vb (its':=a++[u]) c e (by simp) (r.append (.cons i .nil)) ?_,rfl,q⟩;rw[length_append,List.length_singleton];omega
theorem len_rep{a:Type}(xs:List a)(k:Nat):(replicate k xs).flatten.length=k*xs.length:=by induction k with|zero=>simp|succ k b=>rw[replicate_succ,flatten_cons,length_append,b,Nat.succ_mul,Nat.add_comm]
end
end L2
namespace Yw
open PySem PySem.W PySem.Calls PyProof.Rows
theorem mC{P:Params}{h:Heap}:∀(ns:List Int)(vs:List Value),WellAll P h vs (ns.map WData.int)->IntsAre vs ns:=by intro ns;induction ns with|nil=>intro vs w;rw[map_nil]at w;cases w;exact .nil|cons n ns c=>intro vs w;rw[map_cons]at w;cases w with|cons a b=>cases a;exact .cons _ _ (c _ b)
theorem Ae{l:OpenLaw}{n:Nat}(m:l.most=some n){P:Params}{h:Heap}{args:List WData}{b:List Value}(c:l.row.toRowW.claim.pre args=true)(j:WellAll P h b args):∃a vs ns,b=[Value.ref a]/\args=[WData.list (ns.map WData.int)]/\h.get? a=some {cls:=.type "list",data:=.seq vs.toArray}/\IntsAre vs ns/\ns.length<=n:=by
 have k:WShape.hasAll [] args [.list .int]=true:=(pre_splitW c).1;have hc:l.pre.holds [] {args:=args}=true:=(pre_splitW c).2;obtain⟨d,r,rfl,h1,o⟩:=hasAllW_cons k;obtain rfl:=hasAllW_nil o;obtain⟨xs,rfl,p⟩:=hasW_list h1;obtain⟨ns,rfl⟩:=items_int p;have e:ns.length<=n:=by
  unfold OpenLaw.pre at hc;have g:(WTm.not (.lt (.lit (.int (n:Int))) (.len (.arg 0)))).holds [] {args:=[.list (ns.map .int)]}=true:=by have g:=(holds_andW hc).1;rw[m]at g;exact g
  have i:=condW_of g (w_not (w_lt w_lit (w_len_list (w_arg rfl))));rw[length_map]at i;refine Nat.le_of_not_lt λq=>?_;have s:(n:Int)<((ns.length:Nat):Int):=by omega
  first|(rw[decide_eq_true s]at i;exact absurd i (by decide))|(simp at i;omega)
 cases j with|cons t u=>cases u;cases t with|list ho f=>exact⟨_,_,ns,rfl,rfl,ho,mC ns _ f,e⟩
theorem Av(l:OpenLaw)(args:List WData):l.row.toRowW.claim.post args (.bool true) args=true:=postW_of (r:=l.row.toRowW) (X:=(true==true)) (show WShape.has [] (.bool true) .bool=true by first|rfl|decide|simp[WShape.has,WShape.arms,WShape.armsAll]) (show(WTm.eq .res (.lit (.bool true))).value [] {args:=args,res:=some (.bool true),after:=args}=some (.bool (true==true))from w_eq_bool (w_res rfl) w_lit) rfl
theorem vD{l:OpenLaw}{n:Nat}{q:Program}{c:List Str}{z:(Str->Option Value)->Heap->Prop}{A:World->Heap->Prop}{d:DefRec}(H:l.most=some n)(s:d.params.defaults=[])(call:∀(w:World)(s₀ b:Shared)(mg t:Str->Option Value)(h:Addr)(o:Obj)(u m e:Value)(a:Addr)(vs:List Value)(ns:List Int),Ground q c [] z w s₀ mg t b.heap->A w b.heap->b.heap.get? h=some o->o.data=.func (docDef d.name d.params d.body d.scope u m e)->b.heap.CodeRec m d.name->mg d.name=some (.ref h)->b.heap.get? a=some {cls:=.type "list",data:=.seq vs.toArray}->IntsAre vs ns->ns.length<=n->b.gens=#[]->codeAny (model l.prog w) callerA (.call (.ref h) ⟨[.ref a],[]⟩) (λr p=>r=.ok (.ret (.bool true))/\OldK b.heap p.heap/\p.os=b.os/\AllBare p.gens) b):WalkO q c z A l.row.toRowW d [] (λf vs=>PySem.call f vs):=by intro w s₀ b mg t G Y h o u m e I kV ho hd v B x J args C as i E L y M;obtain rfl:I=.none:=Dflts.none B s;obtain rfl:kV=.none:=Dflts.noKw B;obtain⟨a,vs,ns,rfl,rfl,j,g,k⟩:=Ae H i y;refine enter_call (codeAny_mono (call w s₀ b mg t h o u m e a vs ns G Y ho (fd_plain hd) v x j g k J) λr p N=>?_);obtain⟨rfl,O,Q,U⟩:=N;exact⟨.inl ⟨.bool true,.bool true,[],rfl,λ_=>rfl,.bool true,Av l _,λ_=>⟨List.Pairwise.nil,λ_ W=>(nomatch W)⟩⟩,O,Q,U⟩
end Yw
namespace L2
open PySem PySem.Spec PyProof.Rows
theorem qd:∀{vs:List Value}{ns:List Int},IntsAre vs ns->Vals (ns.map V.int) vs|_,_,.nil=>.nil|_,_,.cons n t h=>.cons ⟨t,rfl⟩ (qd h)
def Only(H:Hp):Prop:=∀b,H b=none\/∃o xs,H b=some (.cz o (.lst xs))
theorem Fp{P:Program}{w:World}{K:PySem.W.Frag}{mg G:Str->Option Value}{CX:Ei}{k:Nat}{I a:Addr}{fd:FuncData}{x:Str}{sp:Sp}{c:Shared}{vs:List Value}{ns:List Int}(M:K.In c.heap)(l:c.heap.Ns mainGlobals mg)(f:c.heap.Ns builtinsNs G)(J:∀x:Str,x≠"__name__"->G x=bootBuiltins x)(p:c.heap.NoLimit)(Z:c.gens=#[])(C:c.heap.get? a=some {cls:=.type "list",data:=.seq vs.toArray})(hi:IntsAre vs ns)(N:ns.length<=sizeLine)(hr:gU k callerA)(F:∀base:Heap,K.In base->base.Ns mainGlobals mg->lg P w K mg base CX k I fd [x] sp)(j:∀(s:Shared)(u:Value),BindsTo s fd ⟨[u],[]⟩ [(x,u)])(hsp:∀H:Hp,Only H->dJ K H a (ns.map V.int)->sp [.ref a] H (λv _=>v=.bl true) λ_ _ _=>False)(Wf:∀H e g,CX [] H c (λ_ _ _=>False) e g->False):codeAny (model P w) callerA (.call (.ref I) ⟨[.ref a],[]⟩) (λr g=>r=.ok (.ret (.bool true))/\OldK c.heap g.heap/\g.os=c.os/\AllBare g.gens) c:=by
 have O:=qd hi;have t:=hi.length--from an abstract heap in which nothing but the script may be tracked
 have i:∀H:Hp,Only H->dJ K H a (ns.map V.int)->kW P w H c.heap->(∀b,H b≠none->b=a)->(H a≠none->K.lookup a=none)->codeAny (model P w) callerA (.call (.ref I) ⟨[.ref a],[]⟩) (λr g=>r=.ok (.ret (.bool true))/\OldK c.heap g.heap/\g.os=c.os/\AllBare g.gens) c:=by
  intro H Q hS hok U hK;have X:∀{b:Addr}{o:Obj},c.heap.get? b=some o->H b=none->(rW c.heap H).get? b=some o:=λe n=>Dr e n;have We:∀{b:Addr}{o:Obj}{es:Array DictEntry}{ep:Nat},c.heap.get? b=some o->o.data=.dict es ep->H b=none:=λ{b o es ep}e d=>by cases q:H b with|none=>rfl|some u=>have L:b=a:=U b (by rw[q];simp);subst L;rw[C]at e;cases e;have d':Data.seq vs.toArray _=Data.dict es ep:=d;cases d'
  have E:∀{b:Addr}{m:Str->Option Value},c.heap.Ns b m->(rW c.heap H).Ns b m:=λ{b m}⟨o,es,ep,e,d,r⟩=>⟨o,es,ep,X e (We e d),d,r⟩;have y:K.In (rW c.heap H):=λb o e=>X (M b o e) (by cases q:H b with|none=>rfl|some u=>have L:b=a:=U b (by rw[q];simp);subst L;rw[hK (by rw[q];simp)]at e;cases e);have hM:Mod K mg (rW c.heap H):=⟨y,E l,⟨G,E f,J⟩,let⟨mc,h1,h2⟩:=p;⟨mc,E h1,h2⟩⟩;have e0:Jl P w K mg (rW c.heap H) callerA [] c H:=⟨rfl,hM,λb o e=>Ho e,Nat.le_of_eq (Ax _ _),trivial,λb f=>absurd (show b∈([]:List Addr)from f) (by simp),hok,.of_eq Z⟩;refine codeAny_mono ((F _ y (E l)).run callerA [] c H ⟨[.ref a],[]⟩ [.ref a] [.ref a] _ _ hr e0 (j c (.ref a)) (.cons rfl .nil) (hsp H Q hS)) λr g h=>?_;cases r with|error e=>exact(Wf H e g h).elim|ok fl=>cases fl with|next=>exact False.elim h|brk=>exact False.elim h|cont=>exact False.elim h|ret u=>obtain⟨v,H',os,bare,un,A,r',q⟩:=h;have q':v=.bl true:=q;subst q';obtain rfl:u=Value.bool true:=r';refine⟨rfl,OldK.of_keep λb o e=>?_,os,bare⟩;cases q:H b with|none=>exact un.keep b o e q (by intro z;exact absurd (show b∈([]:List Addr)from z) (by simp)) (by simp)|some u=>
        rcases Q b with z|⟨ob,xs,z⟩;.rw[q]at z;cases z
        .have z2:=un.tU b ob _ z;obtain⟨Y,_⟩:=hok b _ z;obtain⟨e2,_⟩:=A b _ z2;rw[e]at Y;cases Y;exact e2
 cases hk:K.lookup a with|some o=>--the script is one of the module's own objects
   have e:=M a o hk;rw[C]at e;cases e;refine i (λ_=>none) (λ_=>.inl rfl) (.inr ⟨_,vs.toArray,_,hk,rfl,rfl,rfl,by rw[size_toArray,t];exact N,by simpa using O⟩) (λb u z=>by have B:(none:Option HO)=some u:=z;cases B) (λb z=>absurd rfl z) λz=>absurd rfl z|none=>
   refine i (λb=>if b=a then some (.cz {cls:=.type "list",data:=.seq vs.toArray} (.lst (ns.map V.int)))else none) (λb=>?_) (.inl (.inr ⟨{cls:=.type "list",data:=.seq vs.toArray},if_pos rfl⟩)) (λb u z=>?_) (λb z=>?_) λ_=>hk
   . by_cases f:b=a;.exact .inr ⟨_,_,if_pos f⟩
     .exact .inl (if_neg f)
   . by_cases f:b=a;.have B:=(if_pos f).symm.trans z;cases B;subst f;exact⟨C,by rw[length_map];exact N,vs,_,O,C⟩
     .have B:=(if_neg f).symm.trans z;cases B
   . by_cases f:b=a;.exact f
     .exact absurd (if_neg f) z
theorem Jm{l:PySem.W.OpenLaw}{n k:Nat}{q:Program}{i:List Str}{E:(Str->Option Value)->Heap->Prop}{B:World->Heap->Prop}{d:DefRec}{K:Params->PySem.W.Frag}{CX:World->Ei}{sp:World->Sp}{x:Str}(I:l.most=some n)(t:n<=sizeLine)(y:d.params.defaults=[])(hr:gU k callerA)(J:∀(w:World)(h:Heap),B w h->(K w.params).In h)(F:∀(w:World)(mg:Str->Option Value)(r:Addr)(h:Heap),(K w.params).In h->h.Ns mainGlobals mg->mg d.name=some (.ref r)->∃ fd:FuncData,(∀(s:Shared)(u:Value),BindsTo s fd ⟨[u],[]⟩ [(x,u)])/\∀base:Heap,(K w.params).In base->base.Ns mainGlobals mg->lg l.prog w (K w.params) mg base (CX w) k r fd [x] (sp w))(hsp:∀(w:World)(H:Hp)(a:Addr)(ns:List Int),ns.length<=n->Only H->dJ (K w.params) H a (ns.map V.int)->sp w [.ref a] H (λv _=>v=.bl true) λ_ _ _=>False)(L:∀(w:World)(H:Hp)(s:Shared)(e:Value)(z:Shared),CX w [] H s (λ_ _ _=>False) e z->False):PySem.W.WalkO q i E B l.row.toRowW d [] (λf vs=>PySem.call f vs):=by refine Yw.vD I y λw s₀ m mg mb r o pm cd M a vs ns G Y ho hd N A p j c O=>?_;have C:=J w _ Y;obtain⟨fd,Q,U⟩:=F w mg r _ C G.T.g A;exact Fp C G.T.g G.T.b G.T.builtins G.T.nolimit O p j (le_trans c t) hr U Q (λH X Z=>hsp w H a ns c X Z) λH e z=>L w H m e z
theorem Gq{l:PySem.W.OpenLaw}{n k:Nat}{q:Program}{b:List Str}{o:(Str->Option Value)->Heap->Prop}{j:World->Heap->Prop}{d:DefRec}{K:Params->PySem.W.Frag}{CX:Ei}{sp:PySem.W.Frag->Sp}{x:Str}(p:l.most=some n)(c:n<=sizeLine)(g:d.params.defaults=[])(hr:gU k callerA)(r:∀(w:World)(h:Heap),j w h->(K w.params).In h)(F:∀(w:World)(mg:Str->Option Value)(m:Addr)(h:Heap),(K w.params).In h->h.Ns mainGlobals mg->mg d.name=some (.ref m)->∃ fd:FuncData,(∀(s:Shared)(u:Value),BindsTo s fd ⟨[u],[]⟩ [(x,u)])/\∀base:Heap,(K w.params).In base->base.Ns mainGlobals mg->lg l.prog w (K w.params) mg base CX k m fd [x] (sp (K w.params)))(hsp:∀(K:PySem.W.Frag)(H:Hp)(a:Addr)(ns:List Int),ns.length<=n->Only H->dJ K H a (ns.map V.int)->sp K [.ref a] H (λv _=>v=.bl true) λ_ _ _=>False)(t:∀(H:Hp)(s:Shared)(e:Value)(i:Shared),CX [] H s (λ_ _ _=>False) e i->False):PySem.W.WalkO q b o j l.row.toRowW d [] (λf vs=>PySem.call f vs):=Jm (K:=K) (CX:=λ_=>CX) (sp:=λw=>sp (K w.params)) p c g hr r F (λw H a ns h1 y z=>hsp (K w.params) H a ns h1 y z) λ_ H s e i=>t H s e i
end L2
namespace L2
open PySem PySem.Spec PyProof.Rows
noncomputable def gk(s:Stmt):Arguments:=match s with|.FunctionDef _ a _ _ _ _ _ _ _ _=>a|_=>{posonlyargs:=[],args:=[],vararg:=none,kwonlyargs:=[],kw_defaults:=[],kwarg:=none,defaults:=[]}
noncomputable def dM(s:Stmt):List Stmt:=match s with|.FunctionDef _ _ b _ _ _ _ _ _ _=>b|_=>[]
noncomputable def aC(s:Stmt):Scope:=match s with|.FunctionDef _ _ _ _ _ _ a _ _ _=>a|_=>{kind:=.function,names:=[],isGenerator:=false,isCoroutine:=false}
abbrev Gm:Ei:=λ_ _ _ _ _ _=>False
abbrev E0:XK:=λ_ _ _=>False
theorem Tr{X:Cx}:Passes Gm X E0:=λ_ _ _ _ _ _ _ h=>h.elim
structure lV(K:PySem.W.Frag)(x qual:Str)(st:Stmt)(f:Addr)(fd:FuncData):Prop where
 ex:∃(oc:Value)(od:Option Addr)(kV doc pm:Value)(an:Option Addr)(cdv ct:Value)(osl:Array (Option Value)),fd=PySem.W.fnOf x qual (gk st) (dM st) (aC st) .none kV doc pm an cdv ct/\K.lookup f=some ⟨oc,od,.func fd,osl⟩/\PySem.W.codeIn K cdv qual=true
 kp:keepIn K (.ref f)=true
section
variable{P:Program}{w:World}{K:PySem.W.Frag}{mg:Str->Option Value}{base:Heap}
theorem lV.ok{x qual:Str}{st:Stmt}{f:Addr}{fd:FuncData}{N ps:List Str}{k:Nat}{sp:Sp}(F:lV K x qual st f fd)(S:aU N ps (aC st))(len:∀vs H Q E,sp vs H Q E->vs.length=ps.length)(a:∀(cdv:Value)(A:Around)(outer:List Env)(s:Shared)(H:Hp)(vs:List V)(Q:VK)(E:XK),gU k (A.deeper (envOfC qual (aC st) s.heap.objs.size f cdv))->sp vs H Q E->∃t,ug (wO Gm P w K mg base N qual (aC st) f cdv A outer s H E).Ux (dM st) t/\t {nx:=λ_ c=>Q .non c,rt:=Q} (start N vs) H):lg P w K mg base Gm (k+1) f fd ps sp:=by obtain⟨oc,i,kV,e,j,l,cdv,ct,g,rfl,lk,b⟩:=F.ex;refine Tf lk b S len λA outer s H vs Q E hr hsp=>?_;obtain⟨t,h,q⟩:=a cdv A outer s H vs Q E hr hsp;exact⟨t,h.Ux,q⟩
theorem lV.binds{x qual:Str}{st:Stmt}{f:Addr}{fd:FuncData}{ps:List Str}(F:lV K x qual st f fd)(h:∀(kV a b:Value)(c:Option Addr)(cdv ct:Value)(e:List Value),e.length=ps.length->bindArgs (PySem.W.fnOf x qual (gk st) (dM st) (aC st) .none kV a b c cdv ct) ⟨e,[]⟩=pure (ps.zip e)):Binds K fd ps []:=by obtain⟨oc,j,kV,a,b,c,cdv,ct,g,rfl,lk,i⟩:=F.ex;exact .all (h kV a b c cdv ct)
theorem Ql{x qual:Str}{st:Stmt}{f:Addr}{oc:Value}{h e:Option Addr}{b:Array (Option Value)}{kV a g cdv ct:Value}(l:K.lookup f=some ⟨oc,h,.func (PySem.W.fnOf x qual (gk st) (dM st) (aC st) .none kV a g e cdv ct),b⟩)(c:PySem.W.codeIn K cdv qual=true)(k:keepIn K (.ref f)=true):lV K x qual st f (PySem.W.fnOf x qual (gk st) (dM st) (aC st) .none kV a g e cdv ct):=⟨⟨oc,h,kV,a,g,e,cdv,ct,b,rfl,l,c⟩,k⟩
end
def aD(H a:Hp):Prop:=∀b o,H b=some o->a b=some o
theorem aD.refl(H:Hp):aD H H:=λ_ _ h=>h
theorem aD.trans{H e f:Hp}(a:aD H e)(b:aD e f):aD H f:=λc o h=>b c o (a c o h)
theorem aD.seq{K:PySem.W.Frag}{H b:Hp}{a:Addr}{xs:List V}(e:aD H b)(h:dJ K H a xs):dJ K b a xs:=by
 rcases h with(h|⟨o,h⟩)|h;.exact .inl (.inl (e _ _ h))
 .exact .inl (.inr ⟨o,e _ _ h⟩)
 .exact .inr h
end L2
end
section
namespace HH
open PySem
inductive Dc where|k(kvs:List (Int×Int))|t(kvs:List (List Int×Int))deriving DecidableEq
inductive D where|non|bl(b:Bool)|int(i:Int)|str(s:Str)|tup(ds:List D)|lst(ds:List D)|cH(m:Dc)|dv(ks:List Int)(ds:List D)deriving Inhabited
mutual
noncomputable def jb:D->D->Bool|.non,.non=>true|.bl a,.bl b=>a==b|.bl a,.int i=>(if a then(1:Int)else 0)==i|.int i,.bl a=>i==(if a then(1:Int)else 0)|.int i,.int j=>i==j|.str a,.str b=>a==b|.tup xs,.tup ys=>dG xs ys|.lst xs,.lst ys=>dG xs ys|.cH a,.cH b=>decide (a=b)|.dv a xs,.dv b ys=>decide (a=b)&&dG xs ys|_,_=>false
noncomputable def dG:List D->List D->Bool|[],[]=>true|x::xs,y::ys=>jb x y&&dG xs ys|_,_=>false
end
theorem pqi{i j}:jb (.int i) (.int j)=(i==j):=(rfl)
theorem pqt{x y}:jb (.tup x) (.tup y)=dG x y:=(rfl)
theorem Yh{x y}:jb (.lst x) (.lst y)=dG x y:=(rfl)
noncomputable def cC:Nat->D->Bool|_,.non=>true|_,.bl _=>true|_,.int _=>true|_,.str _=>true|0,.tup _=>false|0,.lst _=>false|_,.cH _=>false|_,.dv _ _=>false|n+1,.tup a=>a.all (cC n)|n+1,.lst a=>a.all (cC n)
inductive Sl where|aP|val(b:Bool)(d:D)|own(b:Bool)(ds:List D)|lent(ds:List D)|eO(m:Dc)|hold(rows:List (List D))|bV(kvs:List (Int×D))deriving Inhabited
inductive R where|val(d:D)|own(ds:List D)deriving Inhabited
noncomputable def R.d:R->D|.val d=>d|.own a=>.lst a
inductive Res(α:Type)where|ok(a:α)(ρ:List Sl)|exc(k:Nat)(ρ:List Sl)|stuck deriving Inhabited
noncomputable def Res.bind{b c:Type}(f:b->List Sl->Res c):Res b->Res c|.ok a ρ=>f a ρ|.exc _ _=>.stuck|.stuck=>.stuck
noncomputable def lift{b:Type}(o:Option b)(ρ:List Sl):Res b:=match o with|some a=>.ok a ρ|none=>.stuck
inductive Op where|add|sub|mul|fdiv|mod|pow|shl|shr|band|Bt|Yy|aa4 deriving DecidableEq
inductive Cm where|eq|ne|lt|le|gt|ge|isN|JW|inn|Wg|isT|Wi|leT deriving DecidableEq
inductive Ty where|int|bool|str|tuple|list|none deriving DecidableEq
inductive TJ where|len|list|tuple|min2|max2|Gy|sum|all|int|keys|Sy|Yz|Bu deriving DecidableEq
inductive P where|var(i:Nat)|con(d:D)|bin(o:Op)(a b:P)|neg(a:P)|not(a:P)|and(a b:P)|or(a b:P)|cmp(o:Cm)(a b:P)|Ln(c a b:P)|tup(as:List P)|lst(as:List P)|idx(a i:P)|slice(a lo hi:P)|call(f:Nat)(as:List P)|blt(b:TJ)(as:List P)|inst(ts:List Ty)(a:P)|comp(src:P)(n:Nat)(is:List Nat)(one:Bool)(test:Option P)(elt:P)|v7(a b:P)|zip(a b:P)|QH(x:Nat)(k d:P)|vw(x:Nat)|Lp(x:Nat)(k:P)|Lq(x:Nat)(k:P)(neg:Bool)|xW(k e:Int)deriving Inhabited
noncomputable abbrev lim:Nat:=16777216
noncomputable def o5:D->D->Option R|.int i,.int j=>some (.val (.int (i+j)))|.lst xs,.lst ys=>if xs.length+ys.length<=lim then some (.own (xs++ys))else none|.tup xs,.tup ys=>if xs.length+ys.length<=lim then some (.val (.tup (xs++ys)))else none|.str x,.str y=>if x.length+y.length<=lim then some (.val (.str (x++y)))else none|_,_=>none
noncomputable def nT:D->D->Option R|.int i,.int j=>if((-18446744073709551616<i/\i<18446744073709551616)\/(-18446744073709551616<j/\j<18446744073709551616))then some (.val (.int (i*j)))else none|.lst xs,.int k=>if 0<=k/\0<xs.length/\xs.length*k.toNat<=lim then some (.own (replicate k.toNat xs).flatten)else none|.tup xs,.int k=>if 0<=k/\0<xs.length/\xs.length*k.toNat<=lim then some (.val (.tup (replicate k.toNat xs).flatten))else none|_,_=>none
noncomputable def ur:D->D->Option R|.int i,.int j=>some (.val (.int (i-j)))|_,_=>none
noncomputable def ou:D->D->Option R|.int i,.int j=>if 0<j/\j<1606938044258990275541962092341162602522202993782792835301376 then some (.val (.int (i/j)))else none|_,_=>none
noncomputable def vB:D->D->Option R|.int i,.int j=>if 0<j then some (.val (.int (i%j)))else none|_,_=>none
noncomputable def uF:D->D->Option R|.int i,.int j=>if 0<=j/\j<=1000/\i.natAbs<18446744073709551616 then some (.val (.int (i^j.toNat)))else none|_,_=>none
noncomputable def Gf:D->D->Option R|.int i,.int j=>if 0<=j/\j<=1000/\i.natAbs<18446744073709551616 then some (.val (.int (i*2^j.toNat)))else none|_,_=>none
noncomputable def DX:D->D->Option R|.int i,.int j=>if 0<=j then some (.val (.int (i/2^j.toNat)))else none|_,_=>none
noncomputable def xT:D->D->Option R|.int i,.int j=>some (.val (.int (Builtin.bitAnd i j)))|_,_=>none
noncomputable def flat:D->Bool|.tup _=>false|.lst _=>false|.cH _=>false|.dv _ _=>false|_=>true
noncomputable def items:D->Option (List D)|.lst a=>some a|.tup a=>some a|_=>none
noncomputable def O2:D->Option (List D)|.tup a=>some a|_=>none
noncomputable def CZ(x y:D):Option Bool:=if cC 8 x&&cC 8 y then some (jb x y)else none
noncomputable def xM(x y:D):Option Bool:=if cC 8 x&&cC 8 y then some (!jb x y)else none
noncomputable def G7(f:Int->Int->Bool):D->D->Option Bool|.int i,.int j=>some (f i j)|_,_=>none
noncomputable def iy:D->Bool|.non=>true|_=>false
noncomputable def Xa(neg:Bool)(x:D):D->Option Bool|.non=>some (if neg then !iy x else iy x)|_=>none
noncomputable def Va(neg:Bool)(x y:D):Option Bool:=(items y).bind λys=>if(flat x&&ys.all flat)=true then some (if neg then !(ys.any λy=>jb y x)else ys.any λy=>jb y x)else none
noncomputable def cmT(neg:Bool):D->D->Option Bool|.bl b,.bl true=>some (if neg then !b else b)|_,_=>none
noncomputable def aN:List Int->List Int->Bool|[],_::_=>true|i::is,j::js=>decide (i<j)||(decide (i=j)&&aN is js)|_,[]=>false
noncomputable def pO:D->Int|.int i=>i|_=>0
noncomputable def bR:D->List Int|.int i=>[i]|.tup a=>a.map pO|_=>[]
noncomputable def eX:D->Bool|.int _=>true|_=>false
noncomputable def Dc.get:Dc->D->Option (Option Int)|.k kvs,.int i=>some ((kvs.find? λa=>decide (a.1=i)).map (·.2))|_,_=>none
noncomputable def putD{κ:Type}[DecidableEq κ](kvs:List (κ×Int))(k:κ)(v:Int):List (κ×Int):=if(kvs.any λa=>decide (a.1=k))=true then kvs.map (λa=>if a.1=k then(a.1,v)else a)else kvs++[(k,v)]
noncomputable def Dc.put:Dc->D->Int->Option Dc|.k kvs,.int i,v=>if kvs.length<lim then some (.k (putD kvs i v))else none|_,_,_=>none
noncomputable def ju(kvs:List (Int×D))(k:Int):Option D:=(kvs.find? λp=>decide (p.1=k)).map (·.2)
noncomputable def eU(kvs:List (Int×D))(k:Int)(d:D):List (Int×D):=if(kvs.any λp=>decide (p.1=k))=true then kvs.map (λp=>if p.1=k then(p.1,d)else p)else kvs++[(k,d)]
noncomputable def uX(neg:Bool):D->D->Option R|.int k,.dv ks _=>some (.val (.bl (if neg then !ks.contains k else ks.contains k)))|_,_=>none
noncomputable def yV:D->D->Option R|.cH m,k=>(m.get k).bind λo=>o.map λv=>.val (.int v)|.dv ks a,.int k=>(ju (ks.zip a) k).map .val|_,_=>none
noncomputable def pM:Op->D->D->Option R|.add=>o5|.mul=>nT|.sub=>ur|.fdiv=>ou|.mod=>vB|.pow=>uF|.shl=>Gf|.shr=>DX|.band=>xT|.Bt=>yV|.Yy=>uX false|.aa4=>uX true
noncomputable def Ud:D->D->Option Bool|.int i,.int j=>some (decide (i<j))|.tup xs,.tup ys=>if(xs.all eX&&ys.all eX)=true then some (aN (xs.map pO) (ys.map pO))else none|_,_=>none
noncomputable def aaj:D->D->Option Bool|.int i,.int j=>some (decide (i<=j))|.tup xs,.tup ys=>if(xs.all eX&&ys.all eX)=true then some (!aN (ys.map pO) (xs.map pO))else none|_,_=>none
noncomputable def cm:Cm->D->D->Option Bool|.eq=>CZ|.ne=>xM|.lt=>Ud|.le=>G7 λi j=>decide (i<=j)|.leT=>aaj|.gt=>G7 λi j=>decide (j<i)|.ge=>G7 λi j=>decide (j<=i)|.isN=>Xa false|.JW=>Xa true|.inn=>Va false|.Wg=>Va true|.isT=>cmT false|.Wi=>cmT true
noncomputable def Bf(o:Cm)(x y:D):Option R:=(cm o x y).map λk=>.val (.bl k)
noncomputable def gw(n:Nat)(i:Int):Option Nat:=if 0<=i then(if i<n then some i.toNat else none)else if-(n:Int)<=i then some (i+n).toNat else none
noncomputable def at'{a:Type}(xs:List a)(i:Int):Option a:=(gw xs.length i).bind λj=>xs[j]?
noncomputable def cF(n d:Nat):Option Int->Nat|none=>d|some i=>if 0<=i then min i.toNat n else(i+n).toNat
noncomputable def cut{a:Type}(xs:List a)(lo hi:Option Int):List a:=(xs.drop (cF xs.length 0 lo)).take (cF xs.length xs.length hi-cF xs.length 0 lo)
noncomputable def fG:D->Option Int|.int i=>some i|_=>none
noncomputable def wW:D->Option Bool|.bl b=>some b|_=>none
noncomputable def dl2(k e:Int)(x y:D):Option R:=(fG x).bind λi=>(fG y).bind λj=>if i=k then none else some (.val (.dv [k,i] [.int e,.int j]))
noncomputable def lixR:D->D->Option R|.lst a,.int i=>(a.mapM fG).bind λns=>if i∈ns/\ns.length<=1000 then some (.val (.int (ns.idxOf i)))else none|_,_=>none
noncomputable def Hm(x y:D):Option R:=(items x).bind λa=>(fG y).bind λi=>(at' a i).map .val
noncomputable def Cd(x:D):Option R:=(fG x).map λi=>.val (.int (-i))
noncomputable def Tw:P->Bool|.con .non=>true|_=>false
noncomputable def part(p:P)(d:D):Option (Option Int):=if Tw p then some none else(fG d).map some
noncomputable def J8:D->Option (Option Int)->Option (Option Int)->Option R|.lst xs,some lo,some hi=>some (.own (cut xs lo hi))|.tup xs,some lo,some hi=>some (.val (.tup (cut xs lo hi)))|_,_,_=>none
noncomputable def bI:Ty->D->Bool|.int,.int _=>true|.int,.bl _=>true|.bool,.bl _=>true|.str,.str _=>true|.tuple,.tup _=>true|.list,.lst _=>true|.none,.non=>true|_,_=>false
noncomputable def rF:D->Bool|.tup (x::xs)=>(x::xs).all eX|_=>false
noncomputable def sortable(ds:List D):Bool:=decide (ds.length<=16777216)&&(ds.all eX||ds.all rF)
noncomputable def m9(c:List D):List D:=c.mergeSort λa b=>!aN (bR b) (bR a)
noncomputable def xO:D->Option (List D)|.lst a=>some a|_=>none
noncomputable def cQ(p:Int×Int):D:=.tup [.int p.1,.int p.2]
noncomputable def blt:TJ->List D->Option R|.len,[x]=>(items x).map λa=>.val (.int a.length)|.list,[x]=>(items x).map λa=>.own a|.tuple,[x]=>(items x).map λa=>.val (.tup a)|.min2,[.int i,.int j]=>some (.val (.int (if j<i then j else i)))|.max2,[.int i,.int j]=>some (.val (.int (if i<j then j else i)))|.Gy,[x]=>((items x).bind λa=>a.mapM fG).bind λns=>ns.min?.map λi=>.val (.int i)|.sum,[x]=>((items x).bind λa=>a.mapM fG).map λns=>.val (.int ns.sum)|.all,[x]=>((xO x).bind λa=>a.mapM wW).map λbs=>.val (.bl (bs.all id))|.int,[.int i]=>some (.val (.int i))|.int,[.bl b]=>some (.val (.int (if b then 1 else 0)))|.keys,[.cH (.k kvs)]=>some (.val (.tup (kvs.map λp=>.int p.1)))|.keys,[.dv ks _]=>some (.val (.tup (ks.map D.int)))|.Sy,[.dv ks _]=>if ks.length<=16777216 then some (.own (ks.map D.int))else none|.Yz,[.lst a]=>some (.val (.tup a.reverse))|.Bu,[.cH (.k kvs)]=>if kvs.length<=16777216 then some (.own (m9 (kvs.map cQ)))else none|_,_=>none
noncomputable def pk(ρ:List Sl)(i:Nat):Option D:=match ρ[i]?with|some (.val _ d)=>some d|some (.own _ a)=>some (.lst a)|some (.lent a)=>some (.lst a)|_=>none
noncomputable def xG(ρ:List Sl)(i:Nat):Option (List D):=match pk ρ i with|some (.lst a)=>some a|_=>none
noncomputable abbrev Ev:=List Sl->Res R
noncomputable def isVar:P->Option Nat|.var i=>some i|_=>none
noncomputable def bF(i:Option Nat)(e:Ev)(ρ:List Sl):Res D:=match i with|some i=>lift (pk ρ i) ρ|none=>(e ρ).bind λr ρ=>.ok r.d ρ
noncomputable def gO(i:Option Nat)(e:Ev)(j:Option Nat)(f:Ev)(ρ:List Sl):Res (D×D):=match i with|some i=>(lift (pk ρ i) ρ).bind λ_ ρ=>(bF j f ρ).bind λy ρ=>(lift (pk ρ i) ρ).bind λx ρ=>.ok (x,y) ρ|none=>(bF none e ρ).bind λx ρ=>(bF j f ρ).bind λy ρ=>.ok (x,y) ρ
noncomputable def iH(e:Ev)(ρ:List Sl):Res Bool:=(e ρ).bind λr ρ=>lift (wW r.d) ρ
inductive Arg where|dat(d:D)|tmp(ds:List D)|dD(i:Nat)
noncomputable def uQ:R->Arg|.val d=>.dat d|.own a=>.tmp a
noncomputable def aZ(ρ:List Sl):List Arg->List Nat->Option (List Sl)|[],_=>some []|.dat d::r,a=>(aZ ρ r a).map λs=>.val false d::s|.tmp b::r,a=>(aZ ρ r a).map λs=>.own false b::s|.dD i::r,a=>match ρ[i]?with|some (.val _ d)=>(aZ ρ r a).map λs=>.val false d::s|some (.own _ b)=>if a.contains i then none else(aZ ρ r (i::a)).map λs=>.own true b::s|some (.lent b)=>if a.contains i then none else(aZ ρ r (i::a)).map λs=>.lent b::s|_=>none
noncomputable def aJ(i:Nat):List Arg->List Sl->Option Sl|.dD k::as,s::ss=>if k=i then some s else aJ i as ss|.dat _::as,_::ss=>aJ i as ss|.tmp _::as,_::ss=>aJ i as ss|_,_=>none
noncomputable def cZ:Sl->Option Sl->Sl|.own b _,some (.own _ a)=>.own b a|.own b _,some (.val _ d)=>.val b d|s,_=>s
noncomputable def bY(as:List Arg)(ss:List Sl):Nat->List Sl->List Sl|_,[]=>[]|i,s::ρ=>cZ s (aJ i as ss)::bY as ss (i+1) ρ
noncomputable abbrev Call:=Nat->List Sl->Res R
noncomputable def o4(c:Call)(f:Nat)(as:List Arg)(ρ:List Sl):Res R:=match aZ ρ as []with|none=>.stuck|some args=>match c f args with|.ok r a=>.ok r (bY as a 0 ρ)|.exc _ _=>.stuck|.stuck=>.stuck
noncomputable def put(ρ:List Sl)(i:Nat)(s:Sl):Option (List Sl):=match ρ[i]?with|some .aP=>some (ρ.set i s)|some (.val false _)=>some (ρ.set i s)|some (.own false _)=>some (ρ.set i s)|_=>none
noncomputable def putAll(ρ:List Sl):List Nat->List D->Option (List Sl)|[],[]=>some ρ|i::is,d::a=>(put ρ i (.val false d)).bind λρ=>putAll ρ is a|_,_=>none
noncomputable def bQ(ρ:List Sl)(is:List Nat)(one:Bool)(d:D):Option (List Sl):=match one,is,d with|true,[i],d=>put ρ i (.val false d)|false,is,.tup a=>putAll ρ is a|_,_,_=>none
noncomputable def srcOf(i:Option Nat)(e:Ev)(ρ:List Sl):Res (List D):=match i with
 |some i=>match ρ[i]?with|some (.val _ d)=>lift (items d) ρ|some (.own _ a)=>.ok a (ρ.set i (.lent a))|some (.lent a)=>.ok a ρ|_=>.stuck
 |none=>(e ρ).bind λr ρ=>lift (items r.d) ρ
noncomputable def aO(a:List Sl)(i:Option Nat)(ρ:List Sl):List Sl:=match i with
 |some i=>match a[i]?with|some (.own b c)=>ρ.set i (.own b c)|_=>ρ
 |none=>ρ
noncomputable def srcY(i:Nat)(f:Ev)(ρ:List Sl):Res (List D×List Sl):=(f ρ).bind λr a=>(lift (items r.d) a).bind λes a=>match a[i]?with|some (.val _ d)=>(lift (items d) a).bind λb a=>.ok ((es.zip b).map λp=>D.tup [p.1,p.2],a) a|some (.own _ b)=>.ok ((es.zip b).map λp=>D.tup [p.1,p.2],a) (a.set i (.lent b))|some (.lent b)=>.ok ((es.zip b).map λp=>D.tup [p.1,p.2],a) a|_=>.stuck
noncomputable def turns(is:List Nat)(one:Bool)(a:List Sl->Res Bool)(e:Ev):List D->List D->List Sl->Res (List D)|[],c,ρ=>.ok c ρ|d::r,c,ρ=>match bQ ρ is one d with|none=>.stuck|some ρ=>(a ρ).bind λb ρ=>if b then(e ρ).bind λx ρ=>turns is one a e r (c++[x.d]) ρ else turns is one a e r c ρ
mutual
noncomputable def ev(c:Call):P->List Sl->Res R
 |.var i,ρ=>match ρ[i]?with|some (.val _ d)=>.ok (.val d) ρ|some (.own b g)=>.ok (.val (.lst g)) (ρ.set i (.val b (.lst g)))|some (.eO (.k kvs))=>.ok (.val (.cH (.k kvs))) (ρ.set i (.val false (.cH (.k kvs))))|some (.bV kvs)=>.ok (.val (.dv (kvs.map (·.1)) (kvs.map (·.2)))) (ρ.set i (.val false (.dv (kvs.map (·.1)) (kvs.map (·.2)))))|_=>.stuck
 |.con d,ρ=>.ok (.val d) ρ|.bin o a b,ρ=>(gO (isVar a) (ev c a) (isVar b) (ev c b) ρ).bind λq ρ=>lift (pM o q.1 q.2) ρ|.neg a,ρ=>(bF (isVar a) (ev c a) ρ).bind λx ρ=>lift (Cd x) ρ|.not a,ρ=>(iH (ev c a) ρ).bind λb ρ=>.ok (.val (.bl (!b))) ρ|.and a b,ρ=>(iH (ev c a) ρ).bind λx ρ=>if x then(iH (ev c b) ρ).bind λy ρ=>.ok (.val (.bl y)) ρ else .ok (.val (.bl false)) ρ|.or a b,ρ=>(iH (ev c a) ρ).bind λx ρ=>if x then .ok (.val (.bl true)) ρ else(iH (ev c b) ρ).bind λy ρ=>.ok (.val (.bl y)) ρ|.cmp o a b,ρ=>(gO (isVar a) (ev c a) (isVar b) (ev c b) ρ).bind λq ρ=>lift (Bf o q.1 q.2) ρ|.Ln t a b,ρ=>(iH (ev c t) ρ).bind λk ρ=>if k then(ev c a ρ).bind λr ρ=>.ok (.val r.d) ρ else(ev c b ρ).bind λr ρ=>.ok (.val r.d) ρ|.tup as,ρ=>(evs c as ρ).bind λg ρ=>.ok (.val (.tup g)) ρ|.lst as,ρ=>(evs c as ρ).bind λg ρ=>.ok (.own g) ρ|.idx a i,ρ=>(gO (isVar a) (ev c a) (isVar i) (ev c i) ρ).bind λq ρ=>lift (Hm q.1 q.2) ρ|.slice a l h,ρ=>match isVar a with|some i=>(lift (pk ρ i) ρ).bind λ_ ρ=>(bF (isVar l) (ev c l) ρ).bind λy ρ=>(bF (isVar h) (ev c h) ρ).bind λz ρ=>(lift (pk ρ i) ρ).bind λx ρ=>lift (J8 x (part l y) (part h z)) ρ|none=>(bF none (ev c a) ρ).bind λx ρ=>(bF (isVar l) (ev c l) ρ).bind λy ρ=>(bF (isVar h) (ev c h) ρ).bind λz ρ=>lift (J8 x (part l y) (part h z)) ρ
 |.call f as,ρ=>(v5 c as ρ).bind λxs ρ=>o4 c f xs ρ|.blt b [a],ρ=>(bF (isVar a) (ev c a) ρ).bind λx ρ=>lift (blt b [x]) ρ|.blt b as,ρ=>(evs c as ρ).bind λg ρ=>lift (blt b g) ρ|.inst C a,ρ=>(bF (isVar a) (ev c a) ρ).bind λx ρ=>.ok (.val (.bl (C.any λt=>bI t x))) ρ|.comp src n is one w B,ρ=>(srcOf (isVar src) (ev c src) ρ).bind λg s=>if g.length<=lim then(turns is one (vh c w) (ev c B) g [] (s++replicate n .aP)).bind λxs u=>.ok (.own xs) (aO ρ (isVar src) (u.take s.length))else .stuck|.v7 a b,ρ=>(gO (isVar a) (ev c a) (isVar b) (ev c b) ρ).bind λq ρ=>lift ((fG q.1).bind λi=>(fG q.2).bind λj=>if-1000000<=i/\i<=1000000000/\j<=1000000000/\-1000000000<=j then some (.val (.lst ((List.range (j-i).toNat).map λ(k:Nat)=>D.int (i+(k:Int)))))else none) ρ|.zip a b,ρ=>(ev c a ρ).bind λx ρ=>(ev c b ρ).bind λy ρ=>lift ((items x.d).bind λg=>(items y.d).map λes=>.val (.lst ((g.zip es).map λp=>D.tup [p.1,p.2]))) ρ|.QH x k d,ρ=>match ρ[x]?with
   |some (.eO _)=>(bF (isVar k) (ev c k) ρ).bind λA ρ=>(bF (isVar d) (ev c d) ρ).bind λE ρ=>match ρ[x]?with|some (.eO m)=>lift ((m.get A).bind λo=>(fG E).map λv=>.val (.int (o.getD v))) ρ|_=>.stuck
   |_=>.stuck
 |.vw x,ρ=>match ρ[x]?with|some (.eO m)=>.ok (.val (.cH m)) (ρ.set x (.val false (.cH m)))|some (.bV kvs)=>.ok (.val (.dv (kvs.map (·.1)) (kvs.map (·.2)))) (ρ.set x (.val false (.dv (kvs.map (·.1)) (kvs.map (·.2)))))|some (.own b g)=>.ok (.val (.lst g)) (ρ.set x (.val b (.lst g)))|some (.val _ d)=>.ok (.val d) ρ|_=>.stuck
 |.Lp x k,ρ=>match ρ[x]?with
   |some (.bV _)=>(bF (isVar k) (ev c k) ρ).bind λA ρ=>match ρ[x]?with|some (.bV kvs)=>lift ((fG A).bind λk=>(ju kvs k).map .val) ρ|_=>.stuck
   |_=>.stuck
 |.Lq x k neg,ρ=>(bF (isVar k) (ev c k) ρ).bind λA ρ=>match ρ[x]?with|some (.bV kvs)=>lift ((fG A).map λk=>.val (.bl (if neg then !(kvs.map (·.1)).contains k else(kvs.map (·.1)).contains k))) ρ|_=>.stuck
 |.xW k e,ρ=>.ok (.val (.dv [k] [.int e])) ρ
noncomputable def evs(c:Call):List P->List Sl->Res (List D)|[],ρ=>.ok [] ρ|a::r,ρ=>(ev c a ρ).bind λx ρ=>(evs c r ρ).bind λxs ρ=>.ok (x.d::xs) ρ
noncomputable def v5(c:Call):List P->List Sl->Res (List Arg)|[],ρ=>.ok [] ρ|a::r,ρ=>match isVar a with|some i=>(lift (pk ρ i) ρ).bind λ_ ρ=>(v5 c r ρ).bind λxs ρ=>.ok (.dD i::xs) ρ|none=>(ev c a ρ).bind λx ρ=>(v5 c r ρ).bind λxs ρ=>.ok (uQ x::xs) ρ
noncomputable def vh(c:Call):Option P->List Sl->Res Bool|none,ρ=>.ok true ρ|some t,ρ=>iH (ev c t) ρ
end
theorem E1{c i ρ}:ev c (.var i) ρ=match ρ[i]?with|some (.val _ d)=>.ok (.val d) ρ|some (.own b a)=>.ok (.val (.lst a)) (ρ.set i (.val b (.lst a)))|some (.eO (.k kvs))=>.ok (.val (.cH (.k kvs))) (ρ.set i (.val false (.cH (.k kvs))))|some (.bV kvs)=>.ok (.val (.dv (kvs.map (·.1)) (kvs.map (·.2)))) (ρ.set i (.val false (.dv (kvs.map (·.1)) (kvs.map (·.2)))))|_=>.stuck:=(rfl)
theorem E2{c d ρ}:ev c (.con d) ρ=.ok (.val d) ρ:=(rfl)
theorem E3{c o a b ρ}:ev c (.bin o a b) ρ=(gO (isVar a) (ev c a) (isVar b) (ev c b) ρ).bind λe ρ=>lift (pM o e.1 e.2) ρ:=(rfl)
theorem E4{c a ρ}:ev c (.neg a) ρ=(bF (isVar a) (ev c a) ρ).bind λx ρ=>lift (Cd x) ρ:=(rfl)
theorem E5{c a ρ}:ev c (.not a) ρ=(iH (ev c a) ρ).bind λb ρ=>.ok (.val (.bl (!b))) ρ:=(rfl)
theorem E6{c a b ρ}:ev c (.and a b) ρ=(iH (ev c a) ρ).bind λx ρ=>if x then(iH (ev c b) ρ).bind λy ρ=>.ok (.val (.bl y)) ρ else .ok (.val (.bl false)) ρ:=(rfl)
theorem E7{c a b ρ}:ev c (.or a b) ρ=(iH (ev c a) ρ).bind λx ρ=>if x then .ok (.val (.bl true)) ρ else(iH (ev c b) ρ).bind λy ρ=>.ok (.val (.bl y)) ρ:=(rfl)
theorem E8{c o a b ρ}:ev c (.cmp o a b) ρ=(gO (isVar a) (ev c a) (isVar b) (ev c b) ρ).bind λe ρ=>lift (Bf o e.1 e.2) ρ:=(rfl)
theorem E9{c t a b ρ}:ev c (.Ln t a b) ρ=(iH (ev c t) ρ).bind λk ρ=>if k then(ev c a ρ).bind λr ρ=>.ok (.val r.d) ρ else(ev c b ρ).bind λr ρ=>.ok (.val r.d) ρ:=(rfl)
theorem E10{c as ρ}:ev c (.tup as) ρ=(evs c as ρ).bind λa ρ=>.ok (.val (.tup a)) ρ:=(rfl)
theorem E11{c as ρ}:ev c (.lst as) ρ=(evs c as ρ).bind λa ρ=>.ok (.own a) ρ:=(rfl)
theorem E12{c a i ρ}:ev c (.idx a i) ρ=(gO (isVar a) (ev c a) (isVar i) (ev c i) ρ).bind λb ρ=>lift (Hm b.1 b.2) ρ:=(rfl)
theorem E13{c a l h ρ}:ev c (.slice a l h) ρ=match isVar a with|some i=>(lift (pk ρ i) ρ).bind λ_ ρ=>(bF (isVar l) (ev c l) ρ).bind λy ρ=>(bF (isVar h) (ev c h) ρ).bind λz ρ=>(lift (pk ρ i) ρ).bind λx ρ=>lift (J8 x (part l y) (part h z)) ρ|none=>(bF none (ev c a) ρ).bind λx ρ=>(bF (isVar l) (ev c l) ρ).bind λy ρ=>(bF (isVar h) (ev c h) ρ).bind λz ρ=>lift (J8 x (part l y) (part h z)) ρ:=(rfl)
theorem E14{c f as ρ}:ev c (.call f as) ρ=(v5 c as ρ).bind λxs ρ=>o4 c f xs ρ:=(rfl)
theorem E15{c b a ρ}:ev c (.blt b [a]) ρ=(bF (isVar a) (ev c a) ρ).bind λx ρ=>lift (blt b [x]) ρ:=(rfl)
theorem E16{c b x y r ρ}:ev c (.blt b (x::y::r)) ρ=(evs c (x::y::r) ρ).bind λa ρ=>lift (blt b a) ρ:=(rfl)
theorem TX{c b ρ}:ev c (.blt b []) ρ=(evs c [] ρ).bind λa ρ=>lift (blt b a) ρ:=(rfl)
theorem E17{c ts a ρ}:ev c (.inst ts a) ρ=(bF (isVar a) (ev c a) ρ).bind λx ρ=>.ok (.val (.bl (ts.any λt=>bI t x))) ρ:=(rfl)
theorem E18{c src n is one test elt ρ}:ev c (.comp src n is one test elt) ρ=(srcOf (isVar src) (ev c src) ρ).bind λe a=>if e.length<=lim then(turns is one (vh c test) (ev c elt) e [] (a++replicate n .aP)).bind λxs b=>.ok (.own xs) (aO ρ (isVar src) (b.take a.length))else .stuck:=(rfl)
theorem E19{c a b ρ}:ev c (.v7 a b) ρ=(gO (isVar a) (ev c a) (isVar b) (ev c b) ρ).bind λe ρ=>lift ((fG e.1).bind λi=>(fG e.2).bind λj=>if-1000000<=i/\i<=1000000000/\j<=1000000000/\-1000000000<=j then some (.val (.lst ((List.range (j-i).toNat).map λ(k:Nat)=>D.int (i+(k:Int)))))else none) ρ:=(rfl)
theorem E20{c a b ρ}:ev c (.zip a b) ρ=(ev c a ρ).bind λx ρ=>(ev c b ρ).bind λy ρ=>lift ((items x.d).bind λe=>(items y.d).map λes=>.val (.lst ((e.zip es).map λp=>D.tup [p.1,p.2]))) ρ:=(rfl)
theorem E21{c x k d ρ}:ev c (.QH x k d) ρ=match ρ[x]?with
 |some (.eO _)=>(bF (isVar k) (ev c k) ρ).bind λa ρ=>(bF (isVar d) (ev c d) ρ).bind λb ρ=>match ρ[x]?with|some (.eO m)=>lift ((m.get a).bind λo=>(fG b).map λv=>.val (.int (o.getD v))) ρ|_=>.stuck
 |_=>.stuck:=(rfl)
theorem E22{c x ρ}:ev c (.vw x) ρ=match ρ[x]?with|some (.eO m)=>.ok (.val (.cH m)) (ρ.set x (.val false (.cH m)))|some (.bV kvs)=>.ok (.val (.dv (kvs.map (·.1)) (kvs.map (·.2)))) (ρ.set x (.val false (.dv (kvs.map (·.1)) (kvs.map (·.2)))))|some (.own b a)=>.ok (.val (.lst a)) (ρ.set x (.val b (.lst a)))|some (.val _ d)=>.ok (.val d) ρ|_=>.stuck:=(rfl)
theorem E23{c x k ρ}:ev c (.Lp x k) ρ=match ρ[x]?with
 |some (.bV _)=>(bF (isVar k) (ev c k) ρ).bind λa ρ=>match ρ[x]?with|some (.bV kvs)=>lift ((fG a).bind λk=>(ju kvs k).map .val) ρ|_=>.stuck
 |_=>.stuck:=(rfl)
theorem E24{c x k neg ρ}:ev c (.Lq x k neg) ρ=(bF (isVar k) (ev c k) ρ).bind λa ρ=>match ρ[x]?with|some (.bV kvs)=>lift ((fG a).map λk=>.val (.bl (if neg then !(kvs.map (·.1)).contains k else(kvs.map (·.1)).contains k))) ρ|_=>.stuck:=(rfl)
theorem E25{c k e ρ}:ev c (.xW k e) ρ=.ok (.val (.dv [k] [.int e])) ρ:=(rfl)
inductive S where|pass|brk|cont|bad|expr(e:P)|asg(i:Nat)(e:P)|YB(i:List Nat)(e:P)|Bv(x:Nat)(i e:P)|app(x:Nat)(e:P)|ret(e:P)|Wj|ifs(c:P)(a b:List S)|jf(src:P)(i:List Nat)(one:Bool)(body:List S)|whl(c:P)(body:List S)|Gz(x:Nat)(i:P)(sub:Bool)(e:P)|Bw(x:Nat)(t:Bool)|dput(x:Nat)(k e:P)|ins(x:Nat)(i e:P)|GC(x:Nat)(src:P)(k:Nat)(is:List Nat)(one:Bool)(elt:P)|GD(x:Nat)(i e:P)|Bx(src:P)(is:List Nat)(one:Bool)(body:List S)|cz(x:Nat)|By(x:Nat)|eU(x:Nat)(k e:P)deriving Inhabited
inductive Fl where|next|brk|cont|ret(r:R)deriving Inhabited
noncomputable def xu:R->Sl|.val d=>.val false d|.own a=>.own false a
noncomputable def fM(is:List Nat)(one:Bool)(body:List Sl->Res Fl):List D->List Sl->Res Fl|[],ρ=>.ok .next ρ|d::r,ρ=>match bQ ρ is one d with|none=>.stuck|some ρ=>(body ρ).bind λfl ρ=>match fl with|.next=>fM is one body r ρ|.cont=>fM is one body r ρ|.brk=>.ok .next ρ|.ret r=>.ok (.ret r) ρ
noncomputable def pN(a:List Sl->Res Bool)(body:List Sl->Res Fl):Nat->List Sl->Res Fl|0,_=>.stuck|n+1,ρ=>(a ρ).bind λb ρ=>if b then(body ρ).bind λfl ρ=>match fl with|.next=>pN a body n ρ|.cont=>pN a body n ρ|.brk=>.ok .next ρ|.ret r=>.ok (.ret r) ρ else .ok .next ρ
noncomputable def dH(is:List Nat)(one:Bool)(b:Ev):List D->List (List D)->List Sl->Res (List (List D))|[],a,ρ=>.ok a ρ|d::r,a,ρ=>match bQ ρ is one d with|none=>.stuck|some ρ=>(b ρ).bind λx ρ=>match x with|.own c=>dH is one b r (a++[c]) ρ|.val _=>.stuck
noncomputable def rowAt(a:List (List D))(k:Int):Option (List D):=(gw a.length k).bind λr=>a[r]?
noncomputable def ir(a:List (List D))(k:Int)(f:List D->Option (List D)):Option (List (List D)):=(gw a.length k).bind λr=>(a[r]?).bind λrow=>(f row).map λb=>a.set r b
noncomputable def setAt(l:Int)(d:D)(row:List D):Option (List D):=(gw row.length l).map λm=>row.set m d
noncomputable def gA(ρ:List Sl)(x:Nat):Option (List (List D)):=match ρ[x]?with|some (.hold a)=>some a|_=>none
noncomputable def sV(ρ:List Sl)(x:Nat)(k:D):Option (List D):=(gA ρ x).bind λa=>(fG k).bind λk=>rowAt a k
noncomputable def Be(ρ:List Sl)(x:Nat)(o:Option (List (List D))):Res Fl:=match o with|some a=>.ok .next (ρ.set x (.hold a))|none=>.stuck
noncomputable def rowOne(x r:Nat)(b c e:List Sl->Res D)(ρ:List Sl):Res Fl:=(c ρ).bind λk ρ=>(lift ((gA ρ x).bind λa=>(a[r]?).bind λrow=>(fG k).bind λk=>(at' row k).bind fG) ρ).bind λu ρ=>(e ρ).bind λl ρ=>(lift ((gA ρ x).bind λa=>(a[r]?).bind λrow=>(fG l).bind λl=>(at' row l).bind fG) ρ).bind λv ρ=>(b ρ).bind λj ρ=>Be ρ x ((gA ρ x).bind λa=>(a[r]?).bind λrow=>(fG j).bind λj=>(setAt j (.int (u+v)) row).map λf=>a.set r f)
noncomputable def Nm(x y:Nat)(a b c:List Sl->Res D):Nat->Nat->List Sl->Res Fl|0,_,ρ=>.ok .next ρ|m+1,r,ρ=>(lift (put ρ y .aP) ρ).bind λρ _=>(rowOne x r a b c ρ).bind λ_ ρ=>Nm x y a b c m (r+1) ρ
noncomputable def Mf(is:List Nat)(one:Bool)(body:List Sl->Res Fl)(b:List Sl->Option (Nat×List Sl)):List D->List Sl->Option (Nat×List Sl)|[],_=>none|d::r,ρ=>match bQ ρ is one d with|none=>none|some ρ=>match b ρ with|some x=>some x|none=>match body ρ with|.ok .next a=>Mf is one body b r a|.ok .cont a=>Mf is one body b r a|_=>none
noncomputable def Nj:P->P|.idx a _=>a|e=>e
noncomputable def Ky(c:Call)(e:P)(ρ:List Sl):Option (Nat×List Sl):=match Nj e with
 |.call f as=>match v5 c as ρ with
   |.ok xs b=>match aZ b xs []with
     |some args=>match c f args with|.exc k a=>some (k,bY xs a 0 b)|_=>none
     |none=>none
   |_=>none
 |_=>none
mutual
noncomputable def ex(c:Call)(n:Nat):S->List Sl->Res Fl
 |.pass,ρ=>.ok .next ρ|.brk,ρ=>.ok .brk ρ|.cont,ρ=>.ok .cont ρ|.bad,_=>.stuck|.expr e,ρ=>(ev c e ρ).bind λ_ ρ=>.ok .next ρ|.asg i e,ρ=>(ev c e ρ).bind λr ρ=>(lift (put ρ i (xu r)) ρ).bind λp _=>.ok .next p|.YB is e,ρ=>(ev c e ρ).bind λr ρ=>match r.d with|.tup g=>(lift (putAll ρ is g) ρ).bind λp _=>.ok .next p|_=>.stuck
 |.Bv x i e,ρ=>(ev c e ρ).bind λr ρ=>(lift (pk ρ x) ρ).bind λ_ ρ=>(bF (isVar i) (ev c i) ρ).bind λk ρ=>match ρ[x]?,k with
   |some (.own b g),.int k=>match gw g.length k with|some j=>.ok .next (ρ.set x (.own b (g.set j r.d)))|none=>.stuck
   |_,_=>.stuck
 |.app x e,ρ=>(lift (xG ρ x) ρ).bind λ_ ρ=>(ev c e ρ).bind λr ρ=>match ρ[x]?with|some (.own b g)=>if g.length<lim then .ok .next (ρ.set x (.own b (g++[r.d])))else .stuck|_=>.stuck
 |.ret e,ρ=>match isVar e with
   |some i=>match ρ[i]?with|some (.own false g)=>.ok (.ret (.own g)) (ρ.set i .aP)|_=>(ev c e ρ).bind λr ρ=>.ok (.ret r) ρ
   |none=>(ev c e ρ).bind λr ρ=>.ok (.ret r) ρ
 |.Wj,ρ=>.ok (.ret (.val .non)) ρ|.ifs t a b,ρ=>(iH (ev c t) ρ).bind λk ρ=>if k then fU c n a ρ else fU c n b ρ|.jf src is one body,ρ=>(srcOf (isVar src) (ev c src) ρ).bind λg f=>(fM is one (fU c n body) g f).bind λfl o=>.ok fl (aO ρ (isVar src) o)|.whl t body,ρ=>pN (iH (ev c t)) (fU c n body) n ρ|.Gz x i sub e,ρ=>(lift (xG ρ x) ρ).bind λ_ ρ=>(bF (isVar i) (ev c i) ρ).bind λk ρ=>(lift (xG ρ x) ρ).bind λl ρ=>(lift ((fG k).bind λi=>at' l i) ρ).bind λa ρ=>(bF (isVar e) (ev c e) ρ).bind λb ρ=>match a,b,ρ[x]?,k with
   |.int u,.int v,some (.own bb g),.int k=>match gw g.length k with|some j=>.ok .next (ρ.set x (.own bb (g.set j (.int (if sub then u-v else u+v)))))|none=>.stuck
   |_,_,_,_=>.stuck
 |.Bw x t,ρ=>match ρ[x]?with|some .aP=>.ok .next (ρ.set x (.eO (if t then .t []else .k [])))|_=>.stuck
 |.dput x k e,ρ=>(ev c e ρ).bind λr ρ=>match ρ[x]?with
   |some (.eO _)=>(bF (isVar k) (ev c k) ρ).bind λq ρ=>match ρ[x]?,r with
     |some (.eO m),.val (.int v)=>match m.put q v with|some w=>.ok .next (ρ.set x (.eO w))|none=>.stuck
     |_,_=>.stuck
   |_=>.stuck
 |.ins x i e,ρ=>(lift (xG ρ x) ρ).bind λ_ ρ=>(bF (isVar i) (ev c i) ρ).bind λk ρ=>(ev c e ρ).bind λr ρ=>match ρ[x]?,k with|some (.own b g),.int j=>if 0<=j/\j<=1000000/\g.length<lim then .ok .next (ρ.set x (.own b (g.take j.toNat++r.d::g.drop j.toNat)))else .stuck|_,_=>.stuck
 |.GC x src k is one s,ρ=>(srcOf (isVar src) (ev c src) ρ).bind λg f=>if g.length<=lim then(dH is one (ev c s) g [] (f++replicate k .aP)).bind λh o=>(lift (put (aO ρ (isVar src) (o.take f.length)) x (.hold h)) ρ).bind λp _=>.ok .next p else .stuck|.GD x i e,ρ=>(bF (isVar i) (ev c i) ρ).bind λk ρ=>(lift (sV ρ x k) ρ).bind λ_ ρ=>(ev c e ρ).bind λr ρ=>Be ρ x ((gA ρ x).bind λh=>(fG k).bind λk=>ir h k λrow=>if row.length<lim then some (row++[r.d])else none)|.Bx src is one body,ρ=>(ev c src ρ).bind λr f=>(lift (items r.d) f).bind λg f=>fM is one (fU c n body) g f|.cz x,ρ=>match ρ[x]?with|some (.hold h)=>.ok .next (ρ.set x (.val false (.lst (h.map D.lst))))|_=>.stuck
 |.By x,ρ=>match ρ[x]?with|some .aP=>.ok .next (ρ.set x (.bV []))|some (.bV _)=>.ok .next (ρ.set x (.bV []))|some (.val false _)=>.ok .next (ρ.set x (.bV []))|_=>.stuck
 |.eU x k e,ρ=>(ev c e ρ).bind λr ρ=>match ρ[x]?with
   |some (.bV _)=>(bF (isVar k) (ev c k) ρ).bind λq ρ=>match ρ[x]?,q with|some (.bV kvs),.int k=>if kvs.length<lim then .ok .next (ρ.set x (.bV (eU kvs k r.d)))else .stuck|_,_=>.stuck
   |_=>.stuck
noncomputable def fU(c:Call)(n:Nat):List S->List Sl->Res Fl|[],ρ=>.ok .next ρ|s::r,ρ=>(ex c n s ρ).bind λfl ρ=>match fl with|.next=>fU c n r ρ|fl=>.ok fl ρ
noncomputable def exX(c:Call)(n:Nat):S->List Sl->Option (Nat×List Sl)
 |.ifs t a b,ρ=>match iH (ev c t) ρ with|.ok x f=>if x then CG c n a f else CG c n b f|_=>none
 |.jf src is one body,ρ=>match srcOf (isVar src) (ev c src) ρ with|.ok g f=>(Mf is one (fU c n body) (CG c n body) g f).map λx=>(x.1,aO ρ (isVar src) x.2)|_=>none
 |.asg _ e,ρ=>Ky c e ρ|.expr e,ρ=>Ky c e ρ|_,_=>none
noncomputable def CG(c:Call)(n:Nat):List S->List Sl->Option (Nat×List Sl)|[],_=>none|s::r,ρ=>match exX c n s ρ with|some x=>some x|none=>match ex c n s ρ with|.ok .next a=>CG c n r a|_=>none
end
theorem X1{c n ρ}:ex c n (.pass) ρ=.ok .next ρ:=(rfl)
theorem X2{c n ρ}:ex c n (.brk) ρ=.ok .brk ρ:=(rfl)
theorem X3{c n ρ}:ex c n (.cont) ρ=.ok .cont ρ:=(rfl)
theorem X4{c n ρ}:ex c n (.bad) ρ=.stuck:=(rfl)
theorem X5{c n e ρ}:ex c n (.expr e) ρ=(ev c e ρ).bind λ_ ρ=>.ok .next ρ:=(rfl)
theorem X6{c n i e ρ}:ex c n (.asg i e) ρ=(ev c e ρ).bind λr ρ=>(lift (put ρ i (xu r)) ρ).bind λa _=>.ok .next a:=(rfl)
theorem X7{c n is e ρ}:ex c n (.YB is e) ρ=(ev c e ρ).bind λr ρ=>match r.d with|.tup b=>(lift (putAll ρ is b) ρ).bind λa _=>.ok .next a|_=>.stuck:=(rfl)
theorem X8{c n x i e ρ}:ex c n (.Bv x i e) ρ=(ev c e ρ).bind λr ρ=>(lift (pk ρ x) ρ).bind λ_ ρ=>(bF (isVar i) (ev c i) ρ).bind λk ρ=>match ρ[x]?,k with
 |some (.own b a),.int k=>match gw a.length k with|some j=>.ok .next (ρ.set x (.own b (a.set j r.d)))|none=>.stuck
 |_,_=>.stuck:=(rfl)
theorem X9{c n x e ρ}:ex c n (.app x e) ρ=(lift (xG ρ x) ρ).bind λ_ ρ=>(ev c e ρ).bind λr ρ=>match ρ[x]?with|some (.own b a)=>if a.length<lim then .ok .next (ρ.set x (.own b (a++[r.d])))else .stuck|_=>.stuck:=(rfl)
theorem Xf{c n e ρ}:ex c n (.ret e) ρ=match isVar e with
 |some i=>match ρ[i]?with|some (.own false a)=>.ok (.ret (.own a)) (ρ.set i .aP)|_=>(ev c e ρ).bind λr ρ=>.ok (.ret r) ρ
 |none=>(ev c e ρ).bind λr ρ=>.ok (.ret r) ρ:=(rfl)
theorem X11{c n ρ}:ex c n (.Wj) ρ=.ok (.ret (.val .non)) ρ:=(rfl)
theorem Yl{c n t a b ρ}:ex c n (.ifs t a b) ρ=(iH (ev c t) ρ).bind λk ρ=>if k then fU c n a ρ else fU c n b ρ:=(rfl)
theorem Z2{c n src is one body ρ}:ex c n (.jf src is one body) ρ=(srcOf (isVar src) (ev c src) ρ).bind λe a=>(fM is one (fU c n body) e a).bind λfl b=>.ok fl (aO ρ (isVar src) b):=(rfl)
theorem X14{c n t body ρ}:ex c n (.whl t body) ρ=pN (iH (ev c t)) (fU c n body) n ρ:=(rfl)
theorem X15{c n x i sub e ρ}:ex c n (.Gz x i sub e) ρ=(lift (xG ρ x) ρ).bind λ_ ρ=>(bF (isVar i) (ev c i) ρ).bind λk ρ=>(lift (xG ρ x) ρ).bind λl ρ=>(lift ((fG k).bind λi=>at' l i) ρ).bind λa ρ=>(bF (isVar e) (ev c e) ρ).bind λb ρ=>match a,b,ρ[x]?,k with
 |.int u,.int v,some (.own bb f),.int k=>match gw f.length k with|some j=>.ok .next (ρ.set x (.own bb (f.set j (.int (if sub then u-v else u+v)))))|none=>.stuck
 |_,_,_,_=>.stuck:=(rfl)
theorem X16{c n x t ρ}:ex c n (.Bw x t) ρ=match ρ[x]?with|some .aP=>.ok .next (ρ.set x (.eO (if t then .t []else .k [])))|_=>.stuck:=(rfl)
theorem X17{c n x k e ρ}:ex c n (.dput x k e) ρ=(ev c e ρ).bind λr ρ=>match ρ[x]?with
 |some (.eO _)=>(bF (isVar k) (ev c k) ρ).bind λa ρ=>match ρ[x]?,r with
   |some (.eO m),.val (.int v)=>match m.put a v with|some b=>.ok .next (ρ.set x (.eO b))|none=>.stuck
   |_,_=>.stuck
 |_=>.stuck:=(rfl)
theorem X18{c n x i e ρ}:ex c n (.ins x i e) ρ=(lift (xG ρ x) ρ).bind λ_ ρ=>(bF (isVar i) (ev c i) ρ).bind λk ρ=>(ev c e ρ).bind λr ρ=>match ρ[x]?,k with|some (.own b a),.int j=>if 0<=j/\j<=1000000/\a.length<lim then .ok .next (ρ.set x (.own b (a.take j.toNat++r.d::a.drop j.toNat)))else .stuck|_,_=>.stuck:=(rfl)
theorem X19{c n x src k is one elt ρ}:ex c n (.GC x src k is one elt) ρ=(srcOf (isVar src) (ev c src) ρ).bind λg a=>if g.length<=lim then(dH is one (ev c elt) g [] (a++replicate k .aP)).bind λe b=>(lift (put (aO ρ (isVar src) (b.take a.length)) x (.hold e)) ρ).bind λf _=>.ok .next f else .stuck:=(rfl)
theorem X20{c n x i e ρ}:ex c n (.GD x i e) ρ=(bF (isVar i) (ev c i) ρ).bind λk ρ=>(lift (sV ρ x k) ρ).bind λ_ ρ=>(ev c e ρ).bind λr ρ=>Be ρ x ((gA ρ x).bind λa=>(fG k).bind λk=>ir a k λrow=>if row.length<lim then some (row++[r.d])else none):=(rfl)
theorem X21{c n src is one body ρ}:ex c n (.Bx src is one body) ρ=(ev c src ρ).bind λr a=>(lift (items r.d) a).bind λb a=>fM is one (fU c n body) b a:=(rfl)
theorem X22{c n x ρ}:ex c n (.cz x) ρ=match ρ[x]?with|some (.hold a)=>.ok .next (ρ.set x (.val false (.lst (a.map D.lst))))|_=>.stuck:=(rfl)
theorem X23{c n x ρ}:ex c n (.By x) ρ=match ρ[x]?with|some .aP=>.ok .next (ρ.set x (.bV []))|some (.bV _)=>.ok .next (ρ.set x (.bV []))|some (.val false _)=>.ok .next (ρ.set x (.bV []))|_=>.stuck:=(rfl)
theorem X24{c n x k e ρ}:ex c n (.eU x k e) ρ=(ev c e ρ).bind λr ρ=>match ρ[x]?with
 |some (.bV _)=>(bF (isVar k) (ev c k) ρ).bind λa ρ=>match ρ[x]?,a with|some (.bV kvs),.int k=>if kvs.length<lim then .ok .next (ρ.set x (.bV (eU kvs k r.d)))else .stuck|_,_=>.stuck
 |_=>.stuck:=(rfl)
structure Fd where
 np:Nat
 nn:Nat
 body:List S deriving Inhabited
noncomputable abbrev Tab:=Nat->Option Fd
noncomputable def enter(c:Call)(n:Nat)(d:Fd)(args:List Sl):Res R:=if args.length=d.np/\d.np<=d.nn then match fU c n d.body (args++replicate (d.nn-d.np) .aP)with|.ok .next ρ=>.ok (.val .non) (ρ.take d.np)|.ok (.ret r) ρ=>.ok r (ρ.take d.np)|_=>match CG c n d.body (args++replicate (d.nn-d.np) .aP)with|some (k,ρ)=>.exc k (ρ.take d.np)|none=>.stuck else .stuck
noncomputable def run(Γ:Tab)(w:Nat):Nat->Call|0,_,_=>.stuck|n+1,f,args=>match Γ f with|some d=>enter (run Γ w n) w d args|none=>.stuck
end HH
end
section
namespace HH
open PySem L2
variable{ρ:List Sl}{σ:St}{v:V}
noncomputable def Dc.ho:Dc->HO|.k kvs=>.dK (kvs.map λp=>(Sum.inl p.1,V.int p.2))|.t kvs=>.dT (kvs.map λp=>(p.1.map Sum.inl,V.int p.2))
noncomputable def yD(ks:List Int)(vs:List V):HO:=.dK ((ks.zip vs).map λp=>(Sum.inl p.1,p.2))
section
variable(K:PySem.W.Frag)
mutual
def Rep(F:Hp):V->D->Prop|v,.non=>v=.non|v,.bl b=>v=.bl b|v,.int i=>v=.int i|v,.str x=>v=.str x|v,.tup c=>∃a xs,v=.ref a/\ji K F a xs/\au F xs c|v,.lst c=>∃a xs,v=.ref a/\dJ K F a xs/\au F xs c|v,.cH m=>∃a o,v=.ref a/\F a=some (.cz o m.ho)|v,.dv ks c=>∃a o vs,v=.ref a/\F a=some (.cz o (yD ks vs))/\au F vs c/\ks.length=c.length
def au(F:Hp):List V->List D->Prop|vs,[]=>vs=[]|vs,d::a=>∃v r,vs=v::r/\Rep F v d/\au F r a
end
end
section
variable{K:PySem.W.Frag}{F F' H H':Hp}
theorem aD.gG{a:Addr}{xs:List V}(e:aD H H')(h:ji K H a xs):ji K H' a xs:=by
 rcases h with(h|⟨o,h⟩)|h;.exact .inl (.inl (e _ _ h))
 .exact .inl (.inr ⟨o,e _ _ h⟩)
 .exact .inr h
mutual
theorem Rep.mono(e:aD F F'):∀{d:D}{v:V},Rep K F v d->Rep K F' v d|.non,_,h=>by rw[Rep]at h ⊢;exact h|.bl _,_,h=>by rw[Rep]at h ⊢;exact h|.int _,_,h=>by rw[Rep]at h ⊢;exact h|.str _,_,h=>by rw[Rep]at h ⊢;exact h|.tup b,_,h=>by rw[Rep]at h ⊢;obtain⟨a,xs,rfl,hs,r⟩:=h;exact⟨a,xs,rfl,aD.gG e hs,au.mono e r⟩|.lst b,_,h=>by rw[Rep]at h ⊢;obtain⟨a,xs,rfl,hs,r⟩:=h;exact⟨a,xs,rfl,e.seq hs,au.mono e r⟩|.cH m,_,h=>by rw[Rep]at h ⊢;obtain⟨a,o,rfl,hs⟩:=h;exact⟨a,o,rfl,e _ _ hs⟩|.dv ks b,_,h=>by rw[Rep]at h ⊢;obtain⟨a,o,vs,rfl,hs,r,c⟩:=h;exact⟨a,o,vs,rfl,e _ _ hs,au.mono e r,c⟩theorem au.mono(e:aD F F'):∀{a:List D}{vs:List V},au K F vs a->au K F' vs a|[],_,h=>by rw[au]at h ⊢;exact h|d::a,_,h=>by rw[au]at h ⊢;obtain⟨v,r,rfl,h1,b⟩:=h;exact⟨v,r,rfl,Rep.mono e h1,au.mono e b⟩end
theorem au.nil:au K F [] []:=by rw[au]
theorem au.cons{v:V}{d:D}{vs:List V}{a:List D}(h:Rep K F v d)(t:au K F vs a):au K F (v::vs) (d::a):=by rw[au];exact⟨v,vs,rfl,h,t⟩
theorem au.bK{vs:List V}{d:D}{a:List D}(h:au K F vs (d::a)):∃v r,vs=v::r/\Rep K F v d/\au K F r a:=by rw[au]at h;exact h
theorem au.dX{vs:List V}(h:au K F vs []):vs=[]:=by rw[au]at h;exact h
theorem au.length:∀{a:List D}{vs:List V},au K F vs a->vs.length=a.length|[],_,h=>by rw[h.dX];rfl|d::a,_,h=>by obtain⟨v,r,rfl,_,t⟩:=h.bK;simp[au.length t]
theorem au.get:∀{a:List D}{vs:List V}{i:Nat}{d:D},au K F vs a->a[i]?=some d->∃v,vs[i]?=some v/\Rep K F v d|[],_,_,_,h,e=>by simp at e|d::a,_,0,_,h,e=>by obtain⟨v,r,rfl,h1,t⟩:=h.bK;simp at e;subst e;exact⟨v,rfl,h1⟩|d::a,_,i+1,_,h,e=>by obtain⟨v,r,rfl,_,t⟩:=h.bK;simp at e;obtain⟨w,b,c⟩:=t.get e;exact⟨w,by simpa using b,c⟩
theorem au.append:∀{a es:List D}{vs b:List V},au K F vs a->au K F b es->au K F (vs++b) (a++es)|[],_,_,_,h,h'=>by rw[h.dX];exact h'|d::a,_,_,_,h,h'=>by obtain⟨v,r,rfl,h1,t⟩:=h.bK;exact .cons h1 (t.append h')
theorem au.set{v:V}{d:D}(hr:Rep K F v d):∀{a:List D}{vs:List V}(i:Nat),au K F vs a->au K F (vs.set i v) (a.set i d)|[],_,_,h=>by rw[h.dX];exact .nil|_::_,_,0,h=>by obtain⟨w,r,rfl,h1,t⟩:=h.bK;exact .cons hr t|_::_,_,i+1,h=>by obtain⟨w,r,rfl,h1,t⟩:=h.bK;exact .cons h1 (au.set hr i t)
theorem au.take:∀{a:List D}{vs:List V}(n:Nat),au K F vs a->au K F (vs.take n) (a.take n)|[],_,n,h=>by rw[h.dX];simpa using au.nil|_::_,_,0,h=>.nil|_::_,_,n+1,h=>by obtain⟨w,r,rfl,h1,t⟩:=h.bK;exact .cons h1 (t.take n)
theorem au.drop:∀{a:List D}{vs:List V}(n:Nat),au K F vs a->au K F (vs.drop n) (a.drop n)|[],_,n,h=>by rw[h.dX];simpa using au.nil|_::_,_,0,h=>h|_::_,_,n+1,h=>by obtain⟨w,r,rfl,h1,t⟩:=h.bK;exact t.drop n
theorem au.rep{a:List D}{vs:List V}(h:au K F vs a):∀n,au K F (replicate n vs).flatten (replicate n a).flatten|0=>by simpa using au.nil|n+1=>by simpa[replicate_succ]using h.append (au.rep h n)
inductive Oc where|l(ds:List D)|d(m:Dc)|v(kvs:List (Int×D))
noncomputable def lst?:Sl->Option Oc|.own _ a=>some (.l a)|.lent a=>some (.l a)|.eO m=>some (.d m)|.bV kvs=>some (.v kvs)|_=>none
def jh(K:PySem.W.Frag)(F:Hp)(o:HO):Oc->Prop|.l a=>∃xs,o=.lst xs/\au K F xs a|.d m=>o=m.ho|.v kvs=>∃vs,o=yD (kvs.map (·.1)) vs/\au K F vs (kvs.map (·.2))
theorem jh.mono{o:HO}{x:Oc}(e:aD F F')(h:jh K F o x):jh K F' o x:=by cases x with|l b=>obtain⟨xs,a,h⟩:=h;exact⟨xs,a,h.mono e⟩|d m=>exact h|v kvs=>obtain⟨xs,a,h⟩:=h;exact⟨xs,a,h.mono e⟩
def aH(ρ:List Sl)(σ:St)(i:Nat)(a:Addr):Prop:=(∃s b,ρ[i]?=some s/\lst? s=some b)/\σ[i]?=some (some (V.ref a))
def Own(ρ:List Sl)(σ:St)(a:Addr):Prop:=∃i,aH ρ σ i a
structure GS(K:PySem.W.Frag)(F:Hp)(ρ:List Sl)(σ:St)(H:Hp):Prop where
 sub:aD F H
 len:ρ.length=σ.length
 val:∀(i:Nat)(b:Bool)(d:D),ρ[i]?=some (Sl.val b d)->∃v:V,σ[i]?=some (some v)/\Rep K F v d
 own:∀(i:Nat)(s:Sl)(ds:Oc),ρ[i]?=some s->lst? s=some ds->∃(a:Addr)(xs:HO),σ[i]?=some (some (V.ref a))/\H a=some xs/\F a=none/\jh K F xs ds
 dis:∀(i j:Nat)(a:Addr),aH ρ σ i a->aH ρ σ j a->i=j
theorem GS.pB(g:GS K F ρ σ H)(i:Nat)(s:Sl)(b:List D)(e:ρ[i]?=some s)(c:lst? s=some (.l b)):∃(a:Addr)(xs:List V),σ[i]?=some (some (V.ref a))/\H a=some (.lst xs)/\F a=none/\au K F xs b:=by obtain⟨a,o,h1,f,h,xs,rfl,j⟩:=g.own i s (.l b) e c;exact⟨a,xs,h1,f,h,j⟩
noncomputable def sO:Sl->Bool|.val b _=>b|.own b _=>b|.lent _=>true|.aP=>false|.eO _=>false|.bV _=>false|.hold _=>true
def jG:Sl->Sl->Prop|.val true d,s=>s=.val true d|.own true _,s=>(∃a,s=.own true a)\/∃d,s=.val true d|.lent a,s=>s=.lent a|.hold a,s=>s=.hold a|_,_=>True
theorem jG.refl(s:Sl):jG s s:=by unfold jG;split<;>first|rfl|exact .inl ⟨_,rfl⟩|trivial
theorem jG.sO{s a:Sl}(h:jG s a)(l:sO s=true):HH.sO a=true:=by cases s with
 |aP=>cases l|eO _=>cases l|bV _=>cases l|val b d=>cases b with|true=>cases h;rfl|false=>cases l
 |own b d=>cases b with|true=>rcases h with⟨_,rfl⟩|⟨_,rfl⟩<;>rfl|false=>cases l
 |lent d=>cases h;rfl|hold d=>cases h;rfl
theorem jG.trans{s c a:Sl}(l:HH.sO s=true)(h:jG s c)(h':jG c a):jG s a:=by cases s with
 |aP=>cases l|eO _=>cases l|bV _=>cases l|val b d=>cases b with|true=>cases h;exact h'|false=>cases l
 |own b d=>cases b with
   | true => rcases h with⟨_,rfl⟩|⟨d,rfl⟩;.exact h'
             .exact .inr ⟨d,h'⟩|false=>cases l
 |lent d=>cases h;exact h'|hold d=>cases h;exact h'
noncomputable def nt:Option HO->Option HO|some (.tup _)=>none|o=>o
theorem iM{o:Option HO}(h:o=none):nt o=none:=by rw[h];rfl
theorem BX{H:Hp}{b:Addr}{xs:List V}(h:H b=some (.lst xs))(z:nt (H b)=none):False:=by rw[h]at z;cases z
theorem Gp{o:HO}{x:Oc}(h:jh K F o x)(z:nt (some o)=none):False:=by cases x with|l a=>obtain⟨xs,rfl,_⟩:=h;cases z|d m=>cases m<;>(cases(show o=_ from h);cases z)|v kvs=>obtain⟨xs,rfl,_⟩:=h;cases z
structure aq(K:PySem.W.Frag)(F:Hp)(ρ:List Sl)(σ:St)(H:Hp)(F':Hp)(ρ':List Sl)(σ':St)(H':Hp):Prop where
 gs:GS K F' ρ' σ' H'
 cu:aD F F'
 vO:∀b,F b=none->F' b≠none->Own ρ σ b\/nt (H b)=none
 keep:∀b o,H b=some o->¬ Own ρ σ b->H' b=some o
 tZ:∀b,Own ρ' σ' b->Own ρ σ b\/H b=none
 len:ρ'.length=ρ.length
 lk:∀(i:Nat)(s:Sl),ρ[i]?=some s->sO s=true->σ'[i]?=σ[i]?/\∃s',ρ'[i]?=some s'/\jG s s'
theorem aq.refl{ρ:List Sl}{σ:St}(g:GS K F ρ σ H):aq K F ρ σ H F ρ σ H:=⟨g,aD.refl _,λb h h'=>absurd h h',λ_ _ h _=>h,λ_ h=>.inl h,rfl,λi s h _=>⟨rfl,s,h,.refl s⟩⟩
theorem aq.trans{F1 p m r:Hp}{ρ f j:List Sl}{σ g k:St}(a:aq K F ρ σ H F1 f g m)(b:aq K F1 f g m p j k r):aq K F ρ σ H p j k r:=by
 have back:∀c,Own f g c\/m c=none->Own ρ σ c\/H c=none:=λc h=>by
  rcases h with h|h;.exact a.tZ c h
  . by_cases ho:Own ρ σ c;.exact .inl ho
    .right;cases e:H c with|none=>rfl|some o=>rw[a.keep c o e ho]at h;cases h
 refine⟨b.gs,a.cu.trans b.cu,λc h h'=>?_,λc o h n=>?_,λc h=>back c (b.tZ c h),b.len.trans a.len,λi s h l=>?_⟩
 . by_cases e:F1 c=none
   . by_cases ho:Own ρ σ c;.exact .inl ho
     . rcases b.vO c e h' with z|z;.exact(back c (.inl z)).imp id iM
       .right;cases q:H c with|none=>rfl|some o=>rw[a.keep c o q ho]at z;exact z
   .exact a.vO c h e
 . refine b.keep c o (a.keep c o h n) λh'=>?_;rcases a.tZ c h' with h'|h';.exact n h'
   .rw[h]at h';cases h'
 .obtain⟨u,s1,h1,t⟩:=a.lk i s h l;obtain⟨w,s2,x,y⟩:=b.lk i s1 h1 (t.sO l);exact⟨w.trans u,s2,x,.trans l t y⟩
def cP(K:PySem.W.Frag)(F H:Hp)(v:V)(d:D):Prop:=Rep K F v d\/∃a xs b,v=.ref a/\H a=some (.lst xs)/\au K F xs b/\d=.lst b
def bL(K:PySem.W.Frag)(F':Hp)(b:List Sl)(c:St)(H':Hp)(ρ:List Sl)(σ:St)(H:Hp)(v:V):R->Prop|.val d=>Rep K F' v d|.own e=>∃a xs,v=.ref a/\H' a=some (.lst xs)/\F' a=none/\au K F' xs e/\¬ Own b c a/\(Own ρ σ a\/H a=none)
theorem aD.bG{F:Hp}{a:Addr}{o:HO}(h:F a=none):aD F (upd F a o):=λb u e=>by
 have:b≠a:=by rintro rfl;rw[h]at e;cases e
 rw[ao this];exact e
theorem aq.cz{c:List Sl}{f:St}{r:R}(s:aq K F ρ σ H F' c f H')(h:bL K F' c f H' ρ σ H v r):∃g,aq K F ρ σ H g c f H'/\aD F' g/\Rep K g v r.d:=by cases r with|val d=>exact⟨F',s,.refl _,h⟩|own t=>
   obtain⟨a,xs,rfl,h1,u,w,x,y⟩:=h;have sm:aD F' (upd F' a (.lst xs)):=aD.bG u;refine⟨upd F' a (.lst xs),⟨⟨λb o e=>?_,s.gs.len,λi b d e=>?_,λi sl k e p=>?_,s.gs.dis⟩,s.cu.trans sm,λb n q=>?_,s.keep,s.tZ,s.len,s.lk⟩,sm,?_⟩
   . by_cases j:b=a;.subst j;rw[aF]at e;cases e;exact h1
     .rw[ao j]at e;exact s.gs.sub b o e
   .obtain⟨v,l,m⟩:=s.gs.val i b d e;exact⟨v,l,m.mono sm⟩
   . obtain⟨b,ys,l,m,z,A⟩:=s.gs.own i sl k e p;have j:b≠a:=by rintro rfl;exact x ⟨i,⟨sl,k,e,p⟩,l⟩
     exact⟨b,ys,l,m,by rw[ao j];exact z,A.mono sm⟩
   . by_cases j:b=a;.subst j;exact y.imp id iM
     .rw[ao j]at q;exact s.vO b n q
   .show Rep K _ _ (.lst t);rw[Rep];exact⟨a,xs,rfl,dJ.of aF,w.mono sm⟩
theorem GS.pk{ρ:List Sl}{σ:St}{i:Nat}{d:D}(g:GS K F ρ σ H)(e:HH.pk ρ i=some d):∃v:V,σ[i]?=some (some v)/\cP K F H v d:=by
 unfold HH.pk at e;split at e;.rename_i b d' h;cases e;obtain⟨v,h1,c⟩:=g.val i b d h;exact⟨v,h1,.inl c⟩
 .rename_i b f h;cases e;obtain⟨a,xs,h1,c,k,j⟩:=g.pB i _ f h rfl;exact⟨.ref a,h1,.inr ⟨a,xs,f,rfl,c,j,rfl⟩⟩
 .rename_i f h;cases e;obtain⟨a,xs,h1,c,k,j⟩:=g.pB i _ f h rfl;exact⟨.ref a,h1,.inr ⟨a,xs,f,rfl,c,j,rfl⟩⟩
 .cases e
structure Ext(F H F' H':Hp):Prop where
 hs:aD H H'
 fs:aD F F'
 sub:aD F' H'
 gr:∀b,F b=none->F' b≠none->nt (H b)=none
theorem Ext.refl(h:aD F H):Ext F H F H:=⟨.refl _,.refl _,h,λ_ a b=>absurd a b⟩
theorem Ext.stp(g:GS K F ρ σ H)(e:Ext F H F' H'):aq K F ρ σ H F' ρ σ H':=by
 refine⟨⟨e.sub,g.len,λi b d h=>?_,λi s j h h'=>?_,g.dis⟩,e.fs,λb n k=>.inr (e.gr b n k),λb o h _=>e.hs b o h,λ_ h=>.inl h,rfl,λi s h _=>⟨rfl,s,h,.refl s⟩⟩;.obtain⟨v,h1,c⟩:=g.val i b d h;exact⟨v,h1,c.mono e.fs⟩
 .obtain⟨a,xs,h1,c,l,f⟩:=g.own i s j h h';refine⟨a,xs,h1,e.hs _ _ c,?_,f.mono e.fs⟩;cases q:F' a with|none=>rfl|some o=>have:=e.gr a l (by rw[q];simp);rw[c]at this;exact(Gp f this).elim
def bH(K:PySem.W.Frag)(F' H' H:Hp)(v:V):R->Prop|.val d=>Rep K F' v d|.own b=>∃a xs,v=.ref a/\H' a=some (.lst xs)/\F' a=none/\au K F' xs b/\H a=none
theorem bH.pq{r:R}(g:GS K F ρ σ H)(h:bH K F' H' H v r):bL K F' ρ σ H' ρ σ H v r:=by cases r with|val d=>exact h|own p=>obtain⟨a,xs,rfl,h1,l,m,f⟩:=h;refine⟨a,xs,rfl,h1,l,m,?_,.inr f⟩;rintro⟨i,⟨s,c,e,n⟩,o⟩;obtain⟨b,ys,j,k,_⟩:=g.own i s c e n;rw[o]at j;cases j;rw[f]at k;cases k
theorem bL.later{F1 j k l:Hp}{c f:List Sl}{g i:St}{r:R}(a:aq K F ρ σ H F1 c g j)(h:bL K k f i l c g j v r):bL K k f i l ρ σ H v r:=by cases r with|val d=>exact h|own q=>
   obtain⟨b,xs,rfl,h1,m,n,p,h5⟩:=h;refine⟨b,xs,rfl,h1,m,n,p,?_⟩;rcases h5 with h5|h5;.exact a.tZ b h5
   . by_cases ho:Own ρ σ b;.exact .inl ho
     .right;cases e:H b with|none=>rfl|some o=>rw[a.keep b o e ho]at h5;cases h5
end
end HH
end
section
namespace HH
open PySem L2 PySem.Spec PyProof.Rows
variable{ρ' ρ ρ₀:List Sl}{es:List Expr}{K:PySem.W.Frag}{F H H₀:Hp}{σ:L2.St}{i n:Nat}{ds:List D}{x:Str}{v:V}{vs:List V}{p':Pos}{as:List Arg}
theorem aa{c e:Type}{x:Res c}{f:c->List Sl->Res e}{b:e}(h:x.bind f=.ok b ρ'):∃a ρ,x=.ok a ρ/\f a ρ=.ok b ρ':=by cases x with|ok a ρ=>exact⟨a,ρ,rfl,h⟩|exc _ _=>cases h|stuck=>cases h
theorem az{c:Type}{o:Option c}{a:c}(h:lift o ρ=.ok a ρ'):o=some a/\ρ=ρ':=by cases o with|none=>cases h|some b=>cases h;exact⟨rfl,rfl⟩
theorem map_some{c e:Type}{o:Option c}{f:c->e}{b:e}(h:o.map f=some b):∃a,o=some a/\f a=b:=by cases o with|none=>cases h|some a=>cases h;exact⟨a,rfl,rfl⟩
theorem bJ{c e:Type}{o:Option c}{f:c->Option e}{b:e}(h:o.bind f=some b):∃a,o=some a/\f a=some b:=by cases o with|none=>cases h|some a=>exact⟨a,rfl,h⟩
theorem aW{e:Type}{c:Prop}[Decidable c]{a b:e}(h:(if c then some a else none)=some b):c/\a=b:=by
 split at h;.rename_i hc;cases h;exact⟨hc,rfl⟩
 .cases h
section
variable{X:Cx}{c:Call}{e a b:Expr}{p pa pb:P}{pos:Pos}
theorem cY{t t':TE}(h:PE X e t)(i:∀σ H Q,t' σ H Q->t σ H Q):PE X e t':=λf s σ H Q I q=>h f s σ H Q I (i σ H Q q)
theorem vm{t t':TT}(h:PT X e t)(i:∀σ H Q,t' σ H Q->t σ H Q):PT X e t':=λf s σ H Q I q=>h f s σ H Q I (i σ H Q q)
theorem TV{t t':TT}(h:PW X e t)(i:∀σ H Q,t' σ H Q->t σ H Q):PW X e t':=λwh f s σ H Q I q=>h wh f s σ H Q I (i σ H Q q)
theorem vy{t t':TA}(h:PA X es t)(i:∀σ H Q,t' σ H Q->t σ H Q):PA X es t':=λpos f s σ H Q I q=>h pos f s σ H Q I (i σ H Q q)
inductive vV(K:PySem.W.Frag)(f:Ev)(σ:L2.St)(H:Hp)(Q:VK):Prop where|mk(F:Hp)(ρ:List Sl)(r:R)(ρ':List Sl)(g:GS K F ρ σ H)(e:f ρ=.ok r ρ')(k:∀v F' H',aq K F ρ σ H F' ρ' σ H'->bL K F' ρ' σ H' ρ σ H v r->Q v H')
inductive G6(K:PySem.W.Frag)(f:List Sl->Res Bool)(σ:L2.St)(H:Hp)(Q:Bool->Hp->Prop):Prop where|mk(F:Hp)(ρ:List Sl)(b:Bool)(ρ':List Sl)(g:GS K F ρ σ H)(e:f ρ=.ok b ρ')(k:∀F' H',aq K F ρ σ H F' ρ' σ H'->Q b H')
inductive Zb(K:PySem.W.Frag)(f:List Sl->Res (List D))(σ:L2.St)(H:Hp)(Q:List V->Hp->Prop):Prop where|mk(F:Hp)(ρ:List Sl)(ds:List D)(ρ':List Sl)(g:GS K F ρ σ H)(e:f ρ=.ok ds ρ')(k:∀vs F' H',aq K F ρ σ H F' ρ' σ H'->au K F' vs ds->Q vs H')
structure SX(X:Cx)(c:Call)(e:Expr)(p:P):Prop where ev:PE X e (vV X.K (HH.ev c p))var:∀i,isVar p=some i->PE X e (Om i)
def SA(X:Cx)(c:Call)(es:List Expr)(ps:List P):Prop:=PA X es (Zb X.K (evs c ps))/\ps.length=es.length
theorem SX.bF(h:SX X c e p):∃t,PE X e t/\∀{σ:L2.St}{H F:Hp}{ρ ρ':List Sl}{d:D}{Q:VK},GS X.K F ρ σ H->bF (isVar p) (HH.ev c p) ρ=.ok d ρ'->(∀v j f,aq X.K F ρ σ H j ρ' σ f->cP X.K j f v d->Q v f)->t σ H Q:=by cases hv:isVar p with|none=>refine⟨_,h.ev,λ{σ H F ρ ρ' d Q}g e k=>?_⟩;obtain⟨r,q,l,m⟩:=aa e;cases m;refine⟨F,ρ,r,_,g,l,λv j f s u=>?_⟩;obtain⟨o,w,_,y⟩:=s.cz u;exact k v o f w (.inl y)|some i=>refine⟨_,h.var i hv,λ{σ H F ρ ρ' d Q}g e k=>?_⟩;obtain⟨l,m⟩:=az e;subst m;obtain⟨v,h1,z⟩:=g.pk l;exact⟨v,h1,k v F H (.refl g) z⟩
theorem SX.gO(J:SX X c a pa)(N:SX X c b pb):∃L h,PE X a L/\PE X b h/\∀{σ:L2.St}{H F:Hp}{ρ ρ':List Sl}{j:D×D}{R:V->V->Hp->Prop},GS X.K F ρ σ H->gO (isVar pa) (HH.ev c pa) (isVar pb) (HH.ev c pb) ρ=.ok j ρ'->(∀v u w l,aq X.K F ρ σ H w ρ' σ l->cP X.K w l v j.1->cP X.K w l u j.2->R v u l)->L σ H λx z=>h σ z λy A=>R x y A:=by obtain⟨h,m,o⟩:=N.bF;cases hv:isVar pa with|none=>refine⟨_,h,J.ev,m,λ{σ H F ρ ρ' j R}g e k=>?_⟩;obtain⟨x,B,q,e⟩:=aa e;obtain⟨y,C,f,e⟩:=aa e;cases e;obtain⟨r,M,q,E⟩:=aa q;cases E;refine⟨F,ρ,r,_,g,q,λv w l s O=>?_⟩;obtain⟨F1,s1,_,Q⟩:=s.cz O;refine o s1.gs f λu U A s2 G=>?_;exact k v u U A (s1.trans s2) (.inl (Q.mono s2.cu)) G|some i=>refine⟨_,h,J.var i hv,m,λ{σ H F ρ ρ' j R}g e k=>?_⟩;obtain⟨x0,W,E,e⟩:=aa e;obtain⟨I,Y⟩:=az E;subst Y;obtain⟨y,B,q,e⟩:=aa e;obtain⟨x,C,f,e⟩:=aa e;cases e;have Z:=az f;clear f;obtain⟨f,e3⟩:=Z;subst e3;obtain⟨v,h1,_⟩:=g.pk I;refine⟨v,h1,o g q λu F1 z s1 G=>?_⟩;obtain⟨v',t,pv⟩:=s1.gs.pk f;rw[h1]at t;cases t;exact k v u F1 z s1 pv G
inductive rD(K:PySem.W.Frag)(f:D->D->Option R)(x y:V)(H:Hp)(Q:VK):Prop where|mk(F:Hp)(d e:D)(r:R)(sm:aD F H)(px:cP K F H x d)(py:cP K F H y e)(he:f d e=some r)(k:∀v F' H',Ext F H F' H'->bH K F' H' H v r->Q v H')
inductive rD1(K:PySem.W.Frag)(f:D->Option R)(x:V)(H:Hp)(Q:VK):Prop where|mk(F:Hp)(d:D)(r:R)(sm:aD F H)(px:cP K F H x d)(he:f d=some r)(k:∀v F' H',Ext F H F' H'->bH K F' H' H v r->Q v H')
theorem wM{E:Expr}{f:D->D->Option R}{q:P}(t:∀{m o},PE X a m->PE X b o->PE X E (Sh (rD X.K f) m o))(y:SX X c a pa)(z:SX X c b pb)(A:∀ρ,HH.ev c q ρ=(HH.gO (isVar pa) (HH.ev c pa) (isVar pb) (HH.ev c pb) ρ).bind λj ρ=>lift (f j.1 j.2) ρ)(B:isVar q=none):SX X c E q:=by obtain⟨m,o,h1,C,G⟩:=y.gO z;refine⟨cY (t h1 C) ?_,λi h=>by rw[B]at h;cases h⟩;rintro σ H Q⟨F,ρ,r,ρ',g,e,k⟩;rw[A]at e;obtain⟨j,I,J,l⟩:=aa e;have L:=az l;clear l;obtain⟨l,M⟩:=L;subst M;refine G g J λv u N H' s O U=>⟨N,j.1,j.2,r,s.gs.sub,O,U,l,λw W Y x Z=>?_⟩;exact k w W Y (s.trans (x.stp s.gs)) (.later s (Z.pq s.gs))
theorem Mr{E:Expr}{f:D->Option R}{q:P}(m:∀{l},PE X a l->PE X E (tUn (rD1 X.K f) l))(o:SX X c a pa)(t:∀ρ,HH.ev c q ρ=(HH.bF (isVar pa) (HH.ev c pa) ρ).bind λx ρ=>lift (f x) ρ)(u:isVar q=none):SX X c E q:=by obtain⟨l,h1,y⟩:=o.bF;refine⟨cY (m h1) ?_,λi h=>by rw[u]at h;cases h⟩;rintro σ H Q⟨F,ρ,r,ρ',g,e,k⟩;rw[t]at e;obtain⟨x,z,A,j⟩:=aa e;have B:=az j;clear j;obtain⟨j,C⟩:=B;subst C;refine y g A λv G N s I=>⟨G,x,r,s.gs.sub,I,j,λw J L x M=>?_⟩;exact k w J L (s.trans (x.stp s.gs)) (.later s (M.pq s.gs))
theorem GS.freeze{b:Bool}(g:GS K F ρ σ H)(e:ρ[i]?=some (.own b ds)):∃v z,σ[i]?=some (some v)/\aq K F ρ σ H z (ρ.set i (.val b (.lst ds))) σ H/\Rep K z v (.lst ds):=by
 obtain⟨a,xs,h1,C,E,G⟩:=g.pB i _ ds e rfl;have hi:i<ρ.length:=(dj e).1;have sm:aD F (upd F a (.lst xs)):=aD.bG E;have A:Rep K (upd F a (.lst xs)) (.ref a) (.lst ds):=by rw[Rep];exact⟨a,xs,rfl,dJ.of aF,G.mono sm⟩
 have I:Own ρ σ a:=⟨i,⟨_,_,e,rfl⟩,h1⟩;have r:∀j x,aH (ρ.set i (.val b (.lst ds))) σ j x->aH ρ σ j x/\j≠i:=λj x⟨⟨s,h,m,u⟩,y⟩=>by
  by_cases f:j=i;.subst f;rw[getElem?_set_self hi]at m;cases m;cases u
  .rw[di f]at m;exact⟨⟨⟨s,h,m,u⟩,y⟩,f⟩
 refine⟨.ref a,upd F a (.lst xs),h1,⟨⟨λx o q=>?_,by simpa using g.len,λj J d q=>?_,λj s h q w=>?_,λj k x q w=>g.dis j k x (r j x q).1 (r k x w).1⟩,sm,λx n B=>?_,λ_ _ q _=>q,λx⟨j,q⟩=>.inl ⟨j,(r j x q).1⟩,by simp,λj s q l=>⟨rfl,?_⟩⟩,A⟩
 . by_cases t:x=a;.subst t;rw[aF]at q;cases q;exact C
   .rw[ao t]at q;exact g.sub x o q
 . by_cases f:j=i;.subst f;rw[getElem?_set_self hi]at q;cases q;exact⟨_,h1,A⟩
   .rw[di f]at q;obtain⟨v,m,u⟩:=g.val j J d q;exact⟨v,m,u.mono sm⟩
 . by_cases f:j=i;.subst f;rw[getElem?_set_self hi]at q;cases q;cases w
   . rw[di f]at q;obtain⟨x,ys,m,u,y,L⟩:=g.own j s h q w;have t:x≠a:=by rintro rfl;exact f (g.dis j i x ⟨⟨s,h,q,w⟩,m⟩ ⟨⟨_,_,e,rfl⟩,h1⟩)
     exact⟨x,ys,m,u,by rw[ao t];exact y,L.mono sm⟩
 . by_cases t:x=a;.subst t;exact .inl I
   .rw[ao t]at B;exact absurd n B
 . by_cases f:j=i;.subst f;rw[e]at q;cases q;refine⟨_,getElem?_set_self hi,?_⟩;cases b with|true=>exact .inr ⟨_,rfl⟩|false=>cases l
   .exact⟨s,by rw[di f];exact q,.refl s⟩
theorem GS.yI{m:Dc}(g:GS K F ρ σ H)(e:ρ[i]?=some (.eO m)):∃a,σ[i]?=some (some (.ref a))/\H a=some m.ho/\∀u,aq K F ρ σ H (upd F a (.cz u m.ho)) (ρ.set i (.val false (.cH m))) σ (upd H a (.cz u m.ho))/\Rep K (upd F a (.cz u m.ho)) (.ref a) (.cH m):=by
 obtain⟨a,G,h1,I,J,L⟩:=g.own i _ _ e rfl;cases(show G=m.ho from L);have hi:i<ρ.length:=(dj e).1;refine⟨a,h1,I,λu=>?_⟩;have sm:aD F (upd F a (.cz u m.ho)):=aD.bG J;have B:Rep K (upd F a (.cz u m.ho)) (.ref a) (.cH m):=by rw[Rep];exact⟨a,u,rfl,aF⟩
 have C:Own ρ σ a:=⟨i,⟨_,_,e,rfl⟩,h1⟩;have w:∀j x,aH (ρ.set i (.val false (.cH m))) σ j x->aH ρ σ j x/\j≠i:=λj x⟨⟨s,r,t,y⟩,A⟩=>by
  by_cases f:j=i;.subst f;rw[getElem?_set_self hi]at t;cases t;cases y
  .rw[di f]at t;exact⟨⟨⟨s,r,t,y⟩,A⟩,f⟩
 refine⟨⟨⟨λx o q=>?_,by simpa using g.len,λj M d q=>?_,λj s r q z=>?_,λj k x q z=>g.dis j k x (w j x q).1 (w k x z).1⟩,sm,λx n E=>?_,λx o q n=>?_,λx⟨j,q⟩=>.inl ⟨j,(w j x q).1⟩,by simp,λj s q l=>⟨rfl,?_⟩⟩,B⟩
 . by_cases h:x=a;.subst h;rw[aF]at q ⊢;exact q
   .rw[ao h]at q ⊢;exact g.sub x o q
 . by_cases f:j=i;.subst f;rw[getElem?_set_self hi]at q;cases q;exact⟨_,h1,B⟩
   .rw[di f]at q;obtain⟨v,t,y⟩:=g.val j M d q;exact⟨v,t,y.mono sm⟩
 . by_cases f:j=i;.subst f;rw[getElem?_set_self hi]at q;cases q;cases z
   . rw[di f]at q;obtain⟨x,ys,t,y,A,N⟩:=g.own j s r q z;have h:x≠a:=by rintro rfl;exact f (g.dis j i x ⟨⟨s,r,q,z⟩,t⟩ ⟨⟨_,_,e,rfl⟩,h1⟩)
     exact⟨x,ys,t,by rw[ao h];exact y,by rw[ao h];exact A,N.mono sm⟩
 . by_cases h:x=a;.subst h;exact .inl C
   .rw[ao h]at E;exact absurd n E
 . have h:x≠a:=by rintro rfl;exact n C
   rw[ao h];exact q
 . by_cases f:j=i;.subst f;rw[e]at q;cases q;cases l
   .exact⟨s,by rw[di f];exact q,.refl s⟩
theorem GS.zQ{kvs:List (Int×D)}(g:GS K F ρ σ H)(e:ρ[i]?=some (.bV kvs)):∃a vs,σ[i]?=some (some (.ref a))/\H a=some (yD (kvs.map (·.1)) vs)/\∀t,aq K F ρ σ H (upd F a (.cz t (yD (kvs.map (·.1)) vs))) (ρ.set i (.val false (.dv (kvs.map (·.1)) (kvs.map (·.2))))) σ (upd H a (.cz t (yD (kvs.map (·.1)) vs)))/\Rep K (upd F a (.cz t (yD (kvs.map (·.1)) vs))) (.ref a) (.dv (kvs.map (·.1)) (kvs.map (·.2))):=by
 obtain⟨a,N,h1,E,G,I⟩:=g.own i _ _ e rfl;obtain⟨vs,rfl,J⟩:=I;have hi:i<ρ.length:=(dj e).1;refine⟨a,vs,h1,E,λt=>?_⟩;have sm:aD F (upd F a (.cz t (yD (kvs.map (·.1)) vs))):=aD.bG G;have A:Rep K (upd F a (.cz t (yD (kvs.map (·.1)) vs))) (.ref a) (.dv (kvs.map (·.1)) (kvs.map (·.2))):=by rw[Rep];exact⟨a,t,vs,rfl,aF,J.mono sm,by simp⟩
 have B:Own ρ σ a:=⟨i,⟨_,_,e,rfl⟩,h1⟩;have u:∀j x,aH (ρ.set i (.val false (.dv (kvs.map (·.1)) (kvs.map (·.2))))) σ j x->aH ρ σ j x/\j≠i:=λj x⟨⟨s,m,r,w⟩,z⟩=>by
  by_cases f:j=i;.subst f;rw[getElem?_set_self hi]at r;cases r;cases w
  .rw[di f]at r;exact⟨⟨⟨s,m,r,w⟩,z⟩,f⟩
 refine⟨⟨⟨λx o q=>?_,by simpa using g.len,λj L d q=>?_,λj s m q y=>?_,λj k x q y=>g.dis j k x (u j x q).1 (u k x y).1⟩,sm,λx n C=>?_,λx o q n=>?_,λx⟨j,q⟩=>.inl ⟨j,(u j x q).1⟩,by simp,λj s q l=>⟨rfl,?_⟩⟩,A⟩
 . by_cases h:x=a;.subst h;rw[aF]at q ⊢;exact q
   .rw[ao h]at q ⊢;exact g.sub x o q
 . by_cases f:j=i;.subst f;rw[getElem?_set_self hi]at q;cases q;exact⟨_,h1,A⟩
   .rw[di f]at q;obtain⟨v,r,w⟩:=g.val j L d q;exact⟨v,r,w.mono sm⟩
 . by_cases f:j=i;.subst f;rw[getElem?_set_self hi]at q;cases q;cases y
   . rw[di f]at q;obtain⟨x,ys,r,w,z,M⟩:=g.own j s m q y;have h:x≠a:=by rintro rfl;exact f (g.dis j i x ⟨⟨s,m,q,y⟩,r⟩ ⟨⟨_,_,e,rfl⟩,h1⟩)
     exact⟨x,ys,r,by rw[ao h];exact w,by rw[ao h];exact z,M.mono sm⟩
 . by_cases h:x=a;.subst h;exact .inl B
   .rw[ao h]at C;exact absurd n C
 . have h:x≠a:=by rintro rfl;exact n B
   rw[ao h];exact q
 . by_cases f:j=i;.subst f;rw[e]at q;cases q;cases l
   .exact⟨s,by rw[di f];exact q,.refl s⟩
theorem Inv.Dh{X:Cx}{f:List (Addr×Obj)}{s:Shared}{a:Addr}{kvs:List (Key×V)}(I:L2.Inv X f σ H s)(h:H a=some (.dK kvs)):∃o,L2.Inv X f σ (upd H a (.cz o (.dK kvs))) s:=by obtain⟨hz,j,vs,r,g⟩:=(show aX X.prog X.w H s.heap a (.dK kvs)from I.hok a _ h);obtain⟨o,ho,_⟩:=g.typeIs;exact⟨o,I.write (h':=s.heap) (t':=s.toks) (by rw[h];exact trivial) (.inl rfl) (λb u _ e=>e) ⟨o,ho⟩ ⟨ho,hz,j,vs,r,g⟩⟩
theorem Nh(z:X.N[i]?=some x)(A:uC X.env.scope x)(hd:(x==("__debug__":Str))=false:=by decide)(t:(x==("__classdict__":Str))=false:=by decide):SX X c (.Name x pos) (.var i):=by
 have h:=dh (X:=X) (pos:=pos) z A hd t;refine⟨?_,λj B=>by cases B;exact h⟩;rintro f s σ H Q I⟨F,ρ,r,ρ',g,e,k⟩;rw[HH.E1]at e;split at e;.rename_i b d q;cases e;obtain⟨v,h1,l⟩:=g.val i b d q;exact h f s σ H Q I ⟨v,h1,k v F H (.refl g) l⟩
 .rename_i b ds q;cases e;obtain⟨v,C,h1,l,m⟩:=g.freeze q;exact h f s σ H Q I ⟨v,h1,k v C H l m⟩
 .rename_i kvs q;cases e;obtain⟨a,h1,l,m⟩:=g.yI q;refine bB (h f s σ H (λv w=>v=.ref a/\w=H) I ⟨.ref a,h1,rfl,rfl⟩) λu s1⟨v,H1,I1,r1,e1,e2⟩=>?_;subst e1 e2;obtain⟨o,y⟩:=Inv.Dh I1 l;exact⟨.ref a,_,y,r1,k _ _ _ (m o).1 (m o).2⟩
 .rename_i kvs q;cases e;obtain⟨a,vs,h1,l,m⟩:=g.zQ q;refine bB (h f s σ H (λv w=>v=.ref a/\w=H) I ⟨.ref a,h1,rfl,rfl⟩) λu s1⟨v,H1,I1,r1,e1,e2⟩=>?_;subst e1 e2;obtain⟨o,y⟩:=Inv.Dh I1 l;exact⟨.ref a,_,y,r1,k _ _ _ (m o).1 (m o).2⟩
 .cases e
theorem xP{d:D}(h:PE X e (tC v))(hr:∀F,Rep X.K F v d):SX X c e (.con d):=⟨cY h λσ H Q⟨F,ρ,r,ρ',g,e,k⟩=>by rw[HH.E2]at e;cases e;exact k v F H (.refl g) (hr F),λi h=>by cases h⟩
theorem aj{i j}:SX X c (.Constant (.int i) j pos) (.con (.int i)):=xP wN λF=>by rw[Rep]
theorem qN{i j}:SX X c (.Constant (.bool i) j pos) (.con (.bl i)):=xP Uw λF=>by rw[Rep]
theorem Cw{j}:SX X c (.Constant .none j pos) (.con .non):=xP MK λF=>by rw[Rep]
theorem cP.int{K:PySem.W.Frag}{F H:Hp}{v:V}{i:Int}(h:cP K F H v (.int i)):v=.int i:=by
 rcases h with h|⟨_,_,_,_,_,_,h⟩;.rw[Rep]at h;exact h
 .cases h
theorem cP.bl{K:PySem.W.Frag}{F H:Hp}{v:V}{i:Bool}(h:cP K F H v (.bl i)):v=.bl i:=by
 rcases h with h|⟨_,_,_,_,_,_,h⟩;.rw[Rep]at h;exact h
 .cases h
theorem cP.str{K:PySem.W.Frag}{F H:Hp}{v:V}{i:Str}(h:cP K F H v (.str i)):v=.str i:=by
 rcases h with h|⟨_,_,_,_,_,_,h⟩;.rw[Rep]at h;exact h
 .cases h
theorem cP.non{K:PySem.W.Frag}{F H:Hp}{v:V}(h:cP K F H v .non):v=.non:=by
 rcases h with h|⟨_,_,_,_,_,_,h⟩;.rw[Rep]at h;exact h
 .cases h
theorem cP.tup{K:PySem.W.Frag}{F H:Hp}{v:V}{ds:List D}(s:aD F H)(h:cP K F H v (.tup ds)):∃a xs,v=.ref a/\ji K H a xs/\au K F xs ds/\Rep K F v (.tup ds):=by
 rcases h with h|⟨_,_,_,_,_,_,h⟩;.have h':=h;rw[Rep]at h;obtain⟨a,xs,rfl,h1,f⟩:=h;exact⟨a,xs,rfl,aD.gG s h1,f,h'⟩
 .cases h
theorem cP.lst{K:PySem.W.Frag}{F H:Hp}{v:V}{ds:List D}(s:aD F H)(h:cP K F H v (.lst ds)):∃a xs,v=.ref a/\dJ K H a xs/\au K F xs ds:=by
 rcases h with h|⟨a,xs,es,h1,f,g,h⟩;.rw[Rep]at h;obtain⟨a,xs,rfl,h1,f⟩:=h;exact⟨a,xs,rfl,s.seq h1,f⟩
 .cases h;exact⟨a,xs,h1,dJ.of f,g⟩
theorem cP.cH{m:Dc}(s:aD F H)(h:cP K F H v (.cH m)):∃a o,v=.ref a/\H a=some (.cz o m.ho):=by
 rcases h with h|⟨_,_,_,_,_,_,h⟩;.rw[Rep]at h;obtain⟨a,o,rfl,h⟩:=h;exact⟨a,o,rfl,s _ _ h⟩
 .cases h
theorem DP{X:Cx}{f:List (Addr×Obj)}{s:Shared}{a:Addr}{g:Obj}{m:Dc}(I:L2.Inv X f σ H s)(h:H a=some (.cz g m.ho)):∃o,s.heap.get? a=some o/\o.cls=.type "dict":=by have z:=(show aX X.prog X.w H s.heap a (.cz g m.ho)from I.hok a _ h).2;cases m with|k kvs=>obtain⟨_,_,vs,_,d2⟩:=(show aX X.prog X.w H s.heap a (.dK _)from z);exact d2.typeIs|t kvs=>obtain⟨_,_,xs,_,o,es,ep,h1,j,_⟩:=(show aX X.prog X.w H s.heap a (.dT _)from z);exact⟨o,h1,j.1⟩
theorem cP.dv{ks:List Int}(s:aD F H)(h:cP K F H v (.dv ks ds)):∃a o vs,v=.ref a/\H a=some (.cz o (yD ks vs))/\au K F vs ds/\ks.length=ds.length:=by
 rcases h with h|⟨_,_,_,_,_,_,h⟩;.rw[Rep]at h;obtain⟨a,o,vs,rfl,h,h1,f⟩:=h;exact⟨a,o,vs,rfl,s _ _ h,h1,f⟩
 .cases h
theorem FJ{X:Cx}{f:List (Addr×Obj)}{s:Shared}{a:Addr}{g:Obj}{ks:List Int}(I:L2.Inv X f σ H s)(h:H a=some (.cz g (yD ks vs))):∃o,s.heap.get? a=some o/\o.cls=.type "dict":=by have z:=(show aX X.prog X.w H s.heap a (.cz g (yD ks vs))from I.hok a _ h).2;obtain⟨_,_,vs,_,d2⟩:=(show aX X.prog X.w H s.heap a (.dK _)from z);exact d2.typeIs
theorem cP.items{d:D}(s:aD F H)(h:cP K F H v d)(e:items d=some ds):∃a xs,v=.ref a/\(dJ K H a xs\/ji K H a xs)/\au K F xs ds:=by cases d with|tup es=>cases e;obtain⟨a,xs,h1,f,g,_⟩:=h.tup s;exact⟨a,xs,h1,.inr f,g⟩|lst es=>cases e;obtain⟨a,xs,h1,f,g⟩:=h.lst s;exact⟨a,xs,h1,.inl f,g⟩|_=>cases e
theorem bH.bZ{Q:VK}{d:D}(s:aD F H)(r:Rep K F v d)(k:∀v g f,Ext F H g f->bH K g f H v (.val d)->Q v f):Q v H:=k v F H (.refl s) r
theorem bA(i:Int):Rep K F (.int i) (.int i):=by rw[Rep]
theorem gB(i:Bool):Rep K F (.bl i) (.bl i):=by rw[Rep]
theorem Mw(i:Str):Rep K F (.str i) (.str i):=by rw[Rep]
theorem Oi:Rep K F .non .non:=by rw[Rep]
theorem xK{Q:VK}{xs:List V}{p:Addr}(s:aD F H)(r:au K F xs ds)(f:H p=none)(k:∀v h g,Ext F H h g->bH K h g H v (.own ds)->Q v g):Q (.ref p) (upd H p (.lst xs)):=by
 have j:F p=none:=by cases q:F p with|none=>rfl|some o=>rw[s p o q]at f;cases f
 exact k _ F _ ⟨aD.bG f,.refl _,s.trans (aD.bG f),λ_ a b=>absurd a b⟩ ⟨p,xs,rfl,aF,j,r,f⟩
theorem Ac{Q:VK}{xs:List V}{p:Addr}(s:aD F H)(r:au K F xs ds)(g:H p=none)(k:∀v j h,Ext F H j h->bH K j h H v (.val (.tup ds))->Q v h):Q (.ref p) (upd H p (.tup xs)):=by
 have m:F p=none:=by cases q:F p with|none=>rfl|some o=>rw[s p o q]at g;cases g
 have sm:aD F (upd F p (.tup xs)):=aD.bG m;refine k _ (upd F p (.tup xs)) _ ⟨aD.bG g,sm,λb o e=>?_,λb n l=>?_⟩ ?_
 . by_cases f:b=p;.subst f;rw[aF]at e ⊢;exact e
   .rw[ao f]at e ⊢;exact s b o e
 . by_cases f:b=p;.subst f;exact iM g
   .rw[ao f]at l;exact absurd n l
 .show Rep K _ _ (.tup ds);rw[Rep];exact⟨p,xs,rfl,ji.of aF,r.mono sm⟩
end
theorem pP(k:Int)(t:Tok)(l:Addr)(a:Array Value)(n:Nat)(b:Option Addr)(sl:Array (Option Value)):Meets (Builtin.«int.__rmul__» ⟨[.int k t,.ref l],[]⟩) (λ_ R s=>s.heap.get? l=some ⟨.type "list",b,.seq a n,sl⟩/\R (.ok (.ret Value.notImplemented)) s):=.of_wp λprog w A R s h=>by obtain⟨c,g,d,e,os⟩:=s;obtain⟨f,h⟩:=h;wp_walk;exact⟨_,rfl,h⟩
theorem Am(l:Addr)(a:Array Value)(n:Nat)(b:Option Addr)(sl:Array (Option Value))(k:Int)(t:Tok)(h0:¬(!Builtin.List.listFitsIndex k)=true)(h1:¬a.size*k.toNat>(2^63-1)/8)(c:¬listTooLong (a.size*k.toNat)=true):Meets (Builtin.«list.__mul__» ⟨[.ref l,.int k t],[]⟩) (λ_ R s=>s.heap.get? l=some ⟨.type "list",b,.seq a n,sl⟩/\R (.ok (.ret (Value.ref s.heap.objs.size))) {s with heap:=s.heap.push {cls:=.type "list",data:=.seq (foldl (·++·) #[] (replicate (if a.isEmpty=true then 0 else k.toNat) a))}}):=.of_wp λprog w A R s h=>by obtain⟨f,g,d,j,os⟩:=s;obtain⟨e,h⟩:=h;have hz:=AutoListH.joined_fits c;wp_walk using wpAny_loadPart' e;refine wpAny_ite_false (decide_eq_false (Nat.not_lt.mpr hz)) ?_;wp_walk;exact⟨_,rfl,h⟩
section
variable{X:Cx}{c:Call}{e a b d:Expr}{p pa pb pd:P}{pos:Pos}
theorem JM:gD X (binaryOp .Add) (λx y H Q=>∃l b xs o,x=.ref l/\y=.ref b/\dJ X.K H l xs/\dJ X.K H b o/\xs.length+o.length<=sizeLine/\∀p,H p=none->Q (.ref p) (upd H p (.lst (xs++o)))):=by
 intro A s σ H x y v u Q I E G h;obtain⟨l,b,xs,o,rfl,rfl,J,L,hz,q⟩:=h;cases E;cases G;obtain⟨g,r,M,_⟩:=I.list J;obtain⟨f,B,t,_⟩:=I.list L;obtain⟨⟨cls,N,data,sl⟩,ho,hc,n,hd⟩:=id M.isList;obtain⟨⟨C,w,data2,z⟩,j,k,O,m⟩:=id t.isList;simp only at hc hd k m;subst hc hd k m;have e:g.toArray++f.toArray=(g++f).toArray:=by simp
 refine concat_meets ⟨_,ho,rfl⟩ ⟨_,j,rfl⟩ noFill_list_add seq_list_add PySem.F.slot_list_add PySem.F.entry_list_add (PySem.F.args_list_add_2 _ _) (list_addW l b g.toArray f.toArray n O N w sl z (by simp only[size_toArray];rw[<-r.length,<-B.length];exact hz)) ⟨ho,j,?_⟩;rw[e];exact⟨.ref _,_,I.Mi (t':=s.toks) (r.append B) (by rw[length_append];exact hz),rfl,q _ I.fresh⟩
theorem CJ:gD X (binaryOp .Add) (λx y H Q=>∃a b ys,x=.ref a/\y=.ref b/\ji X.K H a []/\ji X.K H b ys/\Q (.ref b) H):=by intro r s σ H x y v u Q I w z h;obtain⟨a,b,ys,rfl,rfl,A,B,q⟩:=h;cases w;cases z;obtain⟨l,r1,C,_⟩:=I.tuple A;obtain⟨f,M,E,_⟩:=I.tuple B;obtain⟨⟨cls,G,data,sl⟩,ho,hc,n,hd⟩:=id C;obtain⟨⟨t,m,data2,o⟩,g,j,J,k⟩:=id E;simp only at hc hd j k;subst hc hd j k;have L:l=[]:=r1.mY.mpr rfl;subst L;exact concat_meets ⟨_,ho,rfl⟩ ⟨_,g,rfl⟩ noFill_tuple_add seq_tuple_add slot_tuple_add entry_tuple_add (args_tuple_add_2 _ _) (tuple_addW0 a b _ f.toArray n J G m sl o (by simp)) ⟨ho,g,⟨.ref b,H,I,rfl,q⟩⟩
theorem aV:gD X (binaryOp .Add) (rD X.K (pM .add)):=by
 rintro f s σ H x y v u Q I g h⟨F,d,e,r,sm,o,q,he,k⟩;replace he:o5 d e=some r:=he;unfold o5 at he;split at he;.cases he;rw[o.int]at g;rw[q.int]at h;exact Nf f s σ H _ _ v u Q I g h ⟨_,_,rfl,rfl,bH.bZ sm (bA _) k⟩
 .rename_i xs ys;obtain⟨m,he⟩:=aW he;subst he;obtain⟨a,vs,rfl,t,j⟩:=o.lst sm;obtain⟨b,w,rfl,z,l⟩:=q.lst sm;exact JM f s σ H _ _ v u Q I g h ⟨a,b,vs,w,rfl,rfl,t,z,by rw[j.length,l.length];exact m,λp A=>xK sm (j.append l) A k⟩
 . rename_i xs ys;obtain⟨m,he⟩:=aW he;subst he;obtain⟨a,vs,rfl,t,j,C⟩:=o.tup sm;obtain⟨b,w,rfl,z,l,E⟩:=q.tup sm;by_cases h0:vs=[]
   . subst h0;have B:xs=[]:=by have:=j.length;exact List.eq_nil_of_length_eq_zero this.symm
     subst B;exact CJ f s σ H _ _ v u Q I g h ⟨a,b,w,rfl,rfl,t,z,bH.bZ sm E k⟩
   . refine HR f s σ H _ _ v u Q I g h ⟨a,b,vs,w,rfl,rfl,t,z,h0,by rw[j.length,l.length];exact m,λe=>?_,λ_ p A=>Ac sm (j.append l) A k⟩;subst e;have B:ys=[]:=by have:=l.length;exact List.eq_nil_of_length_eq_zero this.symm
     subst B;rw[append_nil]at k;exact bH.bZ sm C k
 .rename_i G J;obtain⟨m,he⟩:=aW he;subst he;rw[o.str]at g;rw[q.str]at h;exact wA f s σ H _ _ v u Q I g h ⟨_,_,rfl,rfl,m,bH.bZ sm (Mw _) k⟩
 .cases he
theorem sS:gD X (binaryOp .Sub) (rD X.K (pM .sub)):=by
 rintro f s σ H x y v u Q I g h⟨F,d,e,r,sm,j,l,he,k⟩;replace he:ur d e=some r:=he;unfold ur at he;split at he;.cases he;rw[j.int]at g;rw[l.int]at h;exact Od f s σ H _ _ v u Q I g h ⟨_,_,rfl,rfl,bH.bZ sm (bA _) k⟩
 .cases he
theorem Hv:gD X (binaryOp .Mult) (λx y H Q=>∃l k xs,x=.ref l/\y=.int k/\dJ X.K H l xs/\-(2^63)<=k/\k<2^63/\xs.length*k.toNat<=sizeLine/\∀p,H p=none->Q (.ref p) (upd H p (.lst (replicate k.toNat xs).flatten))):=by
 intro w s σ H x y v u Q I A B h;obtain⟨l,k,xs,rfl,rfl,C,h1,E,hz,q⟩:=h;cases A;obtain⟨t,rfl⟩:=B;obtain⟨f,r,G,_⟩:=I.list C;obtain⟨⟨cls,z,data,sl⟩,ho,hc,n,hd⟩:=id G.isList;simp only at hc hd;subst hc hd;have g:f.toArray.size*k.toNat<=sizeLine:=by rw[size_toArray,<-r.length];exact hz
 have o:¬ f.toArray.size*k.toNat>(2^63-1)/8:=by
  have:(sizeLine:Nat)<=(2^63-1)/8:=by decide
  omega
 have j:foldl (·++·) #[] (replicate (if f.toArray.isEmpty=true then 0 else k.toNat) f.toArray)=(replicate k.toNat f).flatten.toArray:=by
  have f0:∀m:Nat,foldl (·++·) #[] (replicate m f.toArray)=(replicate m f).flatten.toArray:=λm=>by have:=foldl_rep f m [];rw[nil_append]at this;exact this
  rw[f0];cases f with|nil=>simp|cons a r'=>rw[if_neg (by simp)]
 refine wpAny_binaryOp_repeat_ref (T:="list") (U:="int") (by decide) ⟨_,ho,rfl⟩ (λJ=>typeIs_int J k t) noFill_list_mul F.fills_int_mul F.slot_int_rmul repeat_list F.slot_int_index.lookup ?_;refine call_meets F.slot_int_rmul (typeIs_int s k t) F.entry_int_rmul (F.args_int_rmul_2 _ _) (pP k t l f.toArray n z sl) ⟨ho,rfl,⟨_,ho,rfl⟩,?_⟩;refine call_meets F.slot_list_mul ⟨_,ho,rfl⟩ F.entry_list_mul (F.args_list_mul_2 _ _) (Am l f.toArray n z sl k t (by rw[fitsIndex_both h1 E];exact Bool.false_ne_true) o (by rw[Ci g];exact Bool.false_ne_true)) ⟨ho,?_⟩;rw[j];exact⟨.ref _,_,I.Mi (t':=s.toks) (r.rep k.toNat) (by rw[len_rep,Nat.mul_comm];exact hz),rfl,q _ I.fresh⟩
theorem lz:fillsNumberSlot (.type "tuple") "mul"=pure false:=PySem.fillsNumberSlot_seq (id:="tuple.__mul__") (r:=some (.builtin "tuple.__rmul__")) slot_tuple_mul.lookup (by decide+kernel) PySem.F.slot_tuple_rmul.lookup (by decide+kernel)
theorem sG:seqRepeat? (.type "tuple")=pure (some (.builtin "tuple.__mul__")):=by unfold seqRepeat?;rw[PySem.seqSlot_of (T:="tuple") (name:="__mul__") (id:="tuple.__mul__") slot_tuple_mul.lookup (by decide+kernel),PySem.seqSlot_of (T:="tuple") (name:="__rmul__") (id:="tuple.__rmul__") PySem.F.slot_tuple_rmul.lookup (by decide+kernel)];rfl
theorem oO(k:Int)(t:Tok)(l:Addr)(f:Array Value)(n:Nat)(j:Option Addr)(sl:Array (Option Value)):Meets (Builtin.«int.__rmul__» ⟨[.int k t,.ref l],[]⟩) (λ_ R s=>s.heap.get? l=some ⟨.type "tuple",j,.seq f n,sl⟩/\R (.ok (.ret Value.notImplemented)) s):=.of_wp λprog w A R s h=>by obtain⟨m,g,d,o,os⟩:=s;obtain⟨q,h⟩:=h;wp_walk;exact⟨_,rfl,h⟩
theorem wC(l:Addr)(f:Array Value)(n:Nat)(r:Option Addr)(sl:Array (Option Value))(k:Int)(t:Tok)(h0:0<=k)(h1:k<2^63)(hz:f.size*k.toNat<=sizeLine)(u:0<f.size):Meets (Builtin.«tuple.__mul__» ⟨[.ref l,.int k t],[]⟩) (λ_ R s=>s.heap.get? l=some ⟨.type "tuple",r,.seq f n,sl⟩/\(k=1->R (.ok (.ret (Value.ref l))) s)/\(k≠1->R (.ok (.ret (Value.ref s.heap.objs.size))) {s with heap:=s.heap.push {cls:=.type "tuple",data:=.seq (foldl (·++·) #[] (replicate k.toNat f))}})):=.of_wp λprog w A R s h=>by
  obtain⟨y,g,d,I,os⟩:=s;obtain⟨o,z,B⟩:=h;have j:f.isEmpty=false:=by cases e:f.isEmpty with|false=>rfl|true=>rw[Array.isEmpty_iff_size_eq_zero]at e;omega
  show wpAny _ _ (asIndex (.int k t)>>=_) _ _ _;wp_walk using wpAny_loadPart' o;have C:IsTup y l f:=⟨_,o,rfl,n,rfl⟩;rw[if_neg (by simp;omega)];refine wpAny_bind (PyProof.Rows.tupleItemsOf_ C ?_);try dsimp only
  by_cases m:k=1;.rw[if_pos (by simp[m])];wp_walk using wpAny_loadPart' o;exact⟨_,rfl,z m⟩
  . have q:=B m;rw[if_neg (by simp[j,m])];by_cases E:k=0;.subst E;rw[if_pos (by simp)];unfold tupleExact;refine wpAny_bind (wpAny_newObj_type ?_);exact wpAny_pure ⟨_,rfl,q⟩
    . have J:(f.size:Int)*k<=sizeLine:=by
       have:((f.size*k.toNat:Nat):Int)<=(sizeLine:Nat):=by exact_mod_cast hz
       rw[Int.natCast_mul,show((k.toNat:Nat):Int)=k by omega]at this;exact this
      have G:(sizeLine:Int)<=(2^63-1)/8:=by decide
      rw[if_neg (by simp[j];omega),if_neg (by omega),if_neg (by simp[Builtin.Tuple.tupleTooMany];omega)];unfold tupleExact;refine wpAny_bind (wpAny_newObj_type ?_ ?_);.exact wpAny_pure ⟨_,rfl,q⟩
      .have:=foldl_rep f.toList k.toNat [];rw[nil_append,show f.toList.toArray=f by simp]at this;show(foldl (·++·) #[] (replicate k.toNat f)).size<=sizeLine;rw[show(#[]:Array Value)=([]:List Value).toArray from rfl,this,size_toArray,len_rep,length_toList,Nat.mul_comm];exact hz
theorem Ih:gD X (binaryOp .Mult) (λx y H Q=>∃l k xs,x=.ref l/\y=.int k/\ji X.K H l xs/\0<xs.length/\0<=k/\k<2^63/\xs.length*k.toNat<=sizeLine/\(k=1->Q (.ref l) H)/\(k≠1->∀p,H p=none->Q (.ref p) (upd H p (.tup (replicate k.toNat xs).flatten)))):=by
 intro w s σ H x y v u Q I A B h;obtain⟨l,k,xs,rfl,rfl,C,m,h1,E,hz,G,J⟩:=h;cases A;obtain⟨t,rfl⟩:=B;obtain⟨f,r,L,_⟩:=I.tuple C;obtain⟨⟨cls,z,data,sl⟩,ho,hc,n,hd⟩:=id L;simp only at hc hd;subst hc hd;have g:f.toArray.size*k.toNat<=sizeLine:=by rw[size_toArray,<-r.length];exact hz
 have j:foldl (·++·) #[] (replicate k.toNat f.toArray)=(replicate k.toNat f).flatten.toArray:=by have:=foldl_rep f k.toNat [];rw[nil_append]at this;exact this
 refine wpAny_binaryOp_repeat_ref (T:="tuple") (U:="int") (by decide) ⟨_,ho,rfl⟩ (λM=>typeIs_int M k t) lz F.fills_int_mul F.slot_int_rmul sG F.slot_int_index.lookup ?_;refine call_meets F.slot_int_rmul (typeIs_int s k t) F.entry_int_rmul (F.args_int_rmul_2 _ _) (oO k t l f.toArray n z sl) ⟨ho,rfl,⟨_,ho,rfl⟩,?_⟩;refine call_meets slot_tuple_mul ⟨_,ho,rfl⟩ PySem.F.entry_tuple_mul (PySem.F.args_tuple_mul_2 _ _) (wC l f.toArray n z sl k t h1 E g (by rw[size_toArray,<-r.length];exact m)) ⟨ho,λe=>⟨.ref l,H,I,rfl,G e⟩,λe=>?_⟩;rw[j];refine⟨.ref s.heap.objs.size,_,I.laid (t':=s.toks) (o:=.tup (replicate k.toNat xs).flatten) (λb N q=>fH q) (bN) ?_,rfl,J e _ (I.hok.fresh (bN))⟩;exact⟨by rw[len_rep,Nat.mul_comm];exact hz,_,r.rep k.toNat,IsTup.new _ _⟩
theorem gj:gD X (binaryOp .Mult) (rD X.K (pM .mul)):=by
 rintro f s σ H x y v u Q I l g⟨F,d,e,r,sm,o,q,he,k⟩;replace he:nT d e=some r:=he;unfold nT at he;split at he;.obtain⟨hc,he⟩:=aW he;subst he;rw[o.int]at l;rw[q.int]at g;exact P0 f s σ H _ _ v u Q I l g ⟨_,_,rfl,rfl,hc,bH.bZ sm (bA _) k⟩
 . rename_i xs i;obtain⟨⟨h1,m,j⟩,he⟩:=aW he;subst he;obtain⟨a,vs,rfl,t,h⟩:=o.lst sm;rw[q.int]at g;have w:i<2^63:=by have z:=Nat.le_mul_of_pos_left i.toNat m;have B:i.toNat<=16777216:=le_trans z j;omega
   exact Hv f s σ H _ _ v u Q I l g ⟨a,i,vs,rfl,rfl,t,by omega,w,by rw[h.length];exact j,λp A=>xK sm (h.rep i.toNat) A k⟩
 . rename_i xs i;obtain⟨⟨h1,m,j⟩,he⟩:=aW he;subst he;obtain⟨a,vs,rfl,t,h,C⟩:=o.tup sm;rw[q.int]at g;have w:i<2^63:=by have z:=Nat.le_mul_of_pos_left i.toNat m;have B:i.toNat<=16777216:=le_trans z j;omega
   refine Ih f s σ H _ _ v u Q I l g ⟨a,i,vs,rfl,rfl,t,by rw[h.length];exact m,h1,w,by rw[h.length];exact j,λe=>?_,λe p A=>Ac sm (h.rep i.toNat) A k⟩;subst e;refine bH.bZ sm ?_ k;have E:(replicate (1:Int).toNat xs).flatten=xs:=by simp
   rw[E];exact C
 .cases he
theorem uN:gD X (binaryOp .FloorDiv) (rD X.K (pM .fdiv)):=by
 rintro f s σ H x y v u Q I g h⟨F,d,e,r,sm,l,m,he,k⟩;replace he:ou d e=some r:=he;unfold ou at he;split at he
 . rename_i i j;obtain⟨⟨h1,q⟩,he⟩:=aW he;subst he;rw[l.int]at g;rw[m.int]at h;obtain⟨t,rfl⟩:=g;obtain⟨t',rfl⟩:=h;have o:j.natAbs.log2<9000:=by
    have:j.natAbs<2^200:=by
     have:(2:Nat)^200=1606938044258990275541962092341162602522202993782792835301376:=by decide
     omega
    have w:=(Nat.log2_lt (by omega)).mpr this;omega
   exact floordiv_int (by omega) (by rw[Int.fdiv_eq_ediv_of_nonneg i (by omega)];exact⟨.int _,H,I.tok _,⟨_,rfl⟩,bH.bZ sm (bA _) k⟩) (.inl (PyProof.noPylong_of_log2 o))
 .cases he
theorem dI:gD X (binaryOp .Mod) (rD X.K (pM .mod)):=by
 rintro f s σ H x y v u Q I g h⟨F,d,e,r,sm,j,l,he,k⟩;replace he:vB d e=some r:=he;unfold vB at he;split at he;.obtain⟨h1,he⟩:=aW he;subst he;rw[j.int]at g;rw[l.int]at h;exact Qx f s σ H _ _ v u Q I g h ⟨_,_,rfl,rfl,h1,bH.bZ sm (bA _) k⟩
 .cases he
theorem mL:gD X (binaryOp .Pow) (rD X.K (pM .pow)):=by
 rintro f s σ H x y v u Q I g h⟨F,d,e,r,sm,j,l,he,k⟩;replace he:uF d e=some r:=he;unfold uF at he;split at he;.obtain⟨⟨h1,o,m⟩,he⟩:=aW he;subst he;rw[j.int]at g;rw[l.int]at h;exact OJ f s σ H _ _ v u Q I g h ⟨_,_,rfl,rfl,⟨h1,by omega,m⟩,bH.bZ sm (bA _) k⟩
 .cases he
theorem aB{o:Op}{op:Operator}(ho:gD X (binaryOp op) (rD X.K (pM o)))(f:SX X c a pa)(g:SX X c b pb):SX X c (.BinOp a op b pos) (.bin o pa pb):=wM (λh1 h=>UJ ho h1 h) f g (λρ=>rfl) rfl
theorem qZ(j:SX X c a pa):SX X c (.UnaryOp .USub a pos) (.neg pa):=by refine Mr (f:=Cd) (λh1=>Vs ?_ h1) j (λρ=>rfl) rfl;rintro g s σ H x v Q I h⟨F,d,r,sm,l,he,k⟩;unfold Cd at he;obtain⟨i,m,o⟩:=map_some he;subst o;cases d<;>cases m;rw[l.int]at h;exact Mx g s σ H _ v Q I h ⟨_,rfl,bH.bZ sm (bA _) k⟩
theorem zJ{op:CmpOp}{f:Int->Int->Bool}(ho:gD X (compareOp op) (Ku λi j=>.bl (f i j))):gD X (compareOp op) (rD X.K λx y=>(G7 f x y).map λk=>.val (.bl k)):=by
 rintro g s σ H x y v u Q I l m⟨F,d,e,r,sm,o,q,he,k⟩;obtain⟨t,h,w⟩:=map_some (show(G7 f d e).map _=some r from he);subst w;unfold G7 at h;split at h;.cases h;rw[o.int]at l;rw[q.int]at m;exact ho g s σ H _ _ v u Q I l m ⟨_,_,rfl,rfl,bH.bZ sm (gB _) k⟩
 .cases h
theorem M7{op:CmpOp}{f:Int->Int->Bool}(ho:gD X (compareOp op) (Ku λi j=>.bl (f i j))){o:Cm}(hc:cm o=G7 f):gD X (compareOp op) (rD X.K (Bf o)):=by
 have e:Bf o=λx y=>(G7 f x y).map λk=>.val (.bl k):=by funext x y;unfold Bf;rw[hc]
 rw[e];exact zJ ho
theorem O7:gD X (compareOp .Lt) (rD X.K λx y=>(G7 (λi j=>decide (i<j)) x y).map λk=>.val (.bl k)):=zJ UT
theorem sH:gD X (compareOp .Gt) (rD X.K (Bf .gt)):=M7 Vo rfl
theorem Bk{d:D}(h:cP K F H v d):decide (v=.non)=iy d:=by cases d with
 |non=>rw[h.non];rfl|bl _=>rw[h.bl];rfl|int _=>rw[h.int];rfl|str _=>rw[h.str];rfl|tup _=>
   rcases h with h|⟨a,_,_,rfl,_⟩;.rw[Rep]at h;obtain⟨a,_,rfl,_⟩:=h;rfl
   .rfl|lst _=>
   rcases h with h|⟨a,_,_,rfl,_⟩;.rw[Rep]at h;obtain⟨a,_,rfl,_⟩:=h;rfl
   .rfl|cH _=>
   rcases h with h|⟨a,_,_,rfl,_⟩;.rw[Rep]at h;obtain⟨a,_,rfl,_⟩:=h;rfl
   .rfl|dv _ _=>
   rcases h with h|⟨a,_,_,rfl,_⟩;.rw[Rep]at h;obtain⟨a,_,_,rfl,_⟩:=h;rfl
   .rfl
theorem JP:gD X (compareOp .IsNot) (rD X.K (Bf .JW)):=by
 rintro f s σ H x y v u Q I h j⟨F,d,e,r,sm,l,m,he,k⟩;obtain⟨t,g,o⟩:=map_some (show(Xa true d e).map _=some r from he);subst o;unfold Xa at g;split at g;.cases g;exact IW f s σ H x y v u Q I h j ⟨m.non,by rw[Bk l];exact bH.bZ sm (gB _) k⟩
 .cases g
end
section
variable{X:Cx}{c:Call}{e a b d:Expr}{p pa pb pd:P}{pos:Pos}{rest:List Expr}
theorem oJ{x:D}{k:Bool}(h:wW x=some k):x=.bl k:=by cases x<;>cases h;rfl
theorem bO{x:D}{k:Int}(h:fG x=some k):x=.int k:=by cases x<;>cases h;rfl
theorem bL.bool{g j:Hp}{f:L2.St}{r:R}{k:Bool}(h:bL K g ρ' f j ρ σ H v r)(e:r.d=.bl k):v=.bl k:=by cases r with|val d=>cases(show d=.bl k from e);have h:Rep K g v (.bl k):=h;rw[Rep]at h;exact h|own ds=>cases e
def ST(X:Cx)(c:Call)(e:Expr)(p:P):Prop:=PT X e (G6 X.K (iH (HH.ev c p)))
def SW(X:Cx)(c:Call)(e:Expr)(p:P):Prop:=PW X e (G6 X.K (iH (HH.ev c p)))
theorem SW.st(h:SW X c e p):ST X c e p:=PW.pt h
theorem lG{t:TE}{Q:Bool->Hp->Prop}(hi:∀Q,vV X.K (HH.ev c p) σ H Q->t σ H Q)(h:G6 X.K (iH (HH.ev c p)) σ H Q):t σ H λx l=>∃k,x=.bl k/\Q k l:=by obtain⟨F,ρ,k,ρ',g,e,q⟩:=h;obtain⟨r,j,m,f⟩:=aa e;have o:=az f;clear f;obtain⟨f,u⟩:=o;subst u;exact hi _ ⟨F,ρ,r,j,g,m,λv w y s z=>⟨k,z.bool (oJ f),q w y s⟩⟩
theorem jD(h:SX X c e p)(he:∀f,isTrue e X.env f=(do let v<-f;standAt e.pos;holding [v] (truthy v)):=by intro _;rfl):ST X c e p:=vm (Mv h.ev he) λσ H Q q=>lG (λ_ z=>z) q
theorem jq{o:Cm}{op:CmpOp}(ho:gD X (compareOp op) (rD X.K (Bf o)))(j:SX X c a pa)(l:SX X c b pb)(m:behindInMarks op b=false):ST X c (.Compare a [op] [b] pos) (.cmp o pa pb):=by obtain⟨y,A,h1,B,C⟩:=j.gO l;refine vm (yq ho h1 B m) λσ H Q q=>lG (t:=Sh (rD X.K (Bf o)) y A) (λQ z=>?_) q;obtain⟨F,ρ,r,ρ',g,e,k⟩:=z;rw[HH.E8]at e;obtain⟨h,E,G,f⟩:=aa e;have I:=az f;clear f;obtain⟨f,J⟩:=I;subst J;refine C g G λv u L Y s M N=>⟨L,h.1,h.2,r,s.gs.sub,M,N,f,λw O U x W=>?_⟩;exact k w O U (s.trans (x.stp s.gs)) (.later s (W.pq s.gs))
theorem wV(l:ST X c a pa):ST X c (.UnaryOp .Not a pos) (.not pa):=by
 refine vm (Nr l) ?_;rintro σ H Q⟨F,ρ,k,ρ',g,e,q⟩;unfold iH at e;rw[HH.E5]at e;obtain⟨r,m,o,f⟩:=aa e;obtain⟨h,t,u,w⟩:=aa o;cases w;have y:=az f;clear f;obtain⟨f,z⟩:=y;subst z;have f:(!h)=k:=by cases f;rfl
 exact⟨F,ρ,h,_,g,u,λA j s=>by show Q (!h) j;rw[f];exact q A j s⟩
theorem M4(ρ:List Sl):iH (HH.ev c (.or pa pb)) ρ=(iH (HH.ev c pa) ρ).bind λx ρ=>if x then .ok true ρ else iH (HH.ev c pb) ρ:=by unfold iH;rw[HH.E7];unfold iH;cases HH.ev c pa ρ with|exc _ _=>rfl|stuck=>rfl|ok r f=>simp only[Res.bind];cases h:wW r.d with|none=>rfl|some k=>cases k with|true=>rfl|false=>simp only[lift,false_eq_true,if_false];cases HH.ev c pb f with|exc _ _=>rfl|stuck=>rfl|ok g j=>simp only[Res.bind];cases h2:wW g.d with|none=>rfl|some l=>rfl
theorem FT(f:ST X c a pa):SW X c (.BoolOp .Or [a] pos) pa:=Qp f
theorem Fb(h:ST X c a pa)(j:SW X c (.BoolOp .Or (b::rest) pos) pb):SW X c (.BoolOp .Or (a::b::rest) pos) (.or pa pb):=by refine TV (T8 h j) ?_;rintro σ H Q⟨F,ρ,k,ρ',g,e,q⟩;rw[M4]at e;obtain⟨x,f,l,e⟩:=aa e;refine⟨F,ρ,x,f,g,l,λF1 m s1=>?_⟩;cases x with|true=>rw[if_pos rfl]at e ⊢;cases e;exact q F1 m s1|false=>rw[if_neg Bool.false_ne_true]at e ⊢;exact⟨F1,f,k,ρ',s1.gs,e,λo r s2=>q o r (s1.trans s2)⟩
theorem MP(j:SX X c a pa):SX X c (.UnaryOp .Not a pos) (.not pa):=by refine⟨cY (PX j.ev) ?_,λi h=>by cases h⟩;rintro σ H Q⟨F,ρ,r,ρ',g,e,k⟩;rw[HH.E5]at e;obtain⟨x,l,m,o⟩:=aa e;cases o;exact lG (c:=c) (λ_ z=>z) ⟨F,ρ,x,_,g,m,λf q s=>k _ f q s (show Rep X.K f _ _ from gB _)⟩
theorem zb{op}(f:SX X c a pa):PE X (.BoolOp op [a] pos) (vV X.K (HH.ev c pa)):=O9 f.ev
theorem Dv(o:SX X c a pa)(q:PE X (.BoolOp .And (b::rest) pos) (vV X.K (HH.ev c pb))):SX X c (.BoolOp .And (a::b::rest) pos) (.and pa pb):=by refine⟨cY (Qh o.ev q) ?_,λi h=>by cases h⟩;rintro σ H Q⟨F,ρ,r,ρ',g,e,k⟩;rw[HH.E6]at e;obtain⟨x,f,s,e⟩:=aa e;refine lG (c:=c) (λ_ z=>z) (Q:=λx j=>if x=true then vV X.K (HH.ev c pb) σ j Q else Q (.bl false) j) ⟨F,ρ,x,f,g,s,λF1 j s1=>?_⟩;cases x with|true=>rw[if_pos rfl]at e ⊢;obtain⟨y,t,u,w⟩:=aa e;cases w;obtain⟨A,B,C,l⟩:=aa u;have E:=az l;clear l;obtain⟨l,G⟩:=E;subst G;refine⟨F1,f,A,_,s1.gs,C,λv m I s2 J=>?_⟩;rw[J.bool (oJ l)];exact k _ m I (s1.trans s2) (show Rep X.K m _ _ from gB _)|false=>rw[if_neg Bool.false_ne_true]at e ⊢;cases e;exact k _ F1 j s1 (show Rep X.K F1 _ _ from gB _)
theorem qY(hc:ST X c e p)(w:SX X c a pa)(y:SX X c b pb):SX X c (.IfExp e a b pos) (.Ln p pa pb):=by refine⟨cY (Et hc w.ev y.ev) ?_,λi h=>by cases h⟩;rintro σ H Q⟨F,ρ,r,ρ',g,e,k⟩;rw[HH.E9]at e;obtain⟨x,f,z,e⟩:=aa e;refine⟨F,ρ,x,f,g,z,λF1 B s1=>?_⟩;cases x with|true=>rw[if_pos rfl]at e ⊢;obtain⟨j,l,m,o⟩:=aa e;cases o;refine⟨F1,f,j,_,s1.gs,m,λv A q s2 s=>?_⟩;obtain⟨t,s3,_,u⟩:=s2.cz s;exact k v t q (s1.trans s3) u|false=>rw[if_neg Bool.false_ne_true]at e ⊢;obtain⟨j,l,m,o⟩:=aa e;cases o;refine⟨F1,f,j,_,s1.gs,m,λv A q s2 s=>?_⟩;obtain⟨t,s3,_,u⟩:=s2.cz s;exact k v t q (s1.trans s3) u
theorem rA:∀{ps:List P}{ρ ρ':List Sl}{ds:List D},evs c ps ρ=.ok ds ρ'->ds.length=ps.length|[],_,_,_,h=>by rw[evs]at h;cases h;rfl|p::ps,_,_,_,h=>by rw[evs]at h;obtain⟨r,f,_,h⟩:=aa h;obtain⟨xs,g,j,h⟩:=aa h;cases h;simp[rA j]
theorem aM:SA X c [] []:=⟨vy dF λσ H Q⟨F,ρ,ds,ρ',g,e,k⟩=>by rw[evs]at e;cases e;exact k [] F H (.refl g) .nil,rfl⟩
theorem Hu{ps:List P}(h:SX X c a pa)(hr:SA X c es ps)(hs:starEach (a::es) X.env=(false,eval a X.env)::starEach es X.env:=by rfl):SA X c (a::es) (pa::ps):=by refine⟨vy (bC h.ev hr.1 hs) ?_,by simp[hr.2]⟩;rintro σ H Q⟨F,ρ,ds,ρ',g,e,k⟩;rw[evs]at e;obtain⟨r,f,j,e⟩:=aa e;obtain⟨xs,l,m,e⟩:=aa e;cases e;refine⟨F,ρ,r,f,g,j,λv y z s o=>?_⟩;obtain⟨F1,s1,_,q⟩:=s.cz o;refine⟨F1,f,xs,_,s1.gs,m,λvs t u s2 w=>?_⟩;exact k _ t u (s1.trans s2) (.cons (q.mono s2.cu) w)
theorem Ext.Hw{h j:Hp}{Q:VK}{xs:List V}(s:aq K j ρ σ h F ρ' σ H)(r:au K F xs ds)(k:∀v g f,aq K j ρ σ h g ρ' σ f->bL K g ρ' σ f ρ σ h v (.val (.tup ds))->Q v f)(p:Addr)(l:H p=none):Q (.ref p) (upd H p (.tup xs)):=Ac s.gs.sub r l λv g f x m=>k v g f (s.trans (x.stp s.gs)) m
theorem cg{ps:List P}{x1}(h:SA X c es ps)(hz:ps.length<=sizeLine:=by decide):SX X c (.Tuple es x1 pos) (.tup ps):=by refine⟨cY (Oq h.1) ?_,λi h=>by cases h⟩;rintro σ H Q⟨F,ρ,r,ρ',g,e,k⟩;rw[HH.E10]at e;obtain⟨ds,l,f,e⟩:=aa e;cases e;exact⟨F,ρ,ds,_,g,f,λvs o q s j=>⟨by rw[j.length,rA f];exact hz,λp m=>Ext.Hw s j k p m⟩⟩
theorem fu{ps:List P}(h:SA X c es ps)(hz:ps.length<=sizeLine:=by decide):SX X c (.List es pos) (.lst ps):=by refine⟨cY (Nx h.1) ?_,λi h=>by cases h⟩;rintro σ H Q⟨F,ρ,r,ρ',g,e,k⟩;rw[HH.E11]at e;obtain⟨ds,l,f,e⟩:=aa e;cases e;exact⟨F,ρ,ds,_,g,f,λvs u w s j=>⟨by rw[j.length,rA f];exact hz,λp m=>xK s.gs.sub j m λv o q x t=>k v o q (s.trans (x.stp s.gs)) (.later s (t.pq s.gs))⟩⟩
theorem Gk{i:Int}{d:D}(h:at' ds i=some d):∃j,L2.gw ds.length i=some j/\ds[j]?=some d:=bJ h
theorem aaK:Xy X (rD X.K Hm):=by
 rintro f slice g s σ H x y v u Q I m l⟨F,d,e,r,sm,t,A,he,k⟩hs;unfold Hm at he;obtain⟨ds,B,he⟩:=bJ he;obtain⟨i,C,he⟩:=bJ he;obtain⟨z,E,he⟩:=map_some he;subst he;cases bO C;rw[A.int]at l;obtain⟨p,xs,rfl,hq,o⟩:=t.items sm B;obtain⟨j,h1,G⟩:=Gk E;obtain⟨w,J,q⟩:=o.get G;have h:DY xs i=some w:=by unfold DY;rw[o.length,h1];exact J
 rcases hq with hq|hq;.exact zG f slice g s σ H _ _ v u Q I m l ⟨p,xs,i,w,rfl,rfl,hq,h,bH.bZ sm q k⟩ hs
 .exact Mg f slice g s σ H _ _ v u Q I m l ⟨p,xs,i,w,rfl,rfl,hq,h,bH.bZ sm q k⟩ hs
theorem aA(g:SX X c a pa)(h:SX X c b pb)(hs:sI b:=by intro _ _;rfl):SX X c (.Subscript a b pos) (.idx pa pb):=wM (f:=Hm) (λh1 j=>KH aaK h1 j hs) g h (λρ=>rfl) rfl
def Lg(K:PySem.W.Frag)(f:D->Option R):List V->Hp->VK->Prop:=λxs H Q=>∃x,xs=[x]/\rD1 K f x H Q
theorem nj{E:Expr}{f:D->Option R}{q:P}(l:∀{t},PA X [a] t->PE X E (Yi (Lg X.K f) t))(m:SX X c a pa)(o:∀ρ,HH.ev c q ρ=(HH.bF (isVar pa) (HH.ev c pa) ρ).bind λx ρ=>lift (f x) ρ)(u:isVar q=none)(hs:starEach [a] X.env=(false,eval a X.env)::starEach [] X.env:=by rfl):SX X c E q:=by obtain⟨N,h1,y⟩:=m.bF;refine⟨cY (l (bC h1 dF hs)) ?_,λi h=>by rw[u]at h;cases h⟩;rintro σ H Q⟨F,ρ,r,ρ',g,e,k⟩;rw[o]at e;obtain⟨x,z,A,j⟩:=aa e;have B:=az j;clear j;obtain⟨j,C⟩:=B;subst C;refine y g A λv G O s I=>⟨v,rfl,G,x,r,s.gs.sub,I,j,λw J L x M=>?_⟩;exact k w J L (s.trans (x.stp s.gs)) (.later s (M.pq s.gs))
theorem VH:cR X (.builtin "len") (Lg X.K λx=>blt .len [x]):=by rintro f s σ H xs g Q I r⟨x,h,F,d,r',sm,j,he,k⟩;obtain⟨ds,l,he⟩:=map_some (show(items d).map _=some r' from he);subst he;obtain⟨p,ys,rfl,m,o⟩:=j.items sm l;exact tQ f s σ H xs g Q I r ⟨p,ys,h,m,by rw[o.length];exact bH.bZ sm (bA _) k⟩
theorem Ma:cR X (.type "list") (Lg X.K λx=>blt .list [x]):=by rintro f s σ H xs g Q I r⟨x,h,F,d,r',sm,j,he,k⟩;obtain⟨ds,m,he⟩:=map_some (show(items d).map _=some r' from he);subst he;obtain⟨p,ys,rfl,o,q⟩:=j.items sm m;exact rY f s σ H xs g Q I r ⟨p,ys,h,o,λl t=>xK sm q t k⟩
theorem Ju:cR X (.type "tuple") (Lg X.K λx=>blt .tuple [x]):=by rintro f s σ H xs j Q I r⟨x,m,F,d,r',sm,o,he,k⟩;obtain⟨ds,g,he⟩:=map_some (show(items d).map _=some r' from he);subst he;cases d with|tup es=>cases g;obtain⟨a,ys,rfl,h,q,rt⟩:=o.tup sm;exact jk f s σ H xs j Q I r ⟨a,ys,m,.inr ⟨h,bH.bZ sm rt k⟩⟩|lst es=>cases g;obtain⟨a,ys,rfl,h,q⟩:=o.lst sm;exact jk f s σ H xs j Q I r ⟨a,ys,m,.inl ⟨h,λl t=>Ac sm q t k⟩⟩|_=>cases g
theorem jt(f:x="len")(g:Gl X x)(j:X.mg x=none)(k:SX X c a pa)(hs:starEach [a] X.env=(false,eval a X.env)::starEach [] X.env:=by rfl):SX X c (.Call (.Name x p') [a] [] pos) (.blt .len [pa]):=by subst f;exact nj (λh=>dq VH g j PySem.boot_len h (he:=hs)) k (λρ=>rfl) rfl hs
theorem Hs(f:x="list")(g:Gl X x)(j:X.mg x=none)(k:SX X c a pa)(hs:starEach [a] X.env=(false,eval a X.env)::starEach [] X.env:=by rfl):SX X c (.Call (.Name x p') [a] [] pos) (.blt .list [pa]):=by subst f;exact nj (λh=>lB Ma g j (by decide+kernel) h (he:=hs)) k (λρ=>rfl) rfl hs
theorem Ex(f:x="tuple")(g:Gl X x)(j:X.mg x=none)(k:SX X c a pa)(hs:starEach [a] X.env=(false,eval a X.env)::starEach [] X.env:=by rfl):SX X c (.Call (.Name x p') [a] [] pos) (.blt .tuple [pa]):=by subst f;exact nj (λh=>lB Ju g j (by decide+kernel) h (he:=hs)) k (λρ=>rfl) rfl hs
end
def Il(K:PySem.W.Frag)(np:Nat)(f:List Sl->Res R):Sp:=λvs H Q _=>vs.length=np/\∃F args r a,GS K F args (vs.map some) H/\f args=.ok r a/\∀v e b c,aq K F args (vs.map some) H e a b c->bL K e a b c args (vs.map some) H v r->Q v c
section
variable{K:PySem.W.Frag}
def wJ(K:PySem.W.Frag)(F:Hp)(ρ:List Sl)(σ:L2.St)(H:Hp)(ρ₀:List Sl)(H₀:Hp)(v:V):Arg->Prop|.dat d=>Rep K F v d|.tmp ds=>∃x xs,v=.ref x/\H x=some (.lst xs)/\F x=none/\au K F xs ds/\¬ Own ρ σ x/\(Own ρ₀ σ x\/H₀ x=none)|.dD i=>σ[i]?=some (some v)
structure vo(K:PySem.W.Frag)(F:Hp)(ρ:List Sl)(σ:L2.St)(H:Hp)(ρ₀:List Sl)(H₀:Hp)(as:List Arg)(vs:List V):Prop where
 len:as.length=vs.length
 one:∀(j:Nat)(a:Arg)(v:V),as[j]?=some a->vs[j]?=some v->wJ K F ρ σ H ρ₀ H₀ v a
 dis:∀(j k:Nat)(ds es:List D)(x:Addr),as[j]?=some (.tmp ds)->as[k]?=some (.tmp es)->vs[j]?=some (.ref x)->vs[k]?=some (.ref x)->j=k
theorem wJ.later{b f:Hp}{a:Arg}(s:aq K F ρ σ H b ρ' σ f)(h:wJ K F ρ σ H ρ₀ H₀ v a):wJ K b ρ' σ f ρ₀ H₀ v a:=by cases a with|dat d=>exact Rep.mono s.cu h|dD i=>exact h|tmp ds=>
   obtain⟨x,xs,h1,c,g,j,e,k⟩:=h;refine⟨x,xs,h1,s.keep x _ c e,?_,j.mono s.cu,λo=>?_,k⟩;.cases q:b x with|none=>rfl|some o=>
       rcases s.vO x g (by rw[q];simp)with z|z;.exact absurd z e
       .exact(BX c z).elim
   . rcases s.tZ x o with z|z;.exact e z
     .rw[c]at z;cases z
theorem vo.nil:vo K F ρ σ H ρ₀ H₀ [] []:=⟨rfl,λj a v h=>by simp at h,λj k ds es x h=>by simp at h⟩
theorem vo.cons{F H H₀:Hp}{ρ ρ₀:List Sl}{σ:L2.St}{a:Arg}{v:V}{as:List Arg}{vs:List V}(h:wJ K F ρ σ H ρ₀ H₀ v a)(t:vo K F ρ σ H ρ₀ H₀ as vs)(hd:∀ds x,a=.tmp ds->v=.ref x->∀(k:Nat)es,as[k]?=some (.tmp es)->vs[k]?≠some (.ref x)):vo K F ρ σ H ρ₀ H₀ (a::as) (v::vs):=by
 refine⟨by simp[t.len],λj b u h1 c=>?_,λj k ds es x h1 c e f=>?_⟩;.cases j with|zero=>simp at h1 c;subst h1;subst c;exact h|succ j=>exact t.one j b u (by simpa using h1) (by simpa using c)
 .cases j with
   |zero=>cases k with|zero=>rfl|succ k=>simp at h1 e;exact absurd (by simpa using f) (hd ds x h1 e k es (by simpa using c))
   |succ j=>cases k with|zero=>simp at c f;exact absurd (by simpa using e) (hd es x c f j ds (by simpa using h1))|succ k=>rw[t.dis j k ds es x (by simpa using h1) (by simpa using c) (by simpa using e) (by simpa using f)]
def Gh(ρ:List Sl):Arg->Sl->Prop|.dat d,s=>s=.val false d|.tmp ds,s=>s=.own false ds|.dD i,s=>(∃b d,ρ[i]?=some (.val b d)/\s=.val false d)\/(∃b ds,ρ[i]?=some (.own b ds)/\s=.own true ds)\/∃ds,ρ[i]?=some (.lent ds)/\s=.lent ds
theorem pD{ρ:List Sl}:∀{as:List Arg}{c:List Nat}{args:List Sl},aZ ρ as c=some args->args.length=as.length/\(∀(j:Nat)(a:Arg)(s:Sl),as[j]?=some a->args[j]?=some s->Gh ρ a s)/\(∀(j:Nat)(i:Nat)(s:Sl)ds,as[j]?=some (.dD i)->args[j]?=some s->lst? s=some ds->i∉c)/\(∀(j k:Nat)(i:Nat)(s t:Sl)ds es,as[j]?=some (.dD i)->as[k]?=some (.dD i)->args[j]?=some s->args[k]?=some t->lst? s=some ds->lst? t=some es->j=k)
 |[],c,args,h=>by rw[aZ]at h;cases h;exact⟨rfl,λj a s h=>by simp at h,λj i s ds h=>by simp at h,λj k i s t ds es h=>by simp at h⟩|a::as,c,args,h=>by--the aa7 slot,the aa8
   have key:∃s0 r u,args=s0::r/\aZ ρ as u=some r/\Gh ρ a s0/\((∃i ds,a=.dD i/\lst? s0=some ds/\u=i::c/\i∉c)\/((∀i ds,a=.dD i->lst? s0≠some ds)/\u=c)):=by cases a with|dat d=>rw[aZ]at h;obtain⟨r,g,l⟩:=map_some h;exact⟨_,r,c,l.symm,g,rfl,.inr ⟨λi ds z=>(by cases z),rfl⟩⟩|tmp d=>rw[aZ]at h;obtain⟨r,g,l⟩:=map_some h;exact⟨_,r,c,l.symm,g,rfl,.inr ⟨λi ds z=>(by cases z),rfl⟩⟩|dD i=>
      rw[aZ]at h;split at h;.rename_i b d q;obtain⟨r,g,l⟩:=map_some h;exact⟨_,r,c,l.symm,g,.inl ⟨b,d,q,rfl⟩,.inr ⟨λ_ _ _ z=>(by cases z),rfl⟩⟩
      . rename_i b ds q;split at h;.cases h
        .rename_i o;obtain⟨r,g,l⟩:=map_some h;exact⟨_,r,_,l.symm,g,.inr (.inl ⟨b,ds,q,rfl⟩),.inl ⟨i,_,rfl,rfl,rfl,by simpa using o⟩⟩
      . rename_i ds q;split at h;.cases h
        .rename_i o;obtain⟨r,g,l⟩:=map_some h;exact⟨_,r,_,l.symm,g,.inr (.inr ⟨ds,q,rfl⟩),.inl ⟨i,_,rfl,rfl,rfl,by simpa using o⟩⟩
      .cases h
   obtain⟨s0,r,u,rfl,hr,A,o⟩:=key;obtain⟨M,l2,B,N⟩:=pD hr;have sub:∀i,i∉u->i∉c:=λi hi J=>by
    rcases o with⟨_,_,_,_,rfl,_⟩|⟨_,rfl⟩;.exact hi (mem_cons_of_mem _ J)
    .exact hi J
   refine⟨by simp[M],λj b s h1 f=>?_,λj i s ds h1 f p=>?_,λj k i s t ds es h1 f p y C E=>?_⟩;.cases j with|zero=>simp at h1 f;subst h1;subst f;exact A|succ j=>exact l2 j b s (by simpa using h1) (by simpa using f)
   .cases j with|zero=>
       simp at h1 f;subst h1;subst f;rcases o with⟨L,_,e,_,_,m⟩|⟨m,_⟩;.cases e;exact m
       .exact absurd p (m i ds rfl)|succ j=>exact sub i (B j i s ds (by simpa using h1) (by simpa using f) p)
   . have O:∀(k:Nat)(t:Sl)es,a=.dD i->lst? s0=some ds->(as[k]?=some (.dD i))->r[k]?=some t->lst? t=some es->False:=λk t es w G I ht he=>by
      rcases o with⟨L,_,e,_,rfl,m⟩|⟨m,_⟩;.rw[w]at e;cases e;exact B k i t es I ht he mem_cons_self
      .exact m i ds w G
     have Q:∀(k:Nat)(t:Sl)es,a=.dD i->lst? s0=some es->(as[k]?=some (.dD i))->r[k]?=some t->lst? t=some ds->False:=λk t es w G I ht he=>by
      rcases o with⟨L,_,e,_,rfl,m⟩|⟨m,_⟩;.rw[w]at e;cases e;exact B k i t ds I ht he mem_cons_self
      .exact m i es w G
     cases j with
     |zero=>cases k with|zero=>rfl|succ k=>simp at h1 p;subst p;exact(O k t es h1 C (by simpa using f) (by simpa using y) E).elim
     |succ j=>cases k with|zero=>simp at f y;subst y;exact(Q j s es f E (by simpa using h1) (by simpa using p) C).elim|succ k=>rw[N j k i s t ds es (by simpa using h1) (by simpa using f) (by simpa using p) (by simpa using y) C E]
theorem vo.get(A:vo K F ρ σ H ρ₀ H₀ as vs){args:List Sl}{j:Nat}{s:Sl}(c:args.length=as.length)(h:args[j]?=some s):∃a v,as[j]?=some a/\vs[j]?=some v/\wJ K F ρ σ H ρ₀ H₀ v a:=by
 have e:j<args.length:=(dj h).1;have h1:j<as.length:=by omega
 have b:j<vs.length:=by rw[<-A.len];exact h1
 exact⟨as[j],vs[j],by simp[h1],by simp[b],A.one j _ _ (by simp[h1]) (by simp[b])⟩
theorem args_gs{args:List Sl}(g:GS K F ρ σ H)(A:vo K F ρ σ H ρ₀ H₀ as vs)(h:aZ ρ as []=some args):GS K F args (vs.map some) H:=by
 obtain⟨I,l2,l3,Z⟩:=pD h;have M:∀{j:Nat}{v:V},vs[j]?=some v->(vs.map some)[j]?=some (some v):=λe=>by rw[getElem?_map,e];rfl
 have dn:∀{j:Nat}{v:V},(vs.map some)[j]?=some (some v)->vs[j]?=some v:=λ{j v}e=>by rw[getElem?_map]at e;cases q:vs[j]?with|none=>rw[q]at e;cases e|some w=>rw[q]at e;cases e;rfl
 refine⟨g.sub,by rw[I,A.len,length_map],λj b d e=>?_,λj s ds e J=>?_,λj k x⟨⟨s,ds,e1,e2⟩,N⟩⟨⟨t,es,f1,f2⟩,f3⟩=>?_⟩;.obtain⟨a,v,h1,u,m⟩:=A.get I e;have B:=l2 j a _ h1 e;refine⟨v,M u,?_⟩;cases a with|dat d'=>cases B;exact m|tmp ds=>cases B|dD i=>
     rcases B with⟨O,d',r,c⟩|⟨_,_,_,c⟩|⟨_,_,c⟩;.cases c;obtain⟨w,f,p⟩:=g.val i O d r;have m:σ[i]?=some (some v):=m;rw[m]at f;cases f;exact p
     .cases c
     .cases c
 .obtain⟨a,v,h1,u,m⟩:=A.get I e;have B:=l2 j a _ h1 e;cases a with|dat d'=>cases B;cases J|tmp es=>cases B;cases J;obtain⟨x,xs,rfl,c,f,p,_⟩:=m;exact⟨x,_,M u,c,f,xs,rfl,p⟩|dD i=>
     have m:σ[i]?=some (some v):=m;rcases B with⟨O,d',r,c⟩|⟨O,es,r,c⟩|⟨es,r,c⟩;.cases c;cases J
     .cases c;cases J;obtain⟨x,xs,f,p⟩:=g.own i _ _ r rfl;rw[m]at f;cases f;exact⟨x,xs,M u,p⟩
     .cases c;cases J;obtain⟨x,xs,f,p⟩:=g.own i _ _ r rfl;rw[m]at f;cases f;exact⟨x,xs,M u,p⟩
 . obtain⟨a,v,h1,u,m⟩:=A.get I e1;obtain⟨Q,v',C,L,E⟩:=A.get I f1;have N:=dn N;have f3:=dn f3;rw[u]at N;cases N;rw[L]at f3;cases f3;have s1:=l2 j a _ h1 e1;have s2:=l2 k Q _ C f1;have U:∀{i:Nat}{s:Sl}{ds:Oc},lst? s=some ds->Gh ρ (.dD i) s->∃G o,ρ[i]?=some G/\lst? G=some o:=λ{i s ds}l z=>by
    rcases z with⟨_,_,_,z⟩|⟨b,es,q,_⟩|⟨es,q,_⟩;.subst z;cases l
    .exact⟨_,_,q,rfl⟩
    .exact⟨_,_,q,rfl⟩
   cases a with
   |dat d=>cases s1;cases e2|tmp QJ=>cases Q with|dat d=>cases s2;cases f2|tmp Y=>exact A.dis j k QJ Y x h1 C u L|dD i=>obtain⟨y,_,r,_,_,_,c,_⟩:=m;cases r;obtain⟨G,o,f,p⟩:=U f2 s2;exact absurd ⟨i,⟨G,o,f,p⟩,E⟩ c
   |dD i=>obtain⟨G,o,f,p⟩:=U e2 s1;cases Q with|dat d=>cases s2;cases f2|tmp Y=>obtain⟨y,_,r,_,_,_,c,_⟩:=E;cases r;exact absurd ⟨i,⟨G,o,f,p⟩,m⟩ c|dD i'=>obtain⟨W,X,q5,q6⟩:=U f2 s2;have:=g.dis i i' x ⟨⟨G,o,f,p⟩,m⟩ ⟨⟨W,X,q5,q6⟩,E⟩;subst this;exact Z j k i s t ds es h1 C e1 f1 e2 f2
theorem lK{as:List Arg}{ss:List Sl}:∀(ρ:List Sl)(n i:Nat),(bY as ss n ρ)[i]?=(ρ[i]?).map λs=>cZ s (aJ (n+i) as ss)
 |[],n,i=>by simp[bY]|s::ρ,n,0=>by simp[bY]|s::ρ,n,i+1=>by
   rw[bY];simp only[List.getElem?_cons_succ];rw[lK ρ (n+1) i];have:n+1+i=n+(i+1):=by omega
   rw[this]
theorem kZ{as:List Arg}{ss:List Sl}:∀(ρ:List Sl)(n:Nat),(bY as ss n ρ).length=ρ.length|[],n=>rfl|s::ρ,n=>by rw[bY];simp[kZ ρ]
theorem gn{i:Nat}:∀{as:List Arg}{ss:List Sl}{t:Sl},aJ i as ss=some t->∃j:Nat,as[j]?=some (.dD i)/\ss[j]?=some t
 |[],_,_,h=>by simp[aJ]at h|a::as,[],_,h=>by cases a<;>simp[aJ]at h|a::as,s::ss,t,h=>by
   have b:aJ i as ss=some t->∃j:Nat,(a::as)[j]?=some (.dD i)/\(s::ss)[j]?=some t:=λh=>by obtain⟨j,h1,c⟩:=gn h;exact⟨j+1,by simpa using h1,by simpa using c⟩
   cases a with|dat d=>exact b (by simpa[aJ]using h)|tmp d=>exact b (by simpa[aJ]using h)|dD k=>
     rw[aJ]at h;split at h;.rename_i e;cases h;subst e;exact⟨0,rfl,rfl⟩
     .exact b h
theorem jz{i:Nat}:∀{as:List Arg}{ss:List Sl},as.length=ss.length->aJ i as ss=none->∀j:Nat,as[j]?≠some (.dD i)
 |[],_,_,_=>λj h=>by simp at h|a::as,[],b,_=>by simp at b|a::as,s::ss,b,h=>λj c=>by
   have f:as.length=ss.length:=by simpa using b
   have g:aJ i as ss=none/\a≠.dD i:=by cases a with|dat d=>exact⟨by simpa[aJ]using h,by simp⟩|tmp d=>exact⟨by simpa[aJ]using h,by simp⟩|dD k=>
      rw[aJ]at h;split at h;.cases h
      .rename_i l;exact⟨h,λe=>l (by cases e;rfl)⟩
   cases j with|zero=>simp at c;exact g.2 c|succ j=>exact jz f g.1 j (by simpa using c)
theorem FP{Q X H':Hp}{args c:List Sl}{Y:L2.St}(s0:aq K Q ρ₀ σ H₀ F ρ σ H)(A:vo K F ρ σ H ρ₀ H₀ as vs)(hb:aZ ρ as []=some args)(s:aq K F args (vs.map some) H X c Y H'):aq K Q ρ₀ σ H₀ X (bY as c 0 ρ) σ H'/\∀v r,bL K X c Y H' args (vs.map some) H v r->bL K X (bY as c 0 ρ) σ H' ρ₀ σ H₀ v r:=by
 have g:=s0.gs;obtain⟨M,l2,l3,l4⟩:=pD hb;have up:∀{j:Nat}{v:V},vs[j]?=some v->(vs.map some)[j]?=some (some v):=λe=>by rw[getElem?_map,e];rfl
 have dn:∀{j:Nat}{v:V},(vs.map some)[j]?=some (some v)->vs[j]?=some v:=λ{j v}e=>by rw[getElem?_map]at e;cases q:vs[j]?with|none=>rw[q]at e;cases e|some w=>rw[q]at e;cases e;rfl
 have la:as.length=c.length:=by rw[s.len,M]--whose are the lists that the callee holds
 have own:∀b,Own args (vs.map some) b->(∃(j:Nat)(ds:List D),as[j]?=some (Arg.tmp ds)/\vs[j]?=some (V.ref b)/\¬ Own ρ σ b/\(Own ρ₀ σ b\/H₀ b=none))\/Own ρ σ b:=λb⟨j,⟨sl,ds,E,U⟩,e3⟩=>by obtain⟨a,v,h1,C,J⟩:=A.get M E;have s1:=l2 j a _ h1 E;have e3:=dn e3;rw[C]at e3;cases e3;cases a with|dat d=>cases s1;cases U|tmp es=>obtain⟨x,_,k,_,_,_,f,N⟩:=J;cases k;exact .inl ⟨j,es,h1,C,f,N⟩|dD i=>
    right;rcases s1 with⟨_,_,_,z⟩|⟨b',es,q,_⟩|⟨es,q,_⟩;.subst z;cases U
    .exact⟨i,⟨_,_,q,rfl⟩,J⟩
    .exact⟨i,⟨_,_,q,rfl⟩,J⟩
 have back:∀b,Own ρ σ b\/H b=none->Own ρ₀ σ b\/H₀ b=none:=λb h=>by
  rcases h with h|h;.exact s0.tZ b h
  . by_cases ho:Own ρ₀ σ b;.exact .inl ho
    .right;cases e:H₀ b with|none=>rfl|some o=>rw[s0.keep b o e ho]at h;cases h
 have L:∀b,Own args (vs.map some) b->Own ρ₀ σ b\/H₀ b=none:=λb h=>by
  rcases own b h with⟨_,_,_,_,_,z⟩|z;.exact z
  .exact back b (.inl z)--a name's slot behind the call
 have slot:∀{i:Nat}{t:Sl},(bY as c 0 ρ)[i]?=some t->∃s1,ρ[i]?=some s1/\t=cZ s1 (aJ i as c):=λ{i t}h=>by rw[lK]at h;obtain⟨s1,E,U⟩:=map_some h;exact⟨s1,E,by rw[<-U,Nat.zero_add]⟩
 have Wk:∀{i:Nat}{s1:Sl},ρ[i]?=some s1->(bY as c 0 ρ)[i]?=some (cZ s1 (aJ i as c)):=λ{i s1}h=>by rw[lK,h,Nat.zero_add];rfl--what the callee left of a list that was lent to it
 have lent:∀{i j:Nat}{s1 t:Sl}{ds:List D},ρ[i]?=some s1->lst? s1=some (.l ds)->as[j]?=some (.dD i)->c[j]?=some t->∃v s2,σ[i]?=some (some v)/\Y[j]?=some (some v)/\args[j]?=some s2/\jG s2 t/\((∃b,s1=.own b ds/\s2=.own true ds)\/(s1=.lent ds/\s2=.lent ds)):=λ{i j s1 t ds}h1 C J h4=>by
  have Z:j<args.length:=by rw[M];exact(dj J).1
  have E:args[j]?=some args[j]:=by simp[Z]
  obtain⟨a,v,k,f,N⟩:=A.get M E;rw[J]at k;cases k;have q4:=l2 j _ _ J E;have kind:(∃b,s1=.own b ds/\args[j]=.own true ds)\/(s1=.lent ds/\args[j]=.lent ds):=by
   rcases q4 with⟨_,_,z,_⟩|⟨b,es,z,z'⟩|⟨es,z,z'⟩;.rw[h1]at z;cases z;cases C
   .rw[h1]at z;cases z;cases C;exact .inl ⟨b,rfl,z'⟩
   .rw[h1]at z;cases z;cases C;exact .inr ⟨rfl,z'⟩
  have lk:sO args[j]=true:=by rcases kind with⟨_,_,z⟩|⟨_,z⟩<;>rw[z]<;>rfl
  obtain⟨u,s',y,z3⟩:=s.lk j _ E lk;rw[h4]at y;cases y;exact⟨v,_,N,by rw[u];exact up f,E,z3,kind⟩
 have JZ:∀{i:Nat}{x:Addr},aH (bY as c 0 ρ) σ i x->aH ρ σ i x:=λ{i x}⟨⟨t,ds,E,U⟩,e3⟩=>by obtain⟨s1,k,f⟩:=slot E;refine⟨?_,e3⟩;cases s1 with|aP=>subst f;cases U|val b d=>subst f;cases U|own b es=>exact⟨_,_,k,rfl⟩|lent es=>exact⟨_,_,k,rfl⟩|eO m=>exact⟨_,_,k,rfl⟩|bV m=>exact⟨_,_,k,rfl⟩|hold _=>subst f;cases U
 refine⟨?_,λv r h=>?_⟩;rotate_left;.cases r with|val d=>exact h|own ds=>
     obtain⟨x,xs,h1,C,J,h4,h5,h6⟩:=h;refine⟨x,xs,h1,C,J,h4,λ⟨i,h⟩=>?_,?_⟩
     . have hO:=JZ h;obtain⟨⟨s1,QJ,k,f⟩,N⟩:=hO;obtain⟨x',ai,w1,w2,_⟩:=g.own i s1 QJ k f;rw[N]at w1;cases w1;rcases h6 with h6|h6
       . rcases own x h6 with⟨_,_,_,_,z,_⟩|_;.exact z ⟨i,⟨s1,QJ,k,f⟩,N⟩
         .--a name was lent
           obtain⟨j,⟨sl,es,w3,w4⟩,w5⟩:=h6;obtain⟨a',v',G,O,y3⟩:=A.get M w3;have sa:=l2 j a' _ G w3;have w5:=dn w5;rw[O]at w5;cases w5;cases a' with|dat d=>cases sa;cases w4|tmp al=>obtain⟨_,_,u1,_,_,_,u2,_⟩:=y3;cases u1;exact u2 ⟨i,⟨s1,QJ,k,f⟩,N⟩|dD i'=>
             have ex:∃s' ae,ρ[i']?=some s'/\lst? s'=some ae:=by
              rcases sa with⟨_,_,_,z⟩|⟨b,es,q,_⟩|⟨es,q,_⟩;.subst z;cases w4
              .exact⟨_,_,q,rfl⟩
              .exact⟨_,_,q,rfl⟩
             have:=g.dis i i' x ⟨⟨s1,QJ,k,f⟩,N⟩ ⟨ex,y3⟩;subst this;have hk:∃JX,QJ=.l JX:=by
              rcases sa with⟨_,_,_,z⟩|⟨b,es,q,_⟩|⟨es,q,_⟩;.subst z;cases w4
              .rw[k]at q;cases q;cases f;exact⟨_,rfl⟩
              .rw[k]at q;cases q;cases f;exact⟨_,rfl⟩
             obtain⟨JX,rfl⟩:=hk;have Z:j<c.length:=by rw[<-la];exact(dj G).1
             have B:c[j]?=some c[j]:=by simp[Z]
             obtain⟨v2,s2,u1,u2,u3,u4,u5⟩:=lent k f G B;rw[N]at u1;cases u1--the slot behind the call is a list's
             obtain⟨⟨t,dt,t1,t2⟩,_⟩:=h;obtain⟨s3,t3,t4⟩:=slot t1;rw[k]at t3;cases t3;have lo:∃t5,aJ i as c=some t5:=by cases I:aJ i as c with|none=>exact absurd G (jz la I j)|some t5=>exact⟨t5,rfl⟩
             obtain⟨t5,I⟩:=lo;obtain⟨j2,t6,t7⟩:=gn I;have am:j2<args.length:=by rw[M];exact(dj t6).1
             obtain⟨_,s6,_,ap,af,ar,ag⟩:=lent k f t6 t7;have ah:j2=j:=by
              have a1:lst? s6=some (.l JX):=by rcases ag with⟨_,_,z⟩|⟨_,z⟩<;>rw[z]<;>rfl
              have a2:lst? s2=some (.l JX):=by rcases u5 with⟨_,_,z⟩|⟨_,z⟩<;>rw[z]<;>rfl
              exact l4 j2 j i s6 s2 _ _ t6 G af u3 a1 a2
             subst ah;rw[B]at t7;cases t7;rw[I]at t4;refine h5 ⟨j2,?_,u2⟩;rcases u5 with⟨b,u,y⟩|⟨u,y⟩
             . subst u;subst y;rcases u4 with⟨d2,z⟩|⟨d2,z⟩;.exact⟨_,.l d2,B,by rw[z];rfl⟩
               .rw[z]at t4;subst t4;cases t2
             .subst u;subst y;exact⟨_,.l JX,B,by rw[show c[j2]=.lent JX from u4];rfl⟩
       .rw[w2]at h6;cases h6
     . rcases h6 with h6|h6;.exact L x h6
       .exact back x (.inr h6)
 refine⟨⟨s.gs.sub,by rw[kZ];exact g.len,λi b d e=>?_,λi t ds e B=>?_,λi j x h1 C=>g.dis i j x (JZ h1) (JZ C)⟩,s0.cu.trans s.cu,λb n n'=>?_,λb o h n=>?_,λb⟨i,h⟩=>back b (.inl ⟨i,JZ h⟩),by rw[kZ];exact s0.len,λi s1 h l=>?_⟩;.--data
   obtain⟨s1,k,f⟩:=slot e;cases s1 with|aP=>cases f|lent es=>cases f|eO _=>cases f|bV _=>cases f|hold _=>cases f|val b' d'=>cases f;obtain⟨v,u,y⟩:=g.val i b d k;exact⟨v,u,y.mono s.cu⟩|own b' es=>cases I:aJ i as c with|none=>rw[I]at f;cases f|some t=>rw[I]at f;obtain⟨j,u,y⟩:=gn I;obtain⟨v,s2,G,O,y3,y4,p⟩:=lent k rfl u y;cases t with|aP=>cases f|own _ _=>cases f|lent _=>cases f|eO _=>cases f|bV _=>cases f|hold _=>cases f|val b2 d2=>cases f;obtain⟨w,W,x2⟩:=s.gs.val j b2 d y;rw[O]at W;cases W;exact⟨v,G,x2⟩
 .--lists
   obtain⟨s1,k,f⟩:=slot e--a list that was not lent
   have stay:∀es,lst? s1=some es->(∀j:Nat,as[j]?≠some (.dD i))->t=s1->∃(a:Addr)(xs:HO),σ[i]?=some (some (V.ref a))/\H' a=some xs/\X a=none/\jh K X xs ds:=λes he hn ht=>by
    subst ht;rw[he]at B;cases B;obtain⟨a,xs,u,y,z3,z4⟩:=g.own i _ ds k he;have no:¬ Own args (vs.map some) a:=λh=>by obtain⟨j,⟨sl,es,w1,w2⟩,w3⟩:=h;obtain⟨a',v,h1,C,J⟩:=A.get M w1;have sa:=l2 j a' _ h1 w1;have w3:=dn w3;rw[C]at w3;cases w3;cases a' with|dat d=>cases sa;cases w2|tmp es=>obtain⟨x,_,G,_,_,_,O,_⟩:=J;cases G;exact O ⟨i,⟨_,ds,k,he⟩,u⟩|dD i'=>
       have:∃s' ae,ρ[i']?=some s'/\lst? s'=some ae:=by
        rcases sa with⟨_,_,_,z⟩|⟨b,es,q,_⟩|⟨es,q,_⟩;.subst z;cases w2
        .exact⟨_,_,q,rfl⟩
        .exact⟨_,_,q,rfl⟩
       have:=g.dis i i' a ⟨⟨_,ds,k,he⟩,u⟩ ⟨this,J⟩;subst this;exact hn j h1
    refine⟨a,xs,u,s.keep a _ y no,?_,z4.mono s.cu⟩;cases q:X a with|none=>rfl|some o=>
      rcases s.vO a z3 (by rw[q];simp)with z|z;.exact absurd z no
      .rw[y]at z;exact(Gp z4 z).elim
   cases I:aJ i as c with
   |none=>have hn:=jz la I;rw[I]at f;cases s1 with|aP=>subst f;cases B|val b' d'=>subst f;cases B|own b' es=>exact stay _ rfl hn f|lent es=>exact stay _ rfl hn f|eO m=>exact stay _ rfl hn f|bV m=>exact stay _ rfl hn f|hold _=>subst f;cases B
   |some t2=>rw[I]at f;obtain⟨j,u,y⟩:=gn I;cases s1 with
     |aP=>subst f;cases B|val b' d'=>subst f;cases B|hold _=>subst f;cases B|eO m=>
       have Z:j<args.length:=by rw[M];exact(dj u).1
       rcases l2 j _ _ u (show args[j]?=some args[j]by simp[Z])with⟨_,_,z,_⟩|⟨_,_,z,_⟩|⟨_,z,_⟩<;>(rw[k]at z;cases z)|bV m=>
       have Z:j<args.length:=by rw[M];exact(dj u).1
       rcases l2 j _ _ u (show args[j]?=some args[j]by simp[Z])with⟨_,_,z,_⟩|⟨_,_,z,_⟩|⟨_,z,_⟩<;>(rw[k]at z;cases z)|own b' es=>
       obtain⟨v,s2,G,O,y3,y4,p⟩:=lent k rfl u y;have:t2≠.aP/\∀x,t2≠.lent x:=by
        rcases p with⟨_,_,p⟩|⟨p,_⟩;.subst p;rcases y4 with⟨_,rfl⟩|⟨_,rfl⟩<;>simp
        .cases p
       cases t2 with
       |aP=>exact absurd rfl this.1|hold x=>
         rcases p with⟨_,_,p⟩|⟨p,_⟩;.subst p;rcases y4 with⟨_,h⟩|⟨_,h⟩<;>cases h
         .cases p|eO x=>
         rcases p with⟨_,_,p⟩|⟨p,_⟩;.subst p;rcases y4 with⟨_,h⟩|⟨_,h⟩<;>cases h
         .cases p|bV x=>
         rcases p with⟨_,_,p⟩|⟨p,_⟩;.subst p;rcases y4 with⟨_,h⟩|⟨_,h⟩<;>cases h
         .cases p|lent x=>exact absurd rfl (this.2 x)|val b2 d2=>subst f;cases B|own b2 av=>subst f;cases B;obtain⟨a,xs,W,x2⟩:=s.gs.own j _ _ y rfl;rw[O]at W;cases W;exact⟨a,xs,G,x2⟩
     |lent es=>
       obtain⟨v,s2,G,O,y3,y4,p⟩:=lent k rfl u y;have ht:t=.lent es:=by rw[f];cases t2<;>rfl
       subst ht;cases B;rcases p with⟨_,p,_⟩|⟨_,p⟩;.cases p
       .subst p;cases(show t2=.lent es from y4);obtain⟨a,xs,W,x2⟩:=s.gs.own j _ _ y rfl;rw[O]at W;cases W;exact⟨a,xs,G,x2⟩
 . by_cases q:F b=none
   . rcases s.vO b q n' with z|z;.exact(L b z).imp id iM
     . by_cases ho:Own ρ₀ σ b;.exact .inl ho
       .right;cases f:H₀ b with|none=>rfl|some o=>rw[s0.keep b o f ho]at z;exact z
   .exact s0.vO b n q
 . refine s.keep b o (s0.keep b o h n) λz=>?_;rcases L b z with z|z;.exact n z
   .rw[h]at z;cases z
 .obtain⟨E,s2,C,k2⟩:=s0.lk i s1 h l;refine⟨E,_,Wk C,?_⟩;have SJ:=k2.sO l;refine jG.trans l k2 ?_;cases s2 with
   |aP=>cases SJ|eO _=>cases SJ|bV _=>cases SJ|hold _=>exact jG.refl _|val b d=>exact jG.refl _|lent es=>cases aJ i as c with|none=>rfl|some t=>cases t<;>rfl
   |own b es=>cases b with|false=>cases SJ|true=>cases aJ i as c with|none=>exact .inl ⟨_,rfl⟩|some t=>cases t with|aP=>exact .inl ⟨_,rfl⟩|lent _=>exact .inl ⟨_,rfl⟩|eO _=>exact .inl ⟨_,rfl⟩|bV _=>exact .inl ⟨_,rfl⟩|hold _=>exact .inl ⟨_,rfl⟩|own _ ds=>exact .inl ⟨_,rfl⟩|val _ d=>exact .inr ⟨_,rfl⟩
theorem vo.rebase{F1 g k l:Hp}{c f:List Sl}(a:aq K F ρ σ H F1 c σ g)(A:vo K k f σ l c g as vs):vo K k f σ l ρ H as vs:=by refine⟨A.len,λj b v h1 m=>?_,A.dis⟩;have h:=A.one j b v h1 m;cases b with|dat d=>exact h|dD i=>exact h|tmp ds=>
   obtain⟨x,xs,p,q,r,s,t,q6⟩:=h;refine⟨x,xs,p,q,r,s,t,?_⟩;rcases q6 with q6|q6;.exact a.tZ x q6
   . by_cases ho:Own ρ σ x;.exact .inl ho
     .right;cases e:H x with|none=>rfl|some o=>rw[a.keep x o e ho]at q6;cases q6
theorem vo.Uk{F1 c e f:Hp}{a b:List Sl}{r:R}(s1:aq K F ρ σ H F1 a σ c)(g:bL K F1 a σ c ρ σ H v r)(s2:aq K F1 a σ c e b σ f)(A:vo K e b σ f a c as vs):vo K e b σ f ρ H (uQ r::as) (v::vs):=by
 have h1:wJ K F1 a σ c ρ H v (uQ r):=by cases r with|val d=>exact g|own ds=>exact g
 refine .cons (h1.later s2) (A.rebase s1) λds x m ev k es o j=>?_;cases r with|val d=>cases m|own p=>
   obtain⟨y,xs,l,q,u,w,s,B⟩:=g;rw[ev]at l;cases l;have h:=A.one k _ _ o j;obtain⟨z,C,t,_,_,_,_,w6⟩:=h;cases t;rcases w6 with w6|w6;.exact s w6
   .rw[q]at w6;cases w6
end
section
variable{K:PySem.W.Frag}{F F1 H H1:Hp}{ρ ρ1 ρ2:List Sl}{σ σ1:L2.St}
theorem oU{s:Sl}(h:put ρ i s=some ρ1):∃s0,ρ[i]?=some s0/\sO s0=false/\ρ1=ρ.set i s:=by
 unfold put at h;split at h;.rename_i q;cases h;exact⟨_,q,rfl,rfl⟩
 .rename_i q;cases h;exact⟨_,q,rfl,rfl⟩
 .rename_i q;cases h;exact⟨_,q,rfl,rfl⟩
 .cases h
theorem aq.put{r:R}(s:aq K F ρ σ H F1 ρ1 σ1 H1)(y:bL K F1 ρ1 σ1 H1 ρ σ H v r)(h:HH.put ρ1 i (xu r)=some ρ2):aq K F ρ σ H F1 ρ2 (σ1.set i (some v)) H1:=by
 obtain⟨s0,h0,B,rfl⟩:=oU h;have hi:i<ρ1.length:=(dj h0).1;have m:i<σ1.length:=by rw[<-s.gs.len];exact hi
 have f:∀{j:Nat}{a:Addr},j≠i->aH (ρ1.set i (xu r)) (σ1.set i (some v)) j a->aH ρ1 σ1 j a:=λ{j a}c⟨⟨t,ds,o,p⟩,g⟩=>by rw[di c]at o g;exact⟨⟨t,ds,o,p⟩,g⟩
 have q:∀{a:Addr},aH (ρ1.set i (xu r)) (σ1.set i (some v)) i a->¬ Own ρ1 σ1 a/\(Own ρ σ a\/H a=none):=λ{a}⟨⟨t,ds,o,p⟩,g⟩=>by rw[getElem?_set_self hi]at o;rw[getElem?_set_self m]at g;cases o;cases g;cases r with|val d=>cases p|own es=>obtain⟨x,xs,I,C,E,G,J,L⟩:=y;cases I;exact⟨J,L⟩
 refine⟨⟨s.gs.sub,by simp[s.gs.len],λj b d e=>?_,λj t ds e z=>?_,λj k a h1 A=>?_⟩,s.cu,s.vO,s.keep,λa⟨j,c⟩=>?_,by simp[s.len],λj t e l=>?_⟩
 . by_cases c:j=i;.subst c;rw[getElem?_set_self hi]at e;cases r with|own es=>cases e|val d'=>cases e;exact⟨v,getElem?_set_self m,y⟩
   .rw[di c]at e ⊢;exact s.gs.val j b d e
 . by_cases c:j=i;.subst c;rw[getElem?_set_self hi]at e;cases r with|val d'=>cases e;cases z|own es=>cases e;cases z;obtain⟨x,xs,rfl,C,E,G,_⟩:=y;exact⟨x,_,getElem?_set_self m,C,E,xs,rfl,G⟩
   .rw[di c]at e ⊢;exact s.gs.own j t ds e z
 . by_cases c:j=i
   . by_cases u:k=i;.rw[c,u]
     .subst c;exact absurd ⟨k,f u A⟩ (q h1).1
   . by_cases u:k=i;.subst u;exact absurd ⟨j,f c h1⟩ (q A).1
     .exact s.gs.dis j k a (f c h1) (f u A)
 . by_cases w:j=i;.subst w;exact(q c).2
   .exact s.tZ a ⟨j,f w c⟩
 . obtain⟨o,t1,p,g⟩:=s.lk j t e l;have c:j≠i:=by rintro rfl;rw[h0]at p;cases p;rw[g.sO l]at B;cases B
   exact⟨by rw[di c];exact o,t1,by rw[di c];exact p,g⟩
theorem GS.mut{x:Nat}{b:Bool}{es:List D}{a:Addr}{ys:List V}(g:GS K F ρ σ H)(e:ρ[x]?=some (.own b ds))(p:σ[x]?=some (some (.ref a)))(r:au K F ys es):aq K F ρ σ H F (ρ.set x (.own b es)) σ (upd H a (.lst ys)):=by
 have hi:x<ρ.length:=(dj e).1;have w:aH ρ σ x a:=⟨⟨_,_,e,rfl⟩,p⟩;obtain⟨J,xs,h1,L,y,M⟩:=g.pB x _ ds e rfl;rw[p]at h1;cases h1;have h:∀{j:Nat}{c:Addr},aH (ρ.set x (.own b es)) σ j c->aH ρ σ j c:=λ{j c}⟨⟨t,dt,m,s⟩,q3⟩=>by
  by_cases f:j=x;.subst f;exact⟨⟨_,_,e,rfl⟩,q3⟩
  .rw[di f]at m;exact⟨⟨t,dt,m,s⟩,q3⟩
 refine⟨⟨λc o q=>?_,by simp[g.len],λj A d q=>?_,λj t dt q u=>?_,λj k c m s=>g.dis j k c (h m) (h s)⟩,.refl _,λc n B=>absurd n B,λc o q n=>?_,λc⟨j,q⟩=>.inl ⟨j,h q⟩,by simp,λj t q l=>⟨rfl,?_⟩⟩
 . have:c≠a:=by rintro rfl;rw[y]at q;cases q
   rw[ao this];exact g.sub c o q
 . by_cases f:j=x;.subst f;rw[getElem?_set_self hi]at q;cases q
   .rw[di f]at q;exact g.val j A d q
 . by_cases f:j=x;.subst f;rw[getElem?_set_self hi]at q;cases q;cases u;exact⟨a,_,p,aF,y,ys,rfl,r⟩
   . rw[di f]at q;obtain⟨c,C,z,E,G,I⟩:=g.own j t dt q u;have:c≠a:=by rintro rfl;exact f (g.dis j x c ⟨⟨t,dt,q,u⟩,z⟩ w)
     exact⟨c,C,z,by rw[ao this];exact E,G,I⟩
 . have:c≠a:=by rintro rfl;exact n ⟨x,w⟩
   rw[ao this];exact q
 . by_cases f:j=x;.subst f;rw[e]at q;cases q;refine⟨_,getElem?_set_self hi,?_⟩;cases b with|true=>exact .inl ⟨_,rfl⟩|false=>cases l
   .exact⟨t,by rw[di f];exact q,.refl t⟩
theorem GS.lend{b:Bool}(g:GS K F ρ σ H)(e:ρ[i]?=some (.own b ds)):GS K F (ρ.set i (.lent ds)) σ H:=by
 have hi:i<ρ.length:=(dj e).1;have f:∀{j:Nat}{c:Addr},aH (ρ.set i (.lent ds)) σ j c->aH ρ σ j c:=λ{j c}⟨⟨t,dt,h,l⟩,q3⟩=>by
  by_cases a:j=i;.subst a;exact⟨⟨_,_,e,rfl⟩,q3⟩
  .rw[di a]at h;exact⟨⟨t,dt,h,l⟩,q3⟩
 refine⟨g.sub,by simp[g.len],λj o d q=>?_,λj t dt q m=>?_,λj k c h l=>g.dis j k c (f h) (f l)⟩
 . by_cases a:j=i;.subst a;rw[getElem?_set_self hi]at q;cases q
   .rw[di a]at q;exact g.val j o d q
 . by_cases a:j=i;.subst a;rw[getElem?_set_self hi]at q;cases q;cases m;exact g.own j _ _ e rfl
   .rw[di a]at q;exact g.own j t dt q m
theorem aq.aO{b:Bool}(g:GS K F ρ σ H)(e:ρ[i]?=some (.own b ds))(s:aq K F (ρ.set i (.lent ds)) σ H F1 ρ1 σ1 H1):aq K F ρ σ H F1 (ρ1.set i (.own b ds)) σ1 H1/\∀v r,bL K F1 ρ1 σ1 H1 (ρ.set i (.lent ds)) σ H v r->bL K F1 (ρ1.set i (.own b ds)) σ1 H1 ρ σ H v r:=by
 have hi:i<ρ.length:=(dj e).1;have h1:(ρ.set i (.lent ds))[i]?=some (.lent ds):=getElem?_set_self hi;obtain⟨C,E,z,G⟩:=s.lk i _ h1 rfl;cases(show E=.lent ds from G);have u:i<ρ1.length:=(dj z).1;have A:∀{j:Nat}{c:Addr},aH (ρ.set i (.lent ds)) σ j c->aH ρ σ j c:=λ{j c}⟨⟨t,dt,f,p⟩,m⟩=>by
  by_cases a:j=i;.subst a;exact⟨⟨_,_,e,rfl⟩,m⟩
  .rw[di a]at f;exact⟨⟨t,dt,f,p⟩,m⟩
 have I:∀{c:Addr},Own ρ σ c->Own (ρ.set i (.lent ds)) σ c:=λ{c}⟨j,⟨t,dt,f,p⟩,m⟩=>by
  by_cases a:j=i;.subst a;exact⟨j,⟨_,_,h1,rfl⟩,m⟩
  .exact⟨j,⟨t,dt,by rw[di a];exact f,p⟩,m⟩
 have y:∀{j:Nat}{c:Addr},aH (ρ1.set i (.own b ds)) σ1 j c->aH ρ1 σ1 j c:=λ{j c}⟨⟨t,dt,f,p⟩,m⟩=>by
  by_cases a:j=i;.subst a;exact⟨⟨_,_,z,rfl⟩,m⟩
  .rw[di a]at f;exact⟨⟨t,dt,f,p⟩,m⟩
 have w:∀{c:Addr}{h:Hp},Own (ρ.set i (.lent ds)) σ c\/h c=none->Own ρ σ c\/h c=none:=λ{c h}q=>q.imp (λ⟨j,q⟩=>⟨j,A q⟩) id;have J:∀{c:Addr}{h:Hp},Own (ρ.set i (.lent ds)) σ c\/nt (h c)=none->Own ρ σ c\/nt (h c)=none:=λ{c h}q=>q.imp (λ⟨j,q⟩=>⟨j,A q⟩) id;refine⟨⟨⟨s.gs.sub,by simp[s.gs.len],λj L d q=>?_,λj t dt q B=>?_,λj k c f p=>s.gs.dis j k c (y f) (y p)⟩,s.cu,λc n M=>J (s.vO c n M),λc o q n=>s.keep c o q λ⟨j,x⟩=>n ⟨j,A x⟩,λc⟨j,q⟩=>w (s.tZ c ⟨j,y q⟩),by simpa using s.len,λj t q l=>?_⟩,λv r h=>?_⟩
 . by_cases a:j=i;.subst a;rw[getElem?_set_self u]at q;cases q
   .rw[di a]at q;exact s.gs.val j L d q
 . by_cases a:j=i;.subst a;rw[getElem?_set_self u]at q;cases q;cases B;exact s.gs.own j _ _ z rfl
   .rw[di a]at q;exact s.gs.own j t dt q B
 . by_cases a:j=i;.subst a;rw[e]at q;cases q;refine⟨C,_,getElem?_set_self u,?_⟩;cases b with|true=>exact .inl ⟨_,rfl⟩|false=>cases l
   .obtain⟨N,t',O,Q⟩:=s.lk j t (by rw[di a];exact q) l;exact⟨N,t',by rw[di a];exact O,Q⟩
 .cases r with|val d=>exact h|own es=>obtain⟨x,xs,f,p,m,U,W,X⟩:=h;exact⟨x,xs,f,p,m,U,λ⟨j,q⟩=>W ⟨j,y q⟩,w X⟩
theorem GS.give(g:GS K F ρ σ H)(e:ρ[i]?=some (.own false ds)):∃v,σ[i]?=some (some v)/\aq K F ρ σ H F (ρ.set i .aP) σ H/\bL K F (ρ.set i .aP) σ H ρ σ H v (.own ds):=by
 have hi:i<ρ.length:=(dj e).1;obtain⟨a,xs,h1,r,s,u⟩:=g.pB i _ ds e rfl;have f:∀{j:Nat}{c:Addr},aH (ρ.set i .aP) σ j c->aH ρ σ j c/\j≠i:=λ{j c}⟨⟨t,dt,h,m⟩,q3⟩=>by
  by_cases b:j=i;.subst b;rw[getElem?_set_self hi]at h;cases h;cases m
  .rw[di b]at h;exact⟨⟨⟨t,dt,h,m⟩,q3⟩,b⟩
 have o:aH ρ σ i a:=⟨⟨_,_,e,rfl⟩,h1⟩;refine⟨.ref a,h1,⟨⟨g.sub,by simp[g.len],λj w d q=>?_,λj t dt q p=>?_,λj k c h m=>g.dis j k c (f h).1 (f m).1⟩,.refl _,λc n y=>absurd n y,λ_ _ q _=>q,λc⟨j,q⟩=>.inl ⟨j,(f q).1⟩,by simp,λj t q l=>⟨rfl,?_⟩⟩,a,xs,rfl,r,s,u,λ⟨j,q⟩=>?_,.inl ⟨i,o⟩⟩
 . by_cases b:j=i;.subst b;rw[getElem?_set_self hi]at q;cases q
   .rw[di b]at q;exact g.val j w d q
 . by_cases b:j=i;.subst b;rw[getElem?_set_self hi]at q;cases q;cases p
   .rw[di b]at q;exact g.own j t dt q p
 . by_cases b:j=i;.subst b;rw[e]at q;cases q;cases l
   .exact⟨t,by rw[di b];exact q,.refl t⟩
 .exact(f q).2 (g.dis j i a (f q).1 o)
theorem GS.more{τ:List (Option V)}(g:GS K F ρ σ H)(u:τ.length=n):GS K F (ρ++replicate n .aP) (σ++τ) H:=by
 have get:∀{j:Nat}{t:Sl},(ρ++replicate n Sl.aP)[j]?=some t->t≠.aP->ρ[j]?=some t/\j<ρ.length:=λ{j t}q ne=>by
  by_cases h:j<ρ.length;.rw[getElem?_append_left h]at q;exact⟨q,h⟩
  . rw[getElem?_append_right (by omega),List.getElem?_replicate]at q;split at q;.cases q;exact absurd rfl ne
    .cases q
 have m:∀{j:Nat}{v:Option V},j<ρ.length->(σ[j]?=some v↔(σ++τ)[j]?=some v):=λ{j v}h=>by rw[getElem?_append_left (by rw[<-g.len];exact h)]
 have e:∀{j:Nat}{c:Addr},aH (ρ++replicate n .aP) (σ++τ) j c->aH ρ σ j c:=λ{j c}⟨⟨t,dt,o,l⟩,q3⟩=>by obtain⟨h1,f⟩:=get o (by rintro rfl;cases l);exact⟨⟨t,dt,h1,l⟩,(m f).mpr q3⟩
 refine⟨g.sub,by simp[g.len,u],λj b d q=>?_,λj t dt q s=>?_,λj k c o l=>g.dis j k c (e o) (e l)⟩;.obtain⟨h1,f⟩:=get q (by simp);obtain⟨v,p,r⟩:=g.val j b d h1;exact⟨v,(m f).mp p,r⟩
 .obtain⟨h1,f⟩:=get q (by rintro rfl;cases s);obtain⟨a,xs,p,r⟩:=g.own j t dt h1 s;exact⟨a,xs,(m f).mp p,r⟩
theorem aq.less{τ:List (Option V)}{m:Nat}(L:m=ρ.length)(g:GS K F ρ σ H)(hn:τ.length=n)(s:aq K F (ρ++replicate n .aP) (σ++τ) H F1 ρ1 σ1 H1):aq K F ρ σ H F1 (ρ1.take m) (σ1.take m) H1/\∀v r,bL K F1 ρ1 σ1 H1 (ρ++replicate n .aP) (σ++τ) H v r->bL K F1 (ρ1.take m) (σ1.take m) H1 ρ σ H v r:=by
 subst L;have M:ρ.length<=ρ1.length:=by rw[s.len];simp
 have l2:ρ.length<=σ1.length:=by rw[<-s.gs.len];exact M
 have z:∀{y:Type}{l:List y}{j:Nat}{x:y},(l.take ρ.length)[j]?=some x->l[j]?=some x/\j<ρ.length:=λ{y l j x}q=>by
  rw[getElem?_take]at q;split at q;.exact⟨q,by assumption⟩
  .cases q
 have B:∀{y:Type}{l:List y}{j:Nat}{x:y},j<ρ.length->l[j]?=some x->(l.take ρ.length)[j]?=some x:=λ{y l j x}f q=>by rw[getElem?_take,if_pos f];exact q
 have C:∀{c:Addr},Own (ρ++replicate n .aP) (σ++τ) c->Own ρ σ c:=λ{c}⟨j,⟨t,dt,e,p⟩,u⟩=>by
  by_cases f:j<ρ.length;.rw[getElem?_append_left f]at e;rw[getElem?_append_left (by rw[<-g.len];exact f)]at u;exact⟨j,⟨t,dt,e,p⟩,u⟩
  . rw[getElem?_append_right (by omega),List.getElem?_replicate]at e;split at e;.cases e;cases p
    .cases e
 have N:∀{c:Addr},Own ρ σ c->Own (ρ++replicate n .aP) (σ++τ) c:=λ{c}⟨j,⟨t,dt,e,p⟩,u⟩=>by have f:j<ρ.length:=(dj e).1;exact⟨j,⟨t,dt,by rw[getElem?_append_left f];exact e,p⟩,by rw[getElem?_append_left (by rw[<-g.len];exact f)];exact u⟩
 have A:∀{j:Nat}{c:Addr},aH (ρ1.take ρ.length) (σ1.take ρ.length) j c->aH ρ1 σ1 j c:=λ{j c}⟨⟨t,dt,e,p⟩,u⟩=>⟨⟨t,dt,(z e).1,p⟩,(z u).1⟩;have w:∀{c:Addr}{h:Hp},Own (ρ++replicate n .aP) (σ++τ) c\/h c=none->Own ρ σ c\/h c=none:=λ{c h}q=>q.imp C id;have O:∀{c:Addr}{h:Hp},Own (ρ++replicate n .aP) (σ++τ) c\/nt (h c)=none->Own ρ σ c\/nt (h c)=none:=λ{c h}q=>q.imp C id;refine⟨⟨⟨s.gs.sub,by simp only[length_take];omega,λj b d q=>?_,λj t dt q Q=>?_,λj k c e p=>s.gs.dis j k c (A e) (A p)⟩,s.cu,λc a b=>O (s.vO c a b),λc o q n=>s.keep c o q λx=>n (C x),λc⟨j,q⟩=>w (s.tZ c ⟨j,A q⟩),by simp only[length_take];omega,λj t q l=>?_⟩,λv r h=>?_⟩;.obtain⟨h1,E⟩:=z q;obtain⟨v,G,I⟩:=s.gs.val j b d h1;exact⟨v,B E G,I⟩
 .obtain⟨h1,E⟩:=z q;obtain⟨a,xs,G,I⟩:=s.gs.own j t dt h1 Q;exact⟨a,xs,B E G,I⟩
 .have f:j<ρ.length:=(dj q).1;obtain⟨J,t',U,W⟩:=s.lk j t (by rw[getElem?_append_left f];exact q) l;rw[getElem?_append_left (by rw[<-g.len];exact f)]at J;refine⟨?_,t',B f U,W⟩;rw[getElem?_take,if_pos f];exact J
 .cases r with|val d=>exact h|own es=>obtain⟨x,xs,e,p,u,X,Y,Z⟩:=h;exact⟨x,xs,e,p,u,X,λ⟨j,q⟩=>Y ⟨j,A q⟩,w Z⟩
end
section
variable{X:Cx}{c:Call}{n:Nat}{e a b d:Expr}{p pa pb pd:P}{pos:Pos}{es:List Expr}{ps:List P}
inductive aaa(K:PySem.W.Frag)(f:List Sl->Res (List Arg))(σ:L2.St)(H:Hp)(Q:List V->Hp->Prop):Prop where|mk(F:Hp)(ρ:List Sl)(as:List Arg)(ρ':List Sl)(g:GS K F ρ σ H)(e:f ρ=.ok as ρ')(k:∀vs F' H',aq K F ρ σ H F' ρ' σ H'->vo K F' ρ' σ H' ρ H as vs->Q vs H')
def SG(X:Cx)(c:Call)(es:List Expr)(ps:List P):Prop:=PA X es (aaa X.K (v5 c ps))
theorem aK:SG X c [] []:=vy dF λσ H Q⟨F,ρ,as,ρ',g,e,k⟩=>by rw[v5]at e;cases e;exact k [] F H (.refl g) .nil
theorem Hx(q:SX X c a pa)(hr:SG X c es ps)(hs:starEach (a::es) X.env=(false,eval a X.env)::starEach es X.env:=by rfl):SG X c (a::es) (pa::ps):=by cases hv:isVar pa with|none=>refine vy (bC q.ev hr hs) ?_;rintro σ H Q⟨F,ρ,as,ρ',g,e,k⟩;rw[v5,hv]at e;obtain⟨r,f,s,e⟩:=aa e;obtain⟨xs,h,j,e⟩:=aa e;cases e;refine⟨F,ρ,r,f,g,s,λv F1 B s1 t=>⟨F1,f,xs,_,s1.gs,j,λvs l m s2 A=>k _ l m (s1.trans s2) (vo.Uk s1 t s2 A)⟩⟩|some i=>refine vy (bC (q.var i hv) hr hs) ?_;rintro σ H Q⟨F,ρ,as,ρ',g,e,k⟩;rw[v5,hv]at e;obtain⟨x0,u,w,e⟩:=aa e;obtain⟨o,y⟩:=az w;subst y;obtain⟨xs,h,j,e⟩:=aa e;cases e;obtain⟨v,h1,_⟩:=g.pk o;exact⟨v,h1,F,ρ,xs,_,g,j,λvs l m s2 A=>k _ l m s2 (.cons h1 A λds x z=>by cases z)⟩
theorem Ie{k f:Nat}{t:Addr}{fd:FuncData}{j:List Str}(J:lg X.prog X.w X.K X.mg X.base Gm k t fd j (Il X.K j.length (c f)))(hr:gU k X.A)(L:Gl X x)(M:X.mg x=some (.ref t))(N:keepIn X.K (.ref t)=true)(O:Binds X.K fd j [])(U:SG X c (e::es) ps)(W:(e::es).length=j.length)(u:(x==("__debug__":Str))=false:=by decide)(he:starEach (e::es) X.env=(false,eval e X.env)::starEach es X.env:=by rfl)(hpl:(backTo pos (starEach es X.env)).any (·.1)=false:=by rfl)(y:ps.length=(e::es).length:=by rfl):SX X c (.Call (.Name x p') (e::es) [] pos) (.call f ps):=by
 refine⟨cY (Ib (E:=E0) J hr L M N O .nil Tr U u he hpl) ?_,λi h=>by cases h⟩;rintro σ H Q⟨F,ρ,r,ρ',g,e,k⟩;rw[HH.E14]at e;obtain⟨as,z,G,e⟩:=aa e;unfold o4 at e;split at e;.cases e
 . rename_i args m;split at e
   . rename_i r' l hc;cases e;refine⟨F,ρ,as,z,g,G,λvs F1 Y s1 A=>?_⟩;have o:vs.length=j.length:=by
      have:∀{ps:List P}{ρ ρ':List Sl}{as:List Arg},v5 c ps ρ=.ok as ρ'->as.length=ps.length:=by intro ps;induction ps with|nil=>intro ρ ρ' as h;rw[v5]at h;cases h;rfl|cons q j I=>
         intro ρ ρ' as h;rw[v5]at h;split at h;.obtain⟨_,_,_,h⟩:=aa h;obtain⟨xs,B,C,h⟩:=aa h;cases h;simp[I C]
         .obtain⟨_,_,_,h⟩:=aa h;obtain⟨xs,B,C,h⟩:=aa h;cases h;simp[I C]
      rw[<-A.len,this G,y,W]
     show Il X.K j.length (c f) (vs++[]) Y Q E0;rw[append_nil];refine⟨o,F1,args,r,l,args_gs s1.gs A m,hc,λv Z ae H' s rr=>?_⟩;obtain⟨z1,z2⟩:=FP s1 A m s;exact k v Z H' z1 (z2 v r rr)
   .cases e
   .cases e
def BZ(K:PySem.W.Frag)(D:Ends)(h:Hp)(ρ':List Sl)(f:L2.St)(g:Hp)(ρ:List Sl)(σ:L2.St)(H:Hp)(fl:Fl):Prop:=match fl with|.next=>D.nx f g|.brk=>D.bk f g|.cont=>D.ct f g|.ret r=>∀v,bL K h ρ' f g ρ σ H v r->D.rt v g
inductive Yc(K:PySem.W.Frag)(f:List Sl->Res Fl)(D:Ends)(σ:L2.St)(H:Hp):Prop where|mk(F:Hp)(ρ:List Sl)(fl:Fl)(ρ':List Sl)(g:GS K F ρ σ H)(e:f ρ=.ok fl ρ')(k:∀F' σ' H',aq K F ρ σ H F' ρ' σ' H'->BZ K D F' ρ' σ' H' ρ σ H fl)
def SS(X:Cx)(c:Call)(n:Nat)(st:Stmt)(s:S):Prop:=PS X st (Yc X.K (ex c n s))
def SB(X:Cx)(c:Call)(n:Nat)(st:List Stmt)(s:List S):Prop:=ug X st (Yc X.K (fU c n s))
theorem cW{st:Stmt}{t t':TS}(h:PS X st t)(i:∀D σ H,t' D σ H->t D σ H):PS X st t':=λf s σ H D I q=>h f s σ H D I (i D σ H q)
theorem lF{st:List Stmt}{t t':TS}(h:ug X st t)(i:∀D σ H,t' D σ H->t D σ H):ug X st t':=λf s σ H D I q=>h f s σ H D I (i D σ H q)
theorem xs0{c:Call}:fU c n [] ρ=.ok .next ρ:=rfl
theorem Ml{c:Call}{s:S}{r:List S}:fU c n (s::r) ρ=(ex c n s ρ).bind λfl ρ=>match fl with|.next=>fU c n r ρ|fl=>.ok fl ρ:=rfl
theorem aG:SB X c n [] []:=lF yH λD σ H⟨F,ρ,fl,ρ',g,e,k⟩=>by rw[xs0]at e;cases e;exact k F σ H (.refl g)
theorem bh{st:Stmt}{s:S}{f:List Stmt}{ss:List S}(h1:SS X c n st s)(m:SB X c n f ss):SB X c n (st::f) (s::ss):=by refine lF (jJ h1 m) ?_;rintro D σ H⟨F,ρ,fl,ρ',g,e,k⟩;rw[Ml]at e;obtain⟨f1,h,j,e⟩:=aa e;cases f1 with
 |next=>refine⟨F,ρ,.next,h,g,j,λF1 o y s1=>⟨F1,h,fl,ρ',s1.gs,e,λt l u s2=>?_⟩⟩;have q:=k t l u (s1.trans s2);cases fl with|next=>exact q|brk=>exact q|cont=>exact q|ret r=>exact λv w=>q v (w.later s1)
 |brk=>cases e;exact⟨F,ρ,.brk,_,g,j,k⟩|cont=>cases e;exact⟨F,ρ,.cont,_,g,j,k⟩|ret r=>cases e;exact⟨F,ρ,.ret r,_,g,j,k⟩
theorem Ur{t1 g:TE}(h1:PE X e t1)(j:PE X e g):PE X e (λσ H Q=>t1 σ H Q\/g σ H Q):=λf s σ H Q I h=>h.elim (h1 f s σ H Q I) (j f s σ H Q I)
theorem OD(he:SX X c e p):SS X c n (.Return (some e) pos) (.ret p):=by
 have plain:∀(D:Ends)(σ:L2.St)(H:Hp),(∃F ρ fl ρ',GS X.K F ρ σ H/\((HH.ev c p ρ).bind λr ρ=>.ok (Fl.ret r) ρ)=.ok fl ρ'/\∀j f h,aq X.K F ρ σ H j ρ' f h->(match fl with|.next=>D.nx f h|.brk=>D.bk f h|.cont=>D.ct f h|.ret r=>∀v,bL X.K j ρ' f h ρ σ H v r->D.rt v h))->vV X.K (HH.ev c p) σ H D.rt:=λD σ H⟨F,ρ,fl,ρ',g,e,k⟩=>by obtain⟨r,l,m,e⟩:=aa e;cases e;exact⟨F,ρ,r,_,g,m,λv F1 o s1 s=>k F1 σ o s1 v s⟩
 cases hv:isVar p with|none=>refine cW (CQ he.ev) λD σ H⟨F,ρ,fl,ρ',g,e,k⟩=>plain D σ H ⟨F,ρ,fl,ρ',g,?_,k⟩;rw[HH.Xf,hv]at e;exact e|some i=>--by the name itself:its own list is handed back,else its data
   have t:p=.var i:=by cases p<;>cases hv;rfl
   subst t;refine cW (CQ (Ur (he.var i hv) he.ev)) ?_;rintro D σ H⟨F,ρ,fl,ρ',g,e,k⟩;rw[HH.Xf,hv]at e;dsimp only at e;split at e;.rename_i ds q;cases e;obtain⟨v,h1,u,w⟩:=g.give q;exact .inl ⟨v,h1,k F σ H u v w⟩
   .exact .inr (plain D σ H ⟨F,ρ,fl,ρ',g,e,k⟩)
theorem uZ{sa sb:List Stmt}{m o:List S}(hc:ST X c e p)(s:SB X c n sa m)(t:SB X c n sb o):SS X c n (.If e sa sb pos) (.ifs p m o):=by refine cW (Kw hc s t) ?_;rintro D σ H⟨F,ρ,fl,ρ',g,e,k⟩;rw[HH.Yl]at e;obtain⟨x,j,u,e⟩:=aa e;refine⟨F,ρ,x,j,g,u,λF1 w s1=>?_⟩;have go:∀{f:List Sl->Res Fl},f j=.ok fl ρ'->Yc X.K f D σ w:=λ{f}h=>⟨F1,j,fl,ρ',s1.gs,h,λy l z s2=>by have q:=k y l z (s1.trans s2);cases fl with|next=>exact q|brk=>exact q|cont=>exact q|ret r=>exact λv A=>q v (A.later s1)⟩;cases x with|true=>rw[if_pos rfl]at e;exact go e|false=>rw[if_neg Bool.false_ne_true]at e;exact go e
theorem wR{f:Pos}(l:X.N.Nodup)(hi:X.N[i]?=some x)(m:Loc X.env.scope x)(he:SX X c e p)(hs:swapsWith e (some (.Name x f)) pos.line X.env=pure false:=by rfl)(o:X.fn x=true\/X.env.scope.names.lookup x=some .local:=by first|exact .inl rfl|exact .inr rfl|assumption):SS X c n (.Assign [.Name x f] e pos) (.asg i p):=by refine cW (wz l hi m he.ev hs o) ?_;rintro D σ H⟨F,ρ,fl,ρ',g,e,k⟩;rw[HH.X6]at e;obtain⟨r,j,q,e⟩:=aa e;obtain⟨s,t,h,e⟩:=aa e;cases e;have u:=az h;clear h;obtain⟨h,z⟩:=u;exact⟨F,ρ,r,j,g,q,λv F1 w s1 y=>k F1 _ w (s1.put y h)⟩
end
end HH
end
section
namespace L2
open PySem PySem.Spec PyProof.Rows
variable{env:Env}{scope:Scope}
noncomputable def u9(X:Cx)(scope:Scope)(N':List Str)(cl:List (Str×Addr))(C:Addr)(s₀:Shared)(H₀:Hp)(ex:List Addr):Cx:={X with N:=N',s₀:=s₀,H₀:=H₀,env:=compEnvC scope cl C X.env,outer:=X.stack,stack:=X.stack,ex:=ex,fn:=λx=>scope.names.lookup x==some .cell,pn:=[],xe:=λ_ _=>False}
theorem wL(l:List (Str×NameKind)):∀(cs:List (Str×Addr)),(∀n,(n,NameKind.free)∈l->∃c,env.cells.lookup n=some c)->(∀n c,cs.lookup n=some c->env.cells.lookup n=some c)->∃ cl,(forIn l cs (λ(x:Str × NameKind)(r:List (Str × Addr))=>(if(x.2==NameKind.free)=true then(do let a<-cellOf env x.1;pure (ForInStep.yield ((x.1,a)::r)))else pure (ForInStep.yield r):Sem (ForInStep (List (Str × Addr))))):Sem (List (Str × Addr)))=pure cl/\(∀n c,cl.lookup n=some c->env.cells.lookup n=some c)/\(∀n,((n,NameKind.free)∈l\/(cs.lookup n).isSome)->(cl.lookup n).isSome):=by induction l with|nil=>intro cs _ h;exact⟨cs,rfl,h,λn hn=>by rcases hn with hn|hn;cases hn;exact hn⟩|cons y l i=>
   obtain⟨n,k⟩:=y;intro cs b hc;rw[List.forIn_cons];by_cases f:k=.free
   . subst f;obtain⟨a,j⟩:=b n mem_cons_self;obtain⟨cl,e,h1,g⟩:=i ((n,a)::cs) (λm hm=>b m (mem_cons_of_mem _ hm)) λm c hm=>by
      rw[lookup_cons]at hm;split at hm;.rename_i q;have q:=eq_of_beq q;subst q;cases hm;exact j
      .exact hc m c hm
     refine⟨cl,?_,h1,λm hm=>g m ?_⟩
     . rw[<-e];have:cellOf env n=pure a:=by unfold cellOf;rw[j]
       simp only[beq_self_eq_true,if_true,this];rfl
     . rcases hm with hm|hm
       . rcases mem_cons.mp hm with hm|hm;.cases hm;right;simp[lookup_cons]
         .exact .inl hm
       . right;rw[lookup_cons];split;.rfl
         .exact hm
   . obtain⟨cl,e,h1,g⟩:=i cs (λm hm=>b m (mem_cons_of_mem _ hm)) hc;refine⟨cl,?_,h1,λm hm=>g m ?_⟩
     . rw[<-e];have:(k==NameKind.free)=false:=by simpa using f
       simp only[this,false_eq_true,if_false];rfl
     . rcases hm with hm|hm
       . rcases mem_cons.mp hm with hm|hm;.cases hm;exact absurd rfl f
         .exact .inl hm
       .exact .inr hm
theorem wg(a:∀n,(n,NameKind.free)∈scope.names->∃c,env.cells.lookup n=some c):∃cl,closureFor scope env=pure cl/\(∀n c,cl.lookup n=some c->env.cells.lookup n=some c)/\∀n,(n,NameKind.free)∈scope.names->(cl.lookup n).isSome:=by obtain⟨cl,e,h1,b⟩:=wL (env:=env) scope.names [] a (by simp);refine⟨cl,?_,h1,λn f=>b n (.inl f)⟩;unfold closureFor;exact(congrArg (λt=>t>>=λr=>pure r) e).trans rfl
theorem cV{env:Env}:∀(names:List (Str×NameKind))(x:Str),(names.map λ(n,k)=>if(k==NameKind.free&&env.scope.kind==.function&&env.kindOf n==some .cell)then(n,NameKind.cell)else(n,k)).lookup x=(names.lookup x).map λk=>if(k==NameKind.free&&env.scope.kind==.function&&env.kindOf x==some .cell)=true then NameKind.cell else k
 |[],x=>rfl|(n,k)::r,x=>by
   have a:=cV (env:=env) r x;show List.lookup x ((if(k==NameKind.free&&env.scope.kind==.function&&env.kindOf n==some .cell)=true then(n,NameKind.cell)else(n,k))::_)=_;by_cases hc:(k==NameKind.free&&env.scope.kind==.function&&env.kindOf n==some .cell)=true;.rw[if_pos hc,lookup_cons,lookup_cons];cases hx:x==n with|true=>have:=eq_of_beq hx;subst this;show some NameKind.cell=some (if _ then _ else _);rw[if_pos hc]|false=>exact a
   .rw[if_neg hc,lookup_cons,lookup_cons];cases hx:x==n with|true=>have:=eq_of_beq hx;subst this;show some k=some (if _ then _ else _);rw[if_neg hc]|false=>exact a
noncomputable def Uy(N N':List Str)(a:Scope):Bool:=(N.zip N').all λp=>(p.1==p.2&&a.names.lookup p.2==some .free)||(a.names.lookup p.2!=some .local&&a.names.lookup p.2!=some .cell&&a.names.lookup p.2!=some .free)
structure dR(X:Cx)(scope:Scope)(N':List Str)(n:Nat):Prop where
 kind:scope.kind=.function
 cons:∀y∈scope.names,scope.names.lookup y.1=some y.2
 names:∀y∈scope.names,y.2=.local->scope.names.lookup y.1=some .local
 cap:∀y∈scope.names,y.2=.free->X.env.scope.names.lookup y.1=some .cell\/X.env.scope.names.lookup y.1=some .free
 len:N'.length=X.N.length+n
 same:Uy X.N N' scope=true
theorem dR.get{X:Cx}{N':List Str}{n:Nat}(c:dR X scope N' n){i:Nat}{x:Str}(hi:i<X.N.length)(h:N'[i]?=some x)(a:uC (relabel scope X.env) x):X.N[i]?=some x/\scope.names.lookup x=some .free:=by
 have hz:(X.N.zip N')[i]?=some (X.N[i],x):=by rw[List.getElem?_zip_eq_some];exact⟨by simp[hi],h⟩
 have:=(all_eq_true.mp c.same) _ (mem_of_getElem? hz);simp only[or_eq_true,and_eq_true]at this;rcases this with⟨h1,b⟩|⟨⟨h1,b⟩,f⟩;.have h1:=eq_of_beq h1;have b:=eq_of_beq b;exact⟨by simp[hi,h1],b⟩
 . exfalso;have h1:scope.names.lookup x≠some .local:=by simpa using h1
   have b:scope.names.lookup x≠some .cell:=by simpa using b
   have f:scope.names.lookup x≠some .free:=by simpa using f
   have e:=cV (env:=X.env) scope.names x;have a:(relabel scope X.env).names.lookup x=some .local\/(relabel scope X.env).names.lookup x=some .cell\/(relabel scope X.env).names.lookup x=some .free:=a;rw[show(relabel scope X.env).names.lookup x=_ from e]at a;cases q:scope.names.lookup x with|none=>rw[q]at a;simp at a|some k=>
     rw[q]at a h1 b f;have g:(k==NameKind.free)=false:=by cases k<;>first|rfl|exact absurd rfl f
     simp only[Option.map_some,g,Bool.false_and,false_eq_true,if_false,Option.some.injEq]at a;rcases a with rfl|rfl|rfl;.exact h1 rfl
     .exact b rfl
     .exact f rfl
structure CI(cl:List (Str×Addr))(z:Nat)(h:Heap)(acc:List (Str×Addr)):Prop where from':∀n c,acc.lookup n=some c->cl.lookup n=some c\/(z<=c/\h.IsCell c none)inj:∀n n' c,acc.lookup n=some c->acc.lookup n'=some c->n=n'
theorem Dy{cl:List (Str×Addr)}{z:Nat}(i:∀n c,cl.lookup n=some c->c<z):∀(names:List (Str×NameKind))(h:Heap)(f:List (Str×Addr)),z<=h.objs.size->CI cl z h f->CI cl z (pushCells h names) (cellsFrom h.objs.size names f)/\(∀n,(f.lookup n).isSome->((cellsFrom h.objs.size names f).lookup n).isSome)/\(∀n,((∃c,f.lookup n=some c/\z<=c)\/(n,NameKind.cell)∈names)->∃c,(cellsFrom h.objs.size names f).lookup n=some c/\z<=c)/\(∀n c,(n,NameKind.cell)∉names->(cellsFrom h.objs.size names f).lookup n=some c->f.lookup n=some c)
 |[],h,f,hz,x=>by
   refine⟨x,λ_ q=>q,λn q=>?_,λ_ _ _ q=>q⟩;rcases q with q|q;.exact q
   .cases q|(name,kind)::r,h,f,hz,x=>by
   unfold pushCells cellsFrom;by_cases l:kind=.cell
   . subst l;rw[if_pos (by rfl),if_pos (by rfl)];have p:CI cl z (h.push {cls:=.type "cell",data:=.cell none}) ((name,h.objs.size)::f):=by
      have lt:∀n c,f.lookup n=some c->c<h.objs.size:=λn c e=>by
       rcases x.from' n c e with q|q;.exact lt_of_lt_of_le (i n c q) hz
       .exact q.2.lt
      refine⟨λn c e=>?_,λn m c e j=>?_⟩
      . rw[lookup_cons]at e;split at e;.cases e;exact .inr ⟨hz,_,get?_push_size _ rfl,rfl⟩
        . rcases x.from' n c e with q|q;.exact .inl q
          .exact .inr ⟨q.1,q.2.keeps λb o e=>fH e⟩
      . rw[lookup_cons]at e j;split at e<;>split at j;.rename_i _ a _ b;rw[eq_of_beq a,eq_of_beq b]
        .cases e;exact absurd (lt m _ j) (lt_irrefl _)
        .cases j;exact absurd (lt n _ e) (lt_irrefl _)
        .exact x.inj n m c e j
     have g:=Dy i r (h.push {cls:=.type "cell",data:=.cell none}) ((name,h.objs.size)::f) (by rw[size_push];omega) p;rw[size_push]at g;refine⟨g.1,λn q=>g.2.1 n ?_,λn q=>g.2.2.1 n ?_,λn c q e=>?_⟩
     . rw[lookup_cons];split;.rfl
       .exact q
     . rcases q with⟨c,e,hc⟩|q
       . left;rw[lookup_cons];split;.exact⟨_,rfl,hz⟩
         .exact⟨c,e,hc⟩
       . rcases mem_cons.mp q with q|q;.cases q;left;exact⟨_,by simp[lookup_cons],hz⟩
         .exact .inr q
     . have:=g.2.2.2 n c (λz=>q (mem_cons_of_mem _ z)) e;rw[lookup_cons]at this;split at this;.rename_i a;exact absurd (by rw[eq_of_beq a];exact mem_cons_self) q
       .exact this
   . have k:(kind==NameKind.cell)=false:=by simpa using l
     rw[if_neg (by rw[k];decide),if_neg (by rw[k];decide)];have g:=Dy i r h f hz x;refine⟨g.1,g.2.1,λn q=>g.2.2.1 n ?_,λn c q e=>g.2.2.2 n c (λz=>q (mem_cons_of_mem _ z)) e⟩;rcases q with q|q;.exact .inl q
     . rcases mem_cons.mp q with q|q;.cases q;exact absurd rfl l
       .exact .inr q
structure Cj(X:Cx)(scope:Scope)(z:Nat)(h:Heap)(cs:List (Str×Addr)):Prop where
 from':∀n c,cs.lookup n=some c->X.env.cells.lookup n=some c\/(z<c/\h.IsCell c none)inj:∀n n' c,cs.lookup n=some c->cs.lookup n'=some c->n=n'
 has:∀n,(scope.names.lookup n=some .free\/scope.names.lookup n=some .cell)->∃c,cs.lookup n=some c
 fre:∀n c,scope.names.lookup n=some .free->cs.lookup n=some c->X.env.cells.lookup n=some c
 own:∀n c,scope.names.lookup n=some .cell->cs.lookup n=some c->z<c
theorem Bs{M:Model}{A:Around}{E:Value->Shared->Prop}{X:Cx}{s:Shared}{N':List Str}{n:Nat}{cl:List (Str×Addr)}{Q:Env->Shared->Prop}(ok:dR X scope N' n)(h:∀n c,X.env.cells.lookup n=some c->c<s.heap.objs.size)(f:∀x y c,X.env.cells.lookup x=some c->X.env.cells.lookup y=some c->x=y)(a:∀n c,cl.lookup n=some c->X.env.cells.lookup n=some c)(l:∀n,(n,NameKind.free)∈scope.names->(cl.lookup n).isSome)(m:∀ cs h',h'.Ns s.heap.objs.size (λ_=>none)->(∀ b o,s.heap.get? b=some o->h'.get? b=some o)->Cj X scope s.heap.objs.size h' cs->Q {scope:=scope,locals:=s.heap.objs.size,globals:=X.env.globals,cells:=cs,qual:=X.env.qual,func:=none,code:=X.env.code,frame:=X.env.frame,builtins:=X.env.builtins} {s with heap:=h'}):wpAny M A (newFunctionEnv scope X.env.globals cl [] X.env.qual none .none (some X.env)) Q E s:=by
 simp only[newFunctionEnv,Option.isSome_some,if_true];refine wpAny_bind (wpAny_alloc ?_);refine wpAny_bind (wpAny_layCells _ (λname kind cells=>by cases i:kind==NameKind.cell<;>simp[i]) _ _ _ _ ?_);have ck:=Dy (cl:=cl) (z:=s.heap.objs.size+1) (λn c e=>Nat.lt_succ_of_lt (h n c (a n c e))) scope.names (s.heap.push {cls:=.type "dict",data:=.dict #[]}) cl (by rw[size_push];exact bN) ⟨λn c e=>.inl e,λn k c e g=>f n k c (a n c e) (a k c g)⟩;obtain⟨c1,c2,c3,c4⟩:=ck;rw[show({s with heap:=s.heap.push {cls:=.type "dict",data:=.dict #[]}}:Shared).heap.objs.size=(s.heap.push {cls:=.type "dict",data:=.dict #[]}).objs.size from rfl];refine wpAny_bind ?_;rw[List.forIn_nil];refine wpAny_pure (wpAny_pure (m _ _ ((Heap.Ns.new s.heap (.type "dict")).keeps (pushCells_keeps _ _)) (λb o e=>pushCells_keeps _ _ b o (fH e)) ⟨λn c e=>?_,c1.inj,λn q=>?_,λn c q e=>?_,λn c q e=>?_⟩))
 . rcases c1.from' n c e with z|z;.exact .inl (a n c z)
   .exact .inr ⟨z.1,z.2⟩
 . rcases q with q|q;.exact Option.isSome_iff_exists.mp (c2 n (l n (PySem.mem_of_lookup q)))
   .obtain⟨c,e,_⟩:=c3 n (.inr (PySem.mem_of_lookup q));exact⟨c,e⟩
 .refine a n c (c4 n c (λz=>?_) e);have:=ok.cons _ z;rw[q]at this;cases this
 .obtain⟨p,g,j⟩:=c3 n (.inr (PySem.mem_of_lookup q));rw[e]at g;cases g;exact j
section
variable{X:Cx}{pins:List (Addr×Obj)}{σ:L2.St}{H:Hp}{s:Shared}{scope:Scope}{N':List Str}{n:Nat}{fp:List Addr}{cl:List (Str×Addr)}
theorem Di{h1:Heap}{m:Str->Option Value}{t:Nat}{cs:List (Str×Addr)}(ok:dR X scope N' n)(I:Inv X pins σ H s)(G:∀b∈fp,o6 X pins H b/\b<s.heap.objs.size)(w:Cj X scope s.heap.objs.size h1 cs)(Q:h1.Ns s.heap.objs.size m)(j:∀b u,s.heap.get? b=some u->h1.get? b=some u):Inv (u9 X scope N' cs s.heap.objs.size s H fp) [] (σ++replicate n none) H {s with heap:=h1,toks:=t}:=by
 have U:∀x,scope.names.lookup x=some .free->(relabel scope X.env).names.lookup x=some .cell\/(relabel scope X.env).names.lookup x=some .free:=λx h=>by
  have e:=cV (env:=X.env) scope.names x;rw[h]at e;have J:(relabel scope X.env).names.lookup x=_:=e;rw[J];simp only[Option.map_some];split;.exact .inl rfl
  .exact .inr rfl
 refine⟨⟨I.ok.mod,ok.kind,I.ok.glob,I.ok.blt,bN,λx y c h1 W=>w.inj x y c h1 W,λx z=>?_,λx c h e=>le_of_lt (w.own x c (eq_of_beq (show(scope.names.lookup x==some NameKind.cell)=true from h)) e),I.ok.hd,I.ok.frames,.inl rfl,λb B=>?_,I.bs,le_trans I.ok.Lh I.sz,λb u e B=>?_,λb B L=>?_,I.stack,I.yS⟩,rfl,I.bare,Un.kept j,⟨m,Q,λi x v Y C Z=>?_⟩,λx c e=>?_,I.hok.fresh (bN),λx c e=>?_,λp hp=>(by cases hp),I.hok.kept j,?_⟩;.--a Wm name has its cell
   have z:(relabel scope X.env).names.lookup x=some .cell\/(relabel scope X.env).names.lookup x=some .free:=z;have e:=cV (env:=X.env) scope.names x;have J:(relabel scope X.env).names.lookup x=_:=e;rw[J]at z;refine w.has x ?_;cases q:scope.names.lookup x with|none=>rw[q]at z;simp at z|some k=>
     rw[q]at z;by_cases hk:k=.free;.rw[hk];exact .inl rfl
     . have g:(k==NameKind.free)=false:=by simpa using hk
       simp only[Option.map_some,g,Bool.false_and,false_eq_true,if_false,Option.some.injEq]at z;rcases z with rfl|rfl;.exact .inr rfl
       .exact absurd rfl hk
 . obtain⟨f,lt⟩:=G b B;refine⟨ne_of_lt lt,λx c e=>?_⟩;rcases w.from' x c e with e|e;.exact f.2.2.2.2.1 x c e
   .rintro rfl;exact absurd (Nat.lt_trans e.1 lt) (lt_irrefl _)
 . obtain⟨f,lt⟩:=G b B;rcases f.2.2.2.1 with h|h;.exact I.ok.Gx b u e h
   .have this:b<X.base.objs.size:=lt_size e;exact absurd (lt_of_lt_of_le this (le_trans I.ok.Lh h)) (lt_irrefl _)
 . obtain⟨f,lt⟩:=G b B;rcases mem_cons.mp (I.sr b L)with h|h;.exact f.2.1 h
   .exact f.2.2.1 h
 .--the names
   have hi:i<σ.length:=by
    by_cases hi:i<σ.length;.exact hi
    .rw[getElem?_append_right (by omega),List.getElem?_replicate]at C;split at C<;>cases C
   rw[getElem?_append_left hi]at C;obtain⟨M,o⟩:=ok.get (by rw[<-I.len];exact hi) Y Z;have hk:=ok.cap (x,.free) (PySem.mem_of_lookup o) rfl;obtain⟨m0,ae,hl⟩:=I.loc;obtain⟨u,r,l⟩:=hl i x v M C (.inr hk);refine⟨u,r,.inr ⟨U x o,?_⟩⟩;rcases l with⟨g,_⟩|⟨_,c,hc,A⟩;.have g:X.env.scope.names.lookup x=some .local:=g;rcases hk with hk|hk<;>(rw[g]at hk;cases hk)
   .obtain⟨c',E⟩:=w.has x (.inl o);have:=w.fre x c' o E;rw[hc]at this;cases this;refine⟨c,E,?_⟩;obtain⟨oc,N,O⟩:=A;exact⟨oc,j c oc N,O⟩
 . rcases w.from' x c e with e|e;.obtain⟨v,oc,N,O⟩:=I.cell x c e;exact⟨v,oc,j c oc N,O⟩
   .exact⟨_,e.2⟩
 . rcases w.from' x c e with e|e;.exact I.jo x c e
   .exact I.hok.fresh (le_of_lt e.1)
 .show(σ++replicate n none).length=N'.length;rw[length_append,List.length_replicate,I.len,ok.len]
theorem rB{prog:Program}{w:World}{A:Around}{R:Result->Shared->Prop}{p a iter:Expr}{ifs:List Expr}{pos:Pos}{it q:Value}(I:Nat->Shared->Prop)(t:∀ n s,I n s->wpAny (model prog w) A (pyNext it) (λr b=>match r with|none=>R (.ok .next) b|some v=>wpAny (model prog w) A (letOwnedTupleGo a it v) (λ_ b=>wpAny (model prog w) A (assign a env v) (λ_ j=>wpAny (model prog w) A (forIn ifs true λc r=>if r=true then do let ok<-isTrue c env (eval c env);pure (ForInStep.yield ok)else pure (ForInStep.yield r)) (λok g=>if ok=true then wpAny (model prog w) A (eval p env) (λx k=>wpAny (model prog w) A (call (.builtin "list.append") [q,x]) (λ_ l=>∃m,m<n/\I m l) (notedBy (model prog w) A env λe i=>R (.error e) i) k) (notedBy (model prog w) A env λe i=>R (.error e) i) g else ∃m,m<n/\I m g) (notedBy (model prog w) A env λe i=>R (.error e) i) j) (notedBy (model prog w) A env λe i=>R (.error e) i) b) (notedBy (model prog w) A env λe i=>R (.error e) i) b) (notedBy (model prog w) A env λe i=>R (.error e) i) s)(n:Nat){s:Shared}(h:I n s):codeAny (model prog w) A (.compLoop (.ListComp p [⟨a,iter,ifs,0⟩] scope pos) 0 it q env) R s:=by refine codeAny_loop rfl I (λn s B=>?_) n h;show wpAny _ A ((compTurn (.ListComp p [⟨a,iter,ifs,0⟩] scope pos) 0 it q env).onRaise (λx=>do noteFrame x env;theTreesLotGoes x)) _ _ s;refine wpAny_noted ?_;rw[compTurn_list];refine wpAny_bind (wpAny_standAt (wpAny_bind (wpAny_mono (t n s B) (λr b f=>?_) λ_ _ h'=>h')));cases r with|none=>exact wpAny_pure f|some v=>refine wpAny_bind (wpAny_mono f (λ_ b f=>?_) λ_ _ h'=>h');refine wpAny_bind (wpAny_mono f (λ_ j u=>wpAny_bind (wpAny_mono u (λok g o=>?_) λ_ _ h'=>h')) λ_ _ h'=>h');cases ok with|false=>exact wpAny_pure ⟨rfl,o⟩|true=>exact wpAny_bind (wpAny_bind (wpAny_mono o (λx k y=>wpAny_bind (wpAny_mono y (λ_ l z=>wpAny_pure (wpAny_pure ⟨rfl,z⟩)) λ_ _ h'=>h')) λ_ _ h'=>h'))
def Ss(X:Cx)(ifs:List Expr)(t:TT):Prop:=∀(pins:List (Addr × Obj))(s:Shared)(σ:L2.St)(H:Hp)(Q:Bool->Hp->Prop),Inv X pins σ H s->t σ H Q->wpAny (model X.prog X.w) X.A (forIn ifs true λc r=>if r=true then do let ok<-isTrue c X.env (eval c X.env);pure (ForInStep.yield ok)else pure (ForInStep.yield r)) (TP X pins σ Q) X.xe s
theorem Jv{X:Cx}:Ss X [] (λ_ H Q=>Q true H):=λpins s σ H Q I h=>wpAny_tests_nil ⟨H,I,h⟩
def KZ(J:It)(g:TG)(tt:TT)(te:TE)(D:Addr)(Q:Hp->Prop)(W:Nat->Nat->List V->L2.St->Hp->Prop):Prop:=∀ i m ys σ H,W i m ys σ H->H D=some (.lst ys)/\((J.stop i H/\Q H)\/(J.go i H/\∀ x e,J.Lj i H x e->g x σ e λa j=>tt a j λb f=>if b=true then te a f λy h=>h D=some (.lst ys)/\ys.length<sizeLine/\∃c,c<m/\W (i+1) c (ys++[y]) a (upd h D (.lst (ys++[y])))else ∃c,c<m/\W (i+1) c ys a f))
theorem qg{E:Value->Shared->Prop}{ag a iter:Expr}{ifs:List Expr}{pos:Pos}{it:Addr}{tn:Nat->Heap->Prop}{J:It}{g:TG}{tt:TT}{te:TE}{Q:Addr->Hp->Prop}{RR:Value->Addr->Result->Shared->Prop}(hc:X.calm=true)(ok:dR X scope N' n)(I:Inv X pins σ H s)(ba:∀n c,cl.lookup n=some c->X.env.cells.lookup n=some c)(xX:∀n,(n,NameKind.free)∈scope.names->(cl.lookup n).isSome)(T:Turn X.prog X.w X.K a J fp it tn)(h0:tn 0 s.heap)(hf:∀b∈fp,o6 X pins H b)(hg:∀cl C s₀ H₀ ex,PG (u9 X scope N' cl C s₀ H₀ ex) a g)(ht:∀cl C s₀ H₀ ex,Ss (u9 X scope N' cl C s₀ H₀ ex) ifs tt)(he:∀cl C s₀ H₀ ex,PE (u9 X scope N' cl C s₀ H₀ ex) ag te)(hw:∀D,H D=none->∃W,(∃m,W 0 m [] (σ++replicate n none) (upd H D (.lst [])))/\KZ J g tt te D (Q D) W)(bi:∀D C B l,Q D l->(∃m,B.heap.Ns C m)->o6 X pins l C->Inv X pins σ l B->RR (.ref D) C (.ok .next) B):wpAny (model X.prog X.w) X.A (newList []) (λar av=>wpAny (model X.prog X.w) X.A (newFunctionEnv scope X.env.globals cl [] X.env.qual none .none (some X.env)) (λai aw=>codeAny (model X.prog X.w) X.A (.compStart (.ListComp ag [⟨a,iter,ifs,0⟩] scope pos) 0 (.ref it) ar {ai with scope:=relabel scope X.env}) (RR ar ai.locals) aw) E av) E s:=by
 refine wpAny_newObj_type (Bs ok (λx c e=>?lt) I.ok.inj ba xX (λcs M al hold bc=>?_));case lt=>obtain⟨v,z⟩:=I.cell x c e;exact lt_of_lt_of_le z.lt (by show _<=(s.heap.push _).objs.size;rw[size_push];exact Nat.le_succ _)
 dsimp only at al hold bc ⊢--the new list,tracked
 have I3:Inv X pins σ (upd H s.heap.objs.size (.lst [])) {s with heap:=s.heap.push {cls:=.type "list",data:=.seq ([]:List Value).toArray}}:=I.Mi (t':=s.toks) .nil (pG);generalize am:({s with heap:=s.heap.push {cls:=.type "list",data:=.seq ([]:List Value).toArray}}:Shared)=s3 at I3;have hsz:s3.heap.objs.size=s.heap.objs.size+1:=by rw[<-am];exact size_push _ _
 have Lr:s3.heap=s.heap.push {cls:=.type "list",data:=.seq ([]:List Value).toArray}:=by rw[<-am]
 obtain⟨W,⟨m0,w0⟩,ax⟩:=hw s.heap.objs.size I.fresh;have ay:∀{h':Heap},(∀b o,s.heap.get? b=some o->h'.get? b=some o)->tn 0 h':=λk=>T.keep _ _ _ h0 λb j o e=>k b o e;have YC:∀b∈fp,o6 X pins (upd H s.heap.objs.size (.lst [])) b/\b<s3.heap.objs.size:=λb j=>by obtain⟨o,e,_⟩:=T.obj 0 _ h0 b j;have lt:=lt_size e;obtain⟨f1,f2⟩:=hf b j;exact⟨⟨by rw[ao (ne_of_lt lt)];exact f1,f2⟩,by rw[hsz];exact Nat.lt_succ_of_lt lt⟩
 rw[<-Lr]at al hold bc ⊢;have I4:=Di (t:=s3.toks) ok I3 YC bc al hold;have Wn:∀b o,s.heap.get? b=some o->M.get? b=some o:=λb o e=>hold b o (by rw[Lr];exact fH e);generalize U:u9 X scope N' cs s3.heap.objs.size s3 (upd H s.heap.objs.size (.lst [])) fp=G at I4;have hA:G.A=X.A:=by rw[<-U];rfl
 have N:G.prog=X.prog:=by rw[<-U];rfl
 have O:G.w=X.w:=by rw[<-U];rfl
 have aE:G.K=X.K:=by rw[<-U];rfl
 have Y:G.calm=true:=by rw[<-U];exact hc
 have bm:G.xe=λ_ _=>False:=by rw[<-U];rfl
 have aI:G.env=compEnvC scope cs s3.heap.objs.size X.env:=by rw[<-U];rfl
 have bn:PG G a g:=by rw[<-U];exact hg _ _ _ _ _
 have bo:Ss G ifs tt:=by rw[<-U];exact ht _ _ _ _ _
 have bp:PE G ag te:=by rw[<-U];exact he _ _ _ _ _
 have ff:∀{l:Hp}{b:Addr},b∈fp->l b=none->o6 G [] l b:=λ{l b}j hn=>by
  obtain⟨f,lt⟩:=YC b j;rw[<-U];refine⟨hn,ne_of_lt lt,λbq=>?_,.inl j,λx c e=>?_,λp hp=>by cases hp⟩
  . rcases mem_cons.mp (I3.sr b bq)with h|h;.exact f.2.1 h
    .exact f.2.2.1 h
  . rcases bc.from' x c e with e|e;.exact f.2.2.2.2.1 x c e
    .rintro rfl;exact absurd (Nat.lt_trans e.1 lt) (lt_irrefl _)--behind the block
 have fin:∀{L:L2.St}{l:Hp}{B:Shared},Inv G [] L l B->Q s.heap.objs.size l->RR (.ref s.heap.objs.size) s3.heap.objs.size (.ok .next) B:=λ{L l B}J' q=>by
  rw[<-U]at J';have hC:l s3.heap.objs.size=none:=J'.free;obtain⟨hh,gg,dd,br,bt⟩:=B;have bv:bt=s3.os:=J'.os;subst bv;refine bi _ _ _ l q (let⟨m,hm,_⟩:=J'.loc;⟨m,hm⟩) ?_ (I3.call (h':=hh) (g':=gg) (d':=dd) (t':=br) (ch:=fp) J'.base J'.hok J'.bare λb j=>?_);.exact I3.Gd (bN) hC
  .obtain⟨f,lt⟩:=YC b j;exact⟨f.2.2.2.1,f.2.1,f.2.2.2.2.1,f.2.2.2.2.2⟩
 have ae:codeAny (model X.prog X.w) X.A (.compLoop (.ListComp ag [⟨a,iter,ifs,0⟩] scope pos) 0 (.ref it) (.ref s.heap.objs.size) G.env) (RR (.ref s.heap.objs.size) s3.heap.objs.size) {s3 with heap:=M,toks:=s3.toks}:=by
  refine rB (λk B=>∃i ys L l,Inv G [] L l B/\tn i B.heap/\(∀b∈fp,l b=none)/\W i k ys L l) (λk s5 hI=>?_) m0 ⟨0,[],_,_,I4,ay Wn,λb j=>(YC b j).1.1,w0⟩;obtain⟨i,ys,ah,H5,I5,t5,f5,w5⟩:=hI;obtain⟨hD,ap⟩:=ax i k ys ah H5 w5;have YD:∀{Z:Value->Shared->Prop},∀(e:Value)(B:Shared),G.xe e B->Z e B:=λe B z=>by rw[bm]at z;exact False.elim z
  rcases ap with⟨stop,q⟩|⟨go,step⟩;.have z:=T.done G N O aE Y i [] s5 ah H5 (λ_ _=>False) I5 (λb j=>ff j (f5 b j)) t5 stop;rw[hA]at z;refine wpAny_mono z (?_) λ_ _ z=>False.elim z;rintro r s6⟨hr,I6⟩;subst hr;exact fin I6 q
  . have z:=T.item G N O aE Y i [] s5 ah H5 (λ_ _=>False) I5 (λb j=>ff j (f5 b j)) t5 go;rw[hA]at z;refine wpAny_mono z (?_) λ_ _ z=>False.elim z;rintro r s6⟨u,hr,z6⟩;subst hr;refine wpAny_mono z6 (?_) λ_ _ z=>False.elim z;rintro _ s7⟨x,H7,I7,r7,y7,t7,f7⟩;have bP:=I7.pinned (λb j=>ff j (f7 b j)) (T.obj _ _ t7)--what the pins keep
    have back:∀{L:L2.St}{l:Hp}{B:Shared},Inv G ([]++oK fp s7.heap) L l B->Inv G [] L l B/\tn (i+1) B.heap/\∀b∈fp,l b=none:=λ{L l B}J'=>by refine⟨J'.jW,T.keep _ _ _ t7 λb j o e=>(J'.pin (b,o) (mem_append_right _ (mem_append_right _ (fZ j e)))).1,λb j=>?_⟩;obtain⟨o,e,_⟩:=T.obj _ _ t7 b j;exact(J'.pin (b,o) (mem_append_right _ (mem_append_right _ (fZ j e)))).2.1
    have z7:=bn _ s7 ah H7 x u _ bP r7 (step x H7 y7);rw[hA,N,O]at z7;refine wpAny_mono z7 (?_) YD;rintro _ s8⟨af,H8,I8,q8⟩;have z8:=bo _ s8 af H8 _ I8 q8;rw[hA,N,O]at z8;refine wpAny_mono z8 (?_) YD;rintro b s9⟨H9,I9,q9⟩;cases b with|false=>rw[if_neg Bool.false_ne_true]at q9 ⊢;obtain⟨m',hm,w'⟩:=q9;obtain⟨b1,b2,b3⟩:=back I9;exact⟨m',hm,i+1,ys,af,H9,b1,b2,b3,w'⟩|true=>rw[if_pos rfl]at q9 ⊢;have z9:=bp _ s9 af H9 _ I9 q9;rw[hA,N,O]at z9;refine wpAny_mono z9 (?_) YD;rintro y pI⟨yv,aS,bS,bX,ca,aT,m',hm,w'⟩;have a8:=lq _ pI af aS (.ref s.heap.objs.size) [yv] (.ref s.heap.objs.size) [y] (λv a9=>a9=upd aS s.heap.objs.size (.lst (ys++[yv]))) bS rfl (.cons bX .nil) ⟨_,ys,yv,rfl,rfl,ca,aT,rfl⟩;rw[hA,N,O]at a8;refine wpAny_mono a8 (?_) YD;rintro _ Ym⟨_,a9,cb,_,cf⟩;subst cf;obtain⟨b1,b2,b3⟩:=back cb;exact⟨m',hm,i+1,ys++[yv],af,_,b1,b2,b3,w'⟩
 have e3:({s3 with heap:=M,toks:=s3.toks}:Shared)={s with heap:=M}:=by rw[<-am]
 rw[aI,e3]at ae;exact codeAny_compStart_list ae (T.self _ 0 _ _ _ (ay Wn) ae)
end
section
variable{X:Cx}{elt target iter:Expr}{ifs:List Expr}{scope:Scope}{pos:Pos}{N':List Str}{n:Nat}{wi:TI}{g:TG}{tt:TT}{te:TE}
def qP(n:Nat)(wi:TI)(g:TG)(tt:TT)(te:TE):TE:=λσ H Q=>wi σ H λJ a=>∀D,a D=none->∃W,(∃m,W 0 m [] (σ++replicate n none) (upd a D (.lst [])))/\KZ J g tt te D (λb=>Q (.ref D) b) W
theorem jL{a:List (Addr×Obj)}{σ:L2.St}{H:Hp}{s:Shared}(I:Inv X a σ H s)(ok:dR X scope N' n):∃cl,closureFor scope X.env=pure cl/\(∀n c,cl.lookup n=some c->X.env.cells.lookup n=some c)/\∀n,(n,NameKind.free)∈scope.names->(cl.lookup n).isSome:=wg λm b=>I.ok.has m (ok.cap (m,.free) b rfl)
theorem Ii(hc:X.calm=true)(ok:dR X scope N' n)(hi:PI X target iter wi)(r:∀cl C s₀ H₀ ex,PG (u9 X scope N' cl C s₀ H₀ ex) target g)(ht:∀cl C s₀ H₀ ex,Ss (u9 X scope N' cl C s₀ H₀ ex) ifs tt)(he:∀cl C s₀ H₀ ex,PE (u9 X scope N' cl C s₀ H₀ ex) elt te)(hs:∀x,foldedSetIterable iter X.env x=pure x:=by intro _;rfl):PE X (.ListComp elt [⟨target,iter,ifs,0⟩] scope pos) (qP n wi g tt te):=by intro a s σ H Q I h;obtain⟨cl,c,i,t⟩:=jL I ok;rw[eval_ListComp];refine wpAny_comprehension_free (use:=none) rfl hs c ok.kind ok.names (bB (hi a s σ H _ I h) λv s1 h1=>bB h1 λu s2 y=>?_);obtain⟨it,M,N,J,O,rfl,z,T,t0,f2,B⟩:=y;refine qg (Q:=λD j=>Q (.ref D) j) (RR:=λk C=>compPost (model X.prog X.w) X.A X.xe none (EP X a σ Q) k C) hc ok z i t T t0 f2 r ht he B λD C E j q l f G=>?_;obtain⟨m,l⟩:=l;refine⟨m,l,λh' p=>⟨.ref D,j,?_,rfl,q⟩⟩;exact G.turned (t':=E.toks) (λb o L e=>p.extBut b o L e) f.1 f.2.1 f.2.2.2.1 f.2.2.2.2.1 f.2.2.2.2.2
theorem IV{i:Nat}{x:Str}{c j:Pos}(hc:X.calm=true)(U:X.N.Nodup)(r:X.N[i]?=some x)(W:Loc X.env.scope x)(ok:dR X scope N' n)(hi:PI X target iter wi)(Y:∀cl C s₀ H₀ ex,PG (u9 X scope N' cl C s₀ H₀ ex) target g)(ht:∀cl C s₀ H₀ ex,Ss (u9 X scope N' cl C s₀ H₀ ex) ifs tt)(he:∀cl C s₀ H₀ ex,PE (u9 X scope N' cl C s₀ H₀ ex) elt te)(t:swapsWith (.ListComp elt [⟨target,iter,ifs,0⟩] scope pos) (some (.Name x c)) j.line X.env=pure true)(hs:∀x,foldedSetIterable iter X.env x=pure x:=by intro _;rfl)(Z:X.fn x=true\/X.env.scope.names.lookup x=some .local:=by first|exact .inl rfl|exact .inr rfl|assumption):PS X (.Assign [.Name x c] (.ListComp elt [⟨target,iter,ifs,0⟩] scope pos) j) (Qf (qP n wi g tt te) (jm i)):=by
 intro f s σ H D I h;obtain⟨cl,k,u,xX⟩:=jL I ok;rw[exec_Assign_Name_used _ _ _ _ t];refine wpAny_bind (wpAny_standAt (wpAny_bind ?_));show wpAny _ X.A (do let _<-comprehension (.ListComp elt [⟨target,iter,ifs,0⟩] scope pos) scope X.env _ (newList []) false (eval iter X.env) (some (assign (.Name x c) X.env))) _ _ s;refine wpAny_bind (wpAny_mono (wpAny_comprehension_free (use:=some (assign (.Name x c) X.env)) (Q:=λ_ p=>SP X f D .next p) rfl hs k ok.kind ok.names (bB (hi f s σ H _ I h) λv s1 h1=>bB h1 λae s2 h2=>?_)) (λ_ p hq=>wpAny_pure (wpAny_pure hq)) λ_ _ e=>e);obtain⟨it,fp,tn,J,H2,rfl,I2,T,t0,f2,hw⟩:=h2;refine qg (Q:=λDa y=>D.nx (σ.set i (some (.ref Da))) y) (RR:=λB C=>compPost (model X.prog X.w) X.A X.xe (some (assign (.Name x c) X.env)) (λ_ p=>SP X f D .next p) B C) hc ok I2 u xX T t0 f2 Y ht he hw λDa C p y q E l I'=>?_;obtain⟨m,E⟩:=E;show wpAny _ X.A (assign (.Name x c) X.env (.ref Da)) _ _ _;refine wpAny_assign_Name (pZ I' U r W (show RelV (.ref Da) (.ref Da)from rfl) (?_) Z);rintro G L⟨a,sb,ha⟩;have M:C≠a:=by
  rcases ha with rfl|ha;.exact l.2.1
  .exact λz=>l.2.2.2.2.1 x a ha z.symm
 refine⟨m,E.sameBut sb M,λh' O=>⟨_,y,?_,q⟩⟩;exact L.turned (t':=G.toks) (λb o hb e=>O.extBut b o hb e) l.1 l.2.1 l.2.2.2.1 l.2.2.2.2.1 l.2.2.2.2.2
def ZC(K:PySem.W.Frag)(c:TE):TI:=λσ H R=>c σ H λx b=>∃a,x=.ref a/\(((∃xs,dJ K b a xs)/\R (Ms K a) b)\/((∃xs,ji K b a xs)/\R (R6 K a) b))
theorem xH{u l:Expr}{r:TE}(w:PE X l r):PI X u l (ZC X.K r):=by
 intro f s σ H R I h;refine bB (w f s σ H _ I h) ?_;rintro v s1⟨x,t,c,r1,j⟩;obtain⟨a,e,j⟩:=j;subst e;cases r1;rcases j with⟨⟨xs,k⟩,q⟩|⟨⟨xs,k⟩,q⟩
 . obtain⟨i,y,p,hz⟩:=c.list k;refine wpAny_pyIter_list p.isList ?_;refine⟨s1.heap.objs.size,[s1.heap.objs.size],_,_,t,rfl,c.kept (t':=s1.toks) λb o e=>fH e,Ak a _,⟨_,get?_push_size _ rfl,rfl,rfl⟩,λb m=>?_,q⟩;have e:b=s1.heap.objs.size:=by simpa using m
   subst e;exact c.Gd (bN) (c.hok.fresh (bN))
 . obtain⟨i,y,p,hz⟩:=c.tuple k;refine wpAny_pyIter_tuple (show s1.heap.IsTuple a i.toArray from p) ?_;refine⟨s1.heap.objs.size,[s1.heap.objs.size],_,_,t,rfl,c.kept (t':=s1.toks) λb o e=>fH e,wQ a _,⟨_,get?_push_size _ rfl,rfl,rfl⟩,λb m=>?_,q⟩;have e:b=s1.heap.objs.size:=by simpa using m
   subst e;exact c.Gd (bN) (c.hok.fresh (bN))
end
end L2
end
section
namespace HH
open PySem L2 PySem.Spec PyProof.Rows
variable{v:V}{i m:Nat}{K:PySem.W.Frag}{F H:Hp}{ρ:List Sl}{σ:L2.St}{x:Str}{p':Pos}{is:List Nat}{ds:List D}{s:Shared}{A:Around}{u':Value}
structure Walk(K:PySem.W.Frag)(F:Hp)(ρ:List Sl)(σ:L2.St)(H:Hp)(ul:List Sl->List Sl)(J:It)(ds:List D)(F1:Hp)(ρ1:List Sl)(H1:Hp):Prop where
 gs:GS K F1 ρ1 σ H1
 src:∀(n k:Nat)(F':Hp)(ρ':List Sl)(σ':L2.St)(H':Hp),aq K F1 (ρ1++replicate n .aP) (σ++replicate n none) H1 F' ρ' σ' H'->(∀d,ds[k]?=some d->J.go k H'/\∀x tV,J.Lj k H' x tV->∃F'',Ext F' H' F'' tV/\Rep K F'' x d)/\(ds.length<=k->J.stop k H')fin:∀F2 ρ2 σ2 H2,aq K F1 ρ1 σ H1 F2 ρ2 σ2 H2->aq K F ρ σ H F2 (ul ρ2) σ2 H2/\∀v r,bL K F2 ρ2 σ2 H2 ρ1 σ H1 v r->bL K F2 (ul ρ2) σ2 H2 ρ σ H v r
inductive tIt(K:PySem.W.Frag)(iv:Option Nat)(f:Ev)(σ:L2.St)(H:Hp)(R:It->Hp->Prop):Prop where|mk(F:Hp)(ρ:List Sl)(ds:List D)(ρ1:List Sl)(g:GS K F ρ σ H)(e:srcOf iv f ρ=.ok ds ρ1)(k:∀J F1 H1,Walk K F ρ σ H (aO ρ iv) J ds F1 ρ1 H1->R J H1)
section
variable{K:PySem.W.Frag}{F F1 H H1:Hp}{ρ ρ1:List Sl}{σ:L2.St}{ds:List D}{a:Addr}
theorem yp{xs:List V}{f b:Hp}(g:ji K b a xs)(r:au K f xs ds)(s:aD f b)(k:Nat):(∀d,ds[k]?=some d->(R6 K a).go k b/\∀x j,(R6 K a).Lj k b x j->∃c,Ext f b c j/\Rep K c x d)/\(ds.length<=k->(R6 K a).stop k b):=by refine⟨λd hd=>?_,λh=>⟨xs,g,by rw[r.length];exact h⟩⟩;obtain⟨w,h1,l⟩:=r.get hd;refine⟨⟨xs,w,g,h1⟩,?_⟩;rintro x j⟨e,y⟩;subst e;have:=y xs g;rw[h1]at this;cases this;exact⟨f,.refl s,l⟩
theorem nu{xs:List V}{f b:Hp}(g:dJ K b a xs)(r:au K f xs ds)(s:aD f b)(k:Nat):(∀d,ds[k]?=some d->(Ms K a).go k b/\∀x j,(Ms K a).Lj k b x j->∃c,Ext f b c j/\Rep K c x d)/\(ds.length<=k->(Ms K a).stop k b):=by refine⟨λd hd=>?_,λh=>⟨xs,g,by rw[r.length];exact h⟩⟩;obtain⟨w,h1,l⟩:=r.get hd;refine⟨⟨xs,w,g,h1⟩,?_⟩;rintro x j⟨e,y⟩;subst e;have:=y xs g;rw[h1]at this;cases this;exact⟨f,.refl s,l⟩
theorem um{ul:List Sl->List Sl}{d:D}(s:aq K F ρ σ H F1 ρ1 σ H1)(r:Rep K F1 v d)(hi:items d=some ds)(fin:∀f b c g,aq K F1 ρ1 σ H1 f b c g->aq K F ρ σ H f (ul b) c g/\∀v r,bL K f b c g ρ1 σ H1 v r->bL K f (ul b) c g ρ σ H v r):∃a,v=.ref a/\(((∃xs,dJ K H1 a xs)/\Walk K F ρ σ H ul (Ms K a) ds F1 ρ1 H1)\/((∃xs,ji K H1 a xs)/\Walk K F ρ σ H ul (R6 K a) ds F1 ρ1 H1)):=by cases d with|tup es=>cases hi;rw[Rep]at r;obtain⟨a,xs,rfl,h1,h⟩:=r;exact⟨a,rfl,.inr ⟨⟨xs,aD.gG s.gs.sub h1⟩,s.gs,λn k o j l p e=>yp (aD.gG e.gs.sub (aD.gG e.cu h1)) (h.mono e.cu) e.gs.sub k,fin⟩⟩|lst es=>cases hi;rw[Rep]at r;obtain⟨a,xs,rfl,h1,h⟩:=r;exact⟨a,rfl,.inl ⟨⟨xs,s.gs.sub.seq h1⟩,s.gs,λn k o j l p e=>nu (e.gs.sub.seq (e.cu.seq h1)) (h.mono e.cu) e.gs.sub k,fin⟩⟩|_=>cases hi
theorem p6{ul:List Sl->List Sl}(g:GS K F ρ1 σ H)(e:ρ1[i]?=some (.lent ds))(fin:∀f b c h,aq K F ρ1 σ H f b c h->aq K F ρ σ H f (ul b) c h/\∀v r,bL K f b c h ρ1 σ H v r->bL K f (ul b) c h ρ σ H v r):∃a,σ[i]?=some (some (.ref a))/\(∃xs,dJ K H a xs)/\Walk K F ρ σ H ul (Ms K a) ds F ρ1 H:=by obtain⟨a,xs,h1,p,C,E⟩:=g.pB i _ ds e rfl;have hi:i<ρ1.length:=(dj e).1;refine⟨a,h1,⟨xs,dJ.of p⟩,g,λn k G q u I j=>?_,fin⟩;obtain⟨l,t,w,y⟩:=j.lk i _ (by rw[getElem?_append_left hi];exact e) rfl;cases(show t=.lent ds from y);rw[getElem?_append_left (by rw[<-g.len];exact hi),h1]at l;obtain⟨J,ys,o,z,L,B⟩:=j.gs.pB i _ ds w rfl;rw[l]at o;cases o;exact nu (dJ.of z) B j.gs.sub k
end
section
variable{X:Cx}{c:Call}{n:Nat}{e a b d tg:Expr}{p pa pb pd:P}{pos:Pos}
theorem oA{t t':TI}(h:PI X tg e t)(i:∀σ H R,t' σ H R->t σ H R):PI X tg e t':=λf s σ H R I q=>h f s σ H R I (i σ H R q)
def SI(X:Cx)(c:Call)(tg e:Expr)(p:P):Prop:=PI X tg e (tIt X.K (isVar p) (HH.ev c p))
theorem fB(h:SX X c e p):SI X c tg e p:=by unfold SI;cases hv:isVar p with|none=>refine oA (xH h.ev) ?_;rintro σ H R⟨F,ρ,ds,u,g,e,k⟩;obtain⟨r,f,L,t⟩:=aa e;have y:=az t;clear t;obtain⟨t,B⟩:=y;subst B;refine⟨F,ρ,r,_,g,L,λv U W s C=>?_⟩;obtain⟨l,s2,_,M⟩:=s.cz C;obtain⟨a,E,G⟩:=um (ul:=aO ρ none) s2 M t λY N O Z s3=>⟨s2.trans s3,λv r C=>C.later s2⟩;exact⟨a,E,G.imp (λ⟨z,w⟩=>⟨z,k _ _ _ w⟩) (λ⟨z,w⟩=>⟨z,k _ _ _ w⟩)⟩|some i=>
   refine oA (xH (h.var i hv)) ?_;rintro σ H R⟨F,ρ,ds,u,g,e,k⟩;unfold srcOf at e;dsimp only at e;split at e
   . rename_i b d q;have y:=az e;clear e;obtain⟨t,B⟩:=y;subst B;obtain⟨v,h1,Q⟩:=g.val i b d q;have fin:∀l f j o,aq X.K F ρ σ H l f j o->aq X.K F ρ σ H l (aO ρ (some i) f) j o/\∀v r,bL X.K l f j o ρ σ H v r->bL X.K l (aO ρ (some i) f) j o ρ σ H v r:=λl f j o s=>by unfold aO;dsimp only;rw[q];exact⟨s,λ_ _ z=>z⟩
     obtain⟨a,E,G⟩:=um (ul:=aO ρ (some i)) (.refl g) Q t fin;exact⟨v,h1,a,E,G.imp (λ⟨z,w⟩=>⟨z,k _ _ _ w⟩) (λ⟨z,w⟩=>⟨z,k _ _ _ w⟩)⟩
   . rename_i b I q;cases e;have hi:i<ρ.length:=(dj q).1;have fin:∀l f j o,aq X.K F (ρ.set i (.lent ds)) σ H l f j o->aq X.K F ρ σ H l (aO ρ (some i) f) j o/\∀v r,bL X.K l f j o (ρ.set i (.lent ds)) σ H v r->bL X.K l (aO ρ (some i) f) j o ρ σ H v r:=λl f j o s=>by unfold aO;dsimp only;rw[q];exact aq.aO g q s
     obtain⟨a,h1,J,w⟩:=p6 (ul:=aO ρ (some i)) (g.lend q) (getElem?_set_self hi) fin;exact⟨_,h1,a,rfl,.inl ⟨J,k _ _ _ w⟩⟩
   . rename_i I q;cases e;have fin:∀l f j o,aq X.K F ρ σ H l f j o->aq X.K F ρ σ H l (aO ρ (some i) f) j o/\∀v r,bL X.K l f j o ρ σ H v r->bL X.K l (aO ρ (some i) f) j o ρ σ H v r:=λl f j o s=>by unfold aO;dsimp only;rw[q];exact⟨s,λ_ _ z=>z⟩
     obtain⟨a,h1,J,w⟩:=p6 (ul:=aO ρ (some i)) g q fin;exact⟨_,h1,a,rfl,.inl ⟨J,k _ _ _ w⟩⟩
   .cases e
theorem uR{F1 g:Hp}{f:List Sl}(s:aq K F ρ σ H F1 f σ g)(i j:Int):Walk K F ρ σ H (aO ρ none) (RQ i (j-i).toNat) ((List.range (j-i).toNat).map λ(k:Nat)=>D.int (i+(k:Int))) F1 f g:=by
 refine⟨s.gs,λn k o q t I u=>⟨λd hd=>?_,λh=>?_⟩,λJ w y L s3=>⟨s.trans s3,λv r z=>z.later s⟩⟩;.rw[getElem?_map]at hd;obtain⟨m,B,C⟩:=map_some hd;obtain⟨h1,l⟩:=dj B;rw[List.getElem_range]at l;subst l;subst C;rw[length_range]at h1;refine⟨h1,?_⟩;rintro x M⟨E,G⟩;subst E;subst G;exact⟨o,.refl u.gs.sub,bA _⟩
 .rw[length_map,length_range]at h;exact h
theorem mX(t:x="range")(u:Gl X x)(w:X.mg x=none)(y:SX X c a pa)(hs:starEach [a] X.env=[(false,eval a X.env)]:=by rfl):SI X c tg (.Call (.Name x p') [a] [] pos) (.v7 (.con (.int 0)) pa):=by
 subst t;obtain⟨U,h1,z⟩:=y.bF;refine oA (qx u w (bC h1 dF hs) hs) ?_;rintro σ H R⟨F,ρ,ds,B,g,e,k⟩;obtain⟨r,C,q,h⟩:=aa e;have l:=az h;clear h;obtain⟨h,E⟩:=l;subst E;rw[HH.E19]at q;obtain⟨W,G,I,f⟩:=aa q;have l:=az f;clear f;obtain⟨f,J⟩:=l;subst J;obtain⟨Y,L,M,o⟩:=aa I;cases o;obtain⟨i,f1,f⟩:=bJ f;obtain⟨j,f2,f⟩:=bJ f;obtain⟨⟨b1,b2,b3,b4⟩,f⟩:=aW f;have f1:i=0:=by cases f1;rfl
 subst f1;subst f;cases h;cases bO f2;refine z g M λv N O s Q=>⟨j,by rw[Q.int],by omega,by omega,?_⟩;have:=uR s 0 j;rw[sub_zero]at this;refine k _ N O ?_;rw[sub_zero];exact this
theorem JC(y:x="range")(z:Gl X x)(B:X.mg x=none)(C:SX X c a pa)(E:SX X c b pb)(hs:starEach [a,b] X.env=[(false,eval a X.env),(false,eval b X.env)]:=by rfl)(h:starEach [b] X.env=[(false,eval b X.env)]:=by rfl):SI X c tg (.Call (.Name x p') [a,b] [] pos) (.v7 pa pb):=by subst y;obtain⟨Y,Z,h1,G,I⟩:=C.gO E;refine oA (Ao z B (bC h1 (bC G dF h) (by rw[hs,h])) hs h) ?_;rintro σ H R⟨F,ρ,ds,J,g,e,k⟩;obtain⟨r,L,o,l⟩:=aa e;have q:=az l;clear l;obtain⟨l,M⟩:=q;subst M;rw[HH.E19]at o;obtain⟨xy,N,O,f⟩:=aa o;have q:=az f;clear f;obtain⟨f,Q⟩:=q;subst Q;obtain⟨i,f1,f⟩:=bJ f;obtain⟨j,f2,f⟩:=bJ f;obtain⟨⟨b1,b2,b3,b4⟩,f⟩:=aW f;subst f;cases l;refine I g O λv u U W s t w=>⟨i,j,?_,by omega,k _ U W (uR s i j)⟩;have o:=bO f1;have l:=bO f2;rw[o]at t;rw[l]at w;rw[t.int,w.int]
end
section
variable{X:Cx}{c:Call}{n:Nat}{e a b d tg iter:Expr}{p pa pb pd:P}{pos:Pos}{body:List Stmt}{ss:List S}
def Ca(K:PySem.W.Frag)(j:List Sl->D->Option (List Sl))(g:TG):Prop:=∀(x:V)(d:D)(F:Hp)(ρ f:List Sl)(σ:L2.St)(H:Hp)(Q:L2.St->Hp->Prop),GS K F ρ σ H->Rep K F x d->j ρ d=some f->(∀h,aq K F ρ σ H F f h H->Q h H)->g x σ H Q
theorem sU(i:Nat):Ca K (λρ d=>put ρ i (.val false d)) (jm i):=λx d F ρ f σ H Q g r h k=>k _ (aq.put (r:=.val d) (.refl g) r h)
theorem eZ:∀(is:List Nat)(gs:HF),(∀(xs:List V)(ds:List D)(F:Hp)(ρ f:List Sl)(σ:L2.St)(H:Hp)(Q:L2.St->Hp->Prop),GS K F ρ σ H->au K F xs ds->putAll ρ is ds=some f->(∀j,aq K F ρ σ H F f j H->Q j H)->gs xs σ H Q)->∀i,∀(xs:List V)(ds:List D)(F:Hp)(ρ f:List Sl)(σ:L2.St)(H:Hp)(Q:L2.St->Hp->Prop),GS K F ρ σ H->au K F xs ds->putAll ρ (i::is) ds=some f->(∀j,aq K F ρ σ H F f j H->Q j H)->J3 (jm i) gs xs σ H Q:=by intro is gs o i xs ds F ρ f σ H Q g r h k;cases ds with|nil=>simp[putAll]at h|cons d ds=>obtain⟨v,vs,rfl,h1,q⟩:=r.bK;rw[putAll]at h;obtain⟨l,t,u⟩:=bJ h;have s1:=aq.put (r:=.val d) (.refl g) h1 t;refine⟨v,vs,rfl,o vs ds F l f _ H _ s1.gs q u λj s2=>k j (s1.trans s2)⟩
theorem mJ:∀(xs:List V)(ds:List D)(F:Hp)(ρ f:List Sl)(σ:L2.St)(H:Hp)(Q:L2.St->Hp->Prop),GS K F ρ σ H->au K F xs ds->putAll ρ [] ds=some f->(∀j,aq K F ρ σ H F f j H->Q j H)->Wa xs σ H Q:=by intro xs ds F ρ f σ H Q g r h k;cases ds with|nil=>rw[putAll]at h;cases h;exact⟨r.dX,k σ (.refl g)⟩|cons d ds=>simp[putAll]at h
theorem oX:∀{is:List Nat}{ds:List D}{ρ f:List Sl},putAll ρ is ds=some f->ds.length=is.length|[],[],_,_,_=>rfl|[],_::_,_,_,h=>by simp[putAll]at h|_::_,[],_,_,h=>by simp[putAll]at h|i::is,d::ds,ρ,f,h=>by rw[putAll]at h;obtain⟨g,k,j⟩:=bJ h;simp[oX j]
theorem tu{gs:HF}(q:m=is.length)(h:∀(xs:List V)(ds:List D)(F:Hp)(ρ f:List Sl)(σ:L2.St)(H:Hp)(Q:L2.St->Hp->Prop),GS K F ρ σ H->au K F xs ds->putAll ρ is ds=some f->(∀l,aq K F ρ σ H F f l H->Q l H)->gs xs σ H Q):Ca K (λρ d=>bQ ρ is false d) (Tj K m gs):=by intro x d F ρ f σ H Q g r j k;replace j:bQ ρ is false d=some f:=j;cases d with|tup ds=>replace j:putAll ρ is ds=some f:=j;rw[Rep]at r;obtain⟨a,xs,rfl,h1,o⟩:=r;exact⟨a,xs,rfl,aD.gG g.sub h1,by rw[o.length,oX j,q],h xs _ F ρ f σ H Q g o j k⟩|_=>cases j
theorem tL{g:TG}{one:Bool}(hp:PassesOwn (model X.prog X.w) X.A X.env X.xe)(hc:X.calm=true)(hi:SI X c tg iter p)(hg:PG X tg g)(ae:Ca X.K (λρ d=>bQ ρ is one d) g)(hb:SB X c n body ss)(hs:∀x,foldedSetIterable iter X.env x=pure x:=by intro _;rfl):SS X c n (.For tg iter body [] pos) (.jf p is one ss):=by
 refine cW (Ck hp hc hi hg hb hs) ?_;rintro D σ H⟨F,ρ,fl,t,g0,e,k⟩;rw[HH.Z2]at e;obtain⟨ds,o,e1,e⟩:=aa e;obtain⟨ag,G,e2,e⟩:=aa e;cases e;refine⟨F,ρ,ds,o,g0,e1,λJ F1 H1 w=>?_⟩;have src:∀(i:Nat)(Q:Hp)(t:List Sl)(h:L2.St)(j:Hp),aq X.K F1 o σ H1 Q t h j->(∀d,ds[i]?=some d->J.go i j/\∀x tV,J.Lj i j x tV->∃I,Ext Q j I tV/\Rep X.K I x d)/\(ds.length<=i->J.stop i j):=λi Q t h j s=>w.src 0 i Q t h j (by simpa using s);refine⟨λi m q U=>∃E f,aq X.K F1 o σ H1 E f q U/\m=ds.length-i/\i<=ds.length/\fM is one (fU c n ss) (ds.drop i) f=.ok fl G,⟨_,F1,o,.refl w.gs,rfl,pG,e2⟩,?_⟩;rintro i m q U⟨E,f,W,rfl,ah,l⟩;obtain⟨s1,s2⟩:=src i E f q U W;by_cases u:i<ds.length
 . right;have hd:ds[i]?=some ds[i]:=by simp[u]
   obtain⟨go,step⟩:=s1 _ hd;refine⟨go,λh j=>∃m',m'<ds.length-i/\∃E f,aq X.K F1 o σ H1 E f h j/\m'=ds.length-(i+1)/\i+1<=ds.length/\fM is one (fU c n ss) (ds.drop (i+1)) f=.ok fl G,λh j z=>z,λx j y=>?_⟩;obtain⟨F2,ext,rx⟩:=step x j y;have L:=W.trans (ext.stp W.gs);rw[drop_eq_getElem_cons u,fM]at l;cases hbd:bQ f is one ds[i]with|none=>rw[hbd]at l;cases l|some M=>rw[hbd]at l;obtain⟨N,B,eb,l⟩:=aa l;refine ae x _ F2 f M q j _ L.gs rx hbd λai sb=>?_;have C:=L.trans sb;refine⟨F2,M,N,B,C.gs,eb,λY O H4 s4=>?_⟩;have Z:=C.trans s4;cases N with|next=>exact⟨_,by omega,Y,B,Z,rfl,u,l⟩|cont=>exact⟨_,by omega,Y,B,Z,rfl,u,l⟩|brk=>cases l;exact k Y O H4 (w.fin _ _ _ _ Z).1|ret r=>cases l;intro v rr;obtain⟨z1,z2⟩:=w.fin _ _ _ _ Z;exact k Y O H4 z1 v (z2 v r (rr.later C))
 . left;have af:ds.drop i=[]:=by rw[drop_eq_nil_iff];omega
   rw[af,fM]at l;cases l;exact⟨s2 (by omega),k E q U (w.fin _ _ _ _ W).1⟩
theorem lM(i:Nat):(λ(ρ:List Sl)(d:D)=>bQ ρ [i] true d)=λρ d=>put ρ i (.val false d):=by funext ρ d;rfl
theorem HQ{f:Pos}(h:PassesOwn (model X.prog X.w) X.A X.env X.xe)(hc:X.calm=true)(j:X.N.Nodup)(g:X.N[i]?=some x)(k:Loc X.env.scope x)(hi:SI X c (.Name x f) iter p)(l:SB X c n body ss)(hs:∀x,foldedSetIterable iter X.env x=pure x:=by intro _;rfl)(o:X.fn x=true\/X.env.scope.names.lookup x=some .local:=by first|exact .inl rfl|exact .inr rfl|assumption):SS X c n (.For (.Name x f) iter body [] pos) (.jf p [i] true ss):=tL h hc hi (bD j g k o) (by rw[lM];exact sU i) l hs
theorem wY(M:PassesOwn (model X.prog X.w) X.A X.env X.xe)(ht:ST X c e p)(O:SB X c n body ss):SS X c n (.While e body [] pos) (.whl p ss):=by refine cW (DN M ht O) ?_;rintro D σ H⟨F,ρ,fl,o,g,e,k⟩;rw[HH.X14]at e;refine⟨λm j E=>∃q f,aq X.K F ρ σ H q f j E/\pN (iH (HH.ev c p)) (fU c n ss) m f=.ok fl o,⟨n,F,ρ,.refl g,e⟩,?_⟩;rintro m j E⟨q,f,G,h⟩;cases m with|zero=>rw[pN]at h;cases h|succ m=>rw[pN]at h;obtain⟨b,t,Q,h⟩:=aa h;refine⟨q,f,b,t,G.gs,Q,λF1 U s1=>?_⟩;have s2:=G.trans s1;cases b with|false=>rw[if_neg Bool.false_ne_true]at h;cases h;exact k F1 j U s2|true=>rw[if_pos rfl]at h;obtain⟨u,l,W,h⟩:=aa h;refine(show ∃N:L2.St->Hp->Prop,_/\_ from⟨λy I=>∃J,J<m+1/\∃q f,aq X.K F ρ σ H q f y I/\pN (iH (HH.ev c p)) (fU c n ss) J f=.ok fl o,λy I z=>z,F1,t,u,l,s2.gs,W,λC B L s4=>?_⟩);have s5:=s2.trans s4;cases u with|next=>exact⟨m,by omega,C,l,s5,h⟩|cont=>exact⟨m,by omega,C,l,s5,h⟩|brk=>cases h;exact k C B L s5|ret r=>cases h;exact λv Y=>k C B L s5 v (Y.later s2)
end
section
variable{X:Cx}{c:Call}{n:Nat}{e elt tg iter:Expr}{p ps pe:P}{pos:Pos}{scope:Scope}{N':List Str}{ifs:List Expr}
theorem M8{t t':TE}(h:PE X e t)(i:∀σ H Q,σ.length=X.N.length->t' σ H Q->t σ H Q):PE X e t':=λa s σ H Q I q=>h a s σ H Q I (i σ H Q I.len q)
def qy(K:PySem.W.Frag)(m:Nat)(is:List Nat)(one:Bool)(g:TG):Prop:=∀(x:V)(d:D)(F:Hp)(ρ b:List Sl)(σ:L2.St)(H:Hp)(Q:L2.St->Hp->Prop),GS K F ρ σ H->Rep K F x d->bQ ρ is one d=some b->(∀a,aq K F ρ σ H F b a H->a.take m=σ.take m->Q a H)->g x σ H Q
theorem take_set{b:Type}{l:List b}{a:b}(h:m<=i):(l.set i a).take m=l.take m:=by rw[List.take_set_of_le h]
theorem gW(h:m<=i):qy K m [i] true (jm i):=λx d F ρ a σ H Q g r b k=>k _ (aq.put (r:=.val d) (.refl g) r b) (take_set h)
def SQ(X:Cx)(c:Call)(ifs:List Expr)(t:Option P):Prop:=Ss X ifs (G6 X.K (vh c t))
theorem j9:SQ X c [] none:=λa s σ H Q I⟨F,ρ,k,ρ',g,e,q⟩=>by rw[vh]at e;cases e;exact Jv a s σ H Q I (q F H (.refl g))
theorem aq.Em{F1 j:Hp}{f:List Sl}{g:L2.St}{Da:Addr}{o:HO}(s:aq K F ρ σ H F1 f g j)(h:H Da=none)(q:F1 Da=none)(ho:¬ Own f g Da):aq K F ρ σ H F1 f g (upd j Da o):=by
 refine⟨⟨λb u e=>?_,s.gs.len,s.gs.val,λi t ds e k=>?_,s.gs.dis⟩,s.cu,s.vO,λb u e n=>?_,s.tZ,s.len,s.lk⟩
 . have:b≠Da:=by rintro rfl;rw[q]at e;cases e
   rw[ao this];exact s.gs.sub b u e
 . obtain⟨a,xs,l,r,w,y⟩:=s.gs.own i t ds e k;have:a≠Da:=by rintro rfl;exact ho ⟨i,⟨t,ds,e,k⟩,l⟩
   exact⟨a,xs,l,by rw[ao this];exact r,w,y⟩
 . have:b≠Da:=by rintro rfl;rw[h]at e;cases e
   rw[ao this];exact s.keep b u e n
theorem Ds{b r:List Sl}{ul:List Sl->List Sl}{ti:TI}{one:Bool}{u:List Sl->Res Bool}{el:Ev}{g:TG}{Q:VK}{xs:List D}(hm:σ.length=m)(ai:qy K m is one g)(al:∀R:It->Hp->Prop,(∀J F1 W,Walk K F ρ σ H ul J ds F1 b W->R J W)->ti σ H R)(ar:ds.length<=lim)(e2:turns is one u el ds [] (b++replicate n .aP)=.ok xs r)(k:∀v F' H',aq K F ρ σ H F' (ul (r.take b.length)) σ H'->bL K F' (ul (r.take b.length)) σ H' ρ σ H v (.own xs)->Q v H'):qP n ti g (G6 K u) (vV K el) σ H Q:=by
 refine al _ λJ F1 W w Da O=>?_;have am:b.length=σ.length:=w.gs.len;have gm:=w.gs.more (n:=n) (τ:=replicate n none) (by simp);have fD:F1 Da=none:=by cases q:F1 Da with|none=>rfl|some o=>rw[w.gs.sub Da o q]at O;cases O
 have nO:¬ Own (b++replicate n .aP) (σ++replicate n none) Da:=λ⟨i,⟨t,dt,q1,q2⟩,q3⟩=>by obtain⟨a,ys,z1,z2,_⟩:=gm.own i t dt q1 q2;rw[q3]at z1;cases z1;rw[O]at z2;cases z2
 refine⟨λi mm ys f G=>∃E h l,aq K F1 (b++replicate n .aP) (σ++replicate n none) W E h f G/\f.take m=σ/\G Da=some (.lst ys)/\E Da=none/\¬ Own h f Da/\au K E ys l/\l.length<=i/\mm=ds.length-i/\i<=ds.length/\turns is one u el (ds.drop i) l h=.ok xs r,⟨_,F1,_,[],(aq.refl gm).Em O fD nO,by rw[List.take_append_of_le_length (by omega),take_of_length_le (by omega)],aF,fD,nO,.nil,pG,rfl,pG,e2⟩,?_⟩;rintro i mm ys f G⟨E,h,l,Y,I,Z,hF,hO,rs,av,rfl,aw,j⟩;refine⟨Z,?_⟩--what stays of the new list through a step
 have stay:∀{L U:Hp}{M:List Sl}{B:L2.St},aq K E h f G L M B U->U Da=some (.lst ys)/\L Da=none/\¬ Own M B Da:=λ{L U M B}s=>by
  refine⟨s.keep Da _ Z hO,?_,λo=>?_⟩;.cases q:L Da with|none=>rfl|some o=>
      rcases s.vO Da hF (by rw[q];simp)with z|z;.exact absurd z hO
      .exact(BX Z z).elim
  . rcases s.tZ Da o with z|z;.exact hO z
    .rw[Z]at z;cases z
 obtain⟨s1,s2⟩:=w.src n i E h f G Y;by_cases C:i<ds.length
 . right;have hd:ds[i]?=some ds[i]:=by simp[C]
   obtain⟨go,step⟩:=s1 _ hd;refine⟨go,λx U y=>?_⟩;obtain⟨L,ext,rx⟩:=step x U y;have t2:=ext.stp Y.gs;rw[drop_eq_getElem_cons C,turns]at j;cases hbd:bQ h is one ds[i]with|none=>rw[hbd]at j;cases j|some ae=>rw[hbd]at j;obtain⟨bb,N,eb,j⟩:=aa j;refine ai x _ L h ae f U _ t2.gs rx hbd λB sb af=>?_;have t3:=t2.trans sb;refine⟨L,ae,bb,N,t3.gs,eb,λF4 H4 s4=>?_⟩;have t4:=t3.trans s4;cases bb with|false=>rw[if_neg Bool.false_ne_true]at j;obtain⟨y1,y2,y3⟩:=stay t4;exact⟨_,by omega,F4,N,l,Y.trans t4,af.trans I,y1,y2,y3,rs.mono t4.cu,by omega,rfl,C,j⟩|true=>
       rw[if_pos rfl]at j;obtain⟨re,ag,ee,j⟩:=aa j;refine(show vV K el B H4 _ from⟨F4,N,re,ag,t4.gs,ee,λv F5 H5 s5 rr=>?_⟩);obtain⟨F6,s6,_,rp⟩:=s5.cz rr;have t6:=t4.trans s6;obtain⟨y1,y2,y3⟩:=stay t6;have ah:ys.length<sizeLine:=by have h1:=rs.length;have h2:lim=sizeLine:=rfl;omega
       exact⟨y1,ah,_,by omega,F6,ag,l++[re.d],(Y.trans t6).Em O y2 y3,af.trans I,aF,y2,y3,(rs.mono t6.cu).append (.cons rp .nil),by simp;omega,rfl,C,j⟩
 . left;have ap:ds.drop i=[]:=by rw[drop_eq_nil_iff];omega
   rw[ap,turns]at j;cases j;refine⟨s2 (by omega),?_⟩;obtain⟨l1,l2⟩:=aq.less (m:=b.length) rfl w.gs (by simp) Y;have hst:f.take b.length=σ:=by rw[am,hm];exact I
   rw[hst]at l1;have rr:bL K E r f G (b++replicate n .aP) (σ++replicate n none) W (.ref Da) (.own xs):=⟨Da,ys,rfl,Z,hF,rs,hO,.inr O⟩;have Ls:=l2 _ _ rr;rw[hst]at Ls;obtain⟨z1,z2⟩:=w.fin _ _ _ _ l1;exact k _ E G z1 (z2 _ _ Ls)
theorem Hg{iv:Option Nat}{f:Ev}{one:Bool}{b:List Sl->Res Bool}{w:Ev}{g:TG}{Q:VK}{r:R}{j:List Sl}(z:σ.length=m)(q:qy K m is one g)(B:GS K F ρ σ H)(e:((srcOf iv f ρ).bind λds a=>if ds.length<=lim then(turns is one b w ds [] (a++replicate n .aP)).bind λxs l=>Res.ok (R.own xs) (aO ρ iv (l.take a.length))else .stuck)=.ok r j)(k:∀v y t,aq K F ρ σ H y j σ t->bL K y j σ t ρ σ H v r->Q v t):qP n (tIt K iv f) g (G6 K b) (vV K w) σ H Q:=by
 obtain⟨ds,u,C,e⟩:=aa e;split at e;.rename_i o;obtain⟨xs,E,G,e⟩:=aa e;cases e;exact Ds z q (λR h=>⟨F,ρ,ds,u,B,C,h⟩) o G k
 .cases e
theorem mZ{g:TG}{one:Bool}{t:Option P}(hc:X.calm=true)(ok:dR X scope N' n)(hi:SI X c tg iter ps)(b:∀cl C s₀ H₀ ex,PG (u9 X scope N' cl C s₀ H₀ ex) tg g)(a:qy X.K X.N.length is one g)(ht:∀cl C s₀ H₀ ex,SQ (u9 X scope N' cl C s₀ H₀ ex) c ifs t)(he:∀cl C s₀ H₀ ex,SX (u9 X scope N' cl C s₀ H₀ ex) c elt pe)(hs:∀x,foldedSetIterable iter X.env x=pure x:=by intro _;rfl):SX X c (.ListComp elt [⟨tg,iter,ifs,0⟩] scope pos) (.comp ps n is one t pe):=by refine⟨M8 (Ii (tt:=G6 X.K (vh c t)) (te:=vV X.K (HH.ev c pe)) hc ok hi b ht (λcl C s₀ H₀ ex=>(he cl C s₀ H₀ ex).ev) hs) ?_,λi h=>by cases h⟩;rintro σ H Q f⟨F,ρ,r,j,l,e,k⟩;rw[HH.E18]at e;exact Hg f a l e k
end
section
variable{X:Cx}{c:Call}{n:Nat}{e a b d:Expr}{p pa pb pd:P}{pos:Pos}{es:List Expr}{ps:List P}
noncomputable def tyN:D->String|.non=>"NoneType"|.bl _=>"bool"|.int _=>"int"|.str _=>"str"|.tup _=>"tuple"|.lst _=>"list"|.cH _=>"dict"|.dv _ _=>"dict"
noncomputable def VF:Ty->String|.none=>"NoneType"|.bool=>"bool"|.int=>"int"|.str=>"str"|.tuple=>"tuple"|.list=>"list"
theorem V6(K:PySem.W.Frag)(t:Ty)(d:D):PySem.W.kitOne K (.type (tyN d)) (.type (VF t))=some (bI t d):=by cases t<;>cases d<;>rfl
theorem Ut{k:List (Addr×Obj)}{x:V}{u:Value}{dt:D}(I:L2.Inv X k σ H s)(sm:aD F H)(g:cP X.K F H x dt)(f:RelV x u):(∃r,PySem.W.KitX X.K u (.type (tyN dt)) r/\r s.heap)/\u≠.builtin "__main__.__loader__#opaque":=by cases dt with|non=>rw[g.non]at f;cases f;exact⟨⟨_,PySem.W.kitx_none,trivial⟩,nofun⟩|bl y=>rw[g.bl]at f;cases f;exact⟨⟨_,PySem.W.kitx_bool,trivial⟩,nofun⟩|int i=>rw[g.int]at f;obtain⟨t,rfl⟩:=f;exact⟨⟨_,PySem.W.kitx_int,trivial⟩,nofun⟩|str y=>rw[g.str]at f;obtain⟨t,rfl⟩:=f;exact⟨⟨_,PySem.W.kitx_str,trivial⟩,nofun⟩|tup ds=>obtain⟨q,xs,rfl,h,_⟩:=g.tup sm;cases f;obtain⟨l,_,⟨o,h1,j,_⟩,_⟩:=I.tuple h;exact⟨⟨_,PySem.W.kitx_tuple,⟨o,h1,j⟩⟩,nofun⟩|lst ds=>obtain⟨q,xs,rfl,h,_⟩:=g.lst sm;cases f;obtain⟨l,_,w,_⟩:=I.list h;obtain⟨o,h1,j,_⟩:=w.isList;exact⟨⟨_,PySem.W.kitx_list,⟨o,h1,j⟩⟩,nofun⟩|cH m=>obtain⟨q,_,rfl,h⟩:=g.cH sm;cases f;obtain⟨o,h1,j⟩:=DP I h;exact⟨⟨_,kitx_dict,⟨o,h1,j⟩⟩,nofun⟩|dv ks ds=>obtain⟨q,_,vs,rfl,h,_⟩:=g.dv sm;cases f;obtain⟨o,h1,j⟩:=FJ I h;exact⟨⟨_,kitx_dict,⟨o,h1,j⟩⟩,nofun⟩
theorem N5(t:Ty):cR X (.builtin "isinstance") (λxs H Q=>∃x F dt,xs=[x,.ty (VF t)]/\aD F H/\cP X.K F H x dt/\Q (.bl (bI t dt)) H):=by rintro g s σ H xs w Q I r⟨x,F,dt,h,sm,j,q⟩;subst h;obtain⟨u,k,rfl,l,rt⟩:=r.two;cases(show k=Value.type (VF t)from rt);obtain⟨⟨y,Z,hz⟩,f⟩:=Ut I sm j l;exact PySem.W.kia_one Z I.Ob hz (V6 _ t dt) f λo=>⟨.bl _,H,I.tok o,rfl,q⟩
theorem Cy:bootBuiltins "isinstance"=some (.builtin "isinstance"):=by decide+kernel
theorem j6{y:Str}{f:Pos}(t:Ty)(w:x="isinstance")(z:Gl X x)(B:X.mg x=none)(C:SX X c a pa)(j:Gl X y)(l:X.mg y=none)(E:bootBuiltins y=some (.type (VF t)))(o:y≠"__name__":=by decide)(q:(y==("__debug__":Str))=false:=by decide)(hs:starEach [a,.Name y f] X.env=(false,eval a X.env)::starEach [.Name y f] X.env:=by rfl):SX X c (.Call (.Name x p') [a,.Name y f] [] pos) (.inst [t] pa):=by subst w;obtain⟨O,h1,G⟩:=C.bF;refine⟨cY (dq (N5 t) z B Cy (bC h1 (bC (Jt (v:=.ty (VF t)) j l E rfl o q) dF) hs) (he:=hs)) ?_,λi h=>by cases h⟩;rintro σ H Q⟨F,ρ,r,I,g,e,k⟩;rw[HH.E17]at e;obtain⟨dt,J,L,e⟩:=aa e;cases e;refine G g L λv u M s N=>⟨v,u,dt,rfl,s.gs.sub,N,k _ u M s ?_⟩;show Rep X.K u _ _;rw[any_cons,List.any_nil,Bool.or_false];exact gB _
inductive Y7(K:PySem.W.Frag)(f:List D->Option R)(xs:List V)(H:Hp)(Q:VK):Prop where|mk(F:Hp)(ds:List D)(r:R)(sm:aD F H)(rs:au K F xs ds)(he:f ds=some r)(k:∀v F' H',Ext F H F' H'->bH K F' H' H v r->Q v H')
theorem Kg{E:Expr}{f:List D->Option R}{q:P}(o:∀{t},PA X es t->PE X E (Yi (Y7 X.K f) t))(u:SA X c es ps)(y:∀ρ,HH.ev c q ρ=(evs c ps ρ).bind λds ρ=>lift (f ds) ρ)(z:isVar q=none):SX X c E q:=by refine⟨cY (o u.1) ?_,λi h=>by rw[z]at h;cases h⟩;rintro σ H Q⟨F,ρ,r,B,g,e,k⟩;rw[y]at e;obtain⟨ds,l,C,j⟩:=aa e;have G:=az j;clear j;obtain⟨j,I⟩:=G;subst I;exact⟨F,ρ,ds,l,g,C,λvs J U s L=>⟨J,ds,r,s.gs.sub,L,j,λw M N x O=>k w M N (s.trans (x.stp s.gs)) (.later s (O.pq s.gs))⟩⟩
theorem Ks{xs:List V}{i j:Int}(h:au K F xs [.int i,.int j]):xs=[.int i,.int j]:=by obtain⟨v,r,rfl,h1,g⟩:=h.bK;obtain⟨u,l,rfl,f,k⟩:=g.bK;rw[Rep]at h1 f;rw[h1,f,k.dX]
theorem inv2{f:TJ}{g:Int->Int->Int}{r:R}(h0:blt f []=none)(h1:∀a,blt f [a]=none)(o:∀a b c l,blt f (a::b::c::l)=none)(q:∀a b,eX a=false->blt f [a,b]=none)(t:∀i b,eX b=false->blt f [.int i,b]=none)(hi:∀i j,blt f [.int i,.int j]=some (.val (.int (g i j))))(he:blt f ds=some r):∃i j,ds=[.int i,.int j]/\r=.val (.int (g i j)):=by
 rcases ds with _|⟨a,_|⟨b,_|⟨c,l⟩⟩⟩;.rw[h0]at he;cases he
 .rw[h1]at he;cases he
 . by_cases h:eX a=true
   . obtain⟨i,rfl⟩:∃i,a=.int i:=by cases a<;>first|exact⟨_,rfl⟩|cases h
     by_cases k:eX b=true
     . obtain⟨j,rfl⟩:∃j,b=.int j:=by cases b<;>first|exact⟨_,rfl⟩|cases k
       rw[hi]at he;cases he;exact⟨i,j,rfl,rfl⟩
     .rw[t i b (by simpa using k)]at he;cases he
   .rw[q a b (by simpa using h)]at he;cases he
 .rw[o]at he;cases he
theorem Pk(hc:X.calm=true):cR X (.builtin "min") (Y7 X.K (blt .min2)):=by rintro f s σ H xs o Q I r⟨F,ds,r',sm,q,he,k⟩;obtain⟨i,j,rfl,rfl⟩:=inv2 (g:=λi j=>if j<i then j else i) rfl (λa=>by cases a<;>rfl) (λa b c l=>by cases a<;>first|rfl|(cases b<;>rfl)) (λa b h=>by cases a<;>first|rfl|cases h) (λi b h=>by cases b<;>first|rfl|cases h) (λ_ _=>rfl) he;rw[Ks q]at r;exact zX hc f s σ H _ o Q I r ⟨_,_,rfl,bH.bZ sm (bA _) k⟩
theorem Oa(hc:X.calm=true):cR X (.builtin "max") (Y7 X.K (blt .max2)):=by rintro f s σ H xs o Q I r⟨F,ds,r',sm,q,he,k⟩;obtain⟨i,j,rfl,rfl⟩:=inv2 (g:=λi j=>if i<j then j else i) rfl (λa=>by cases a<;>rfl) (λa b c l=>by cases a<;>first|rfl|(cases b<;>rfl)) (λa b h=>by cases a<;>first|rfl|cases h) (λi b h=>by cases b<;>first|rfl|cases h) (λ_ _=>rfl) he;rw[Ks q]at r;exact Bp hc f s σ H _ o Q I r ⟨_,_,rfl,bH.bZ sm (bA _) k⟩
theorem boot_min:bootBuiltins "min"=some (.builtin "min"):=by decide+kernel
theorem boot_max:bootBuiltins "max"=some (.builtin "max"):=by decide+kernel
theorem ym(f:x="min")(hc:X.calm=true)(g:Gl X x)(j:X.mg x=none)(k:SA X c [a,b] [pa,pb])(hs:starEach [a,b] X.env=(false,eval a X.env)::starEach [b] X.env:=by rfl)(hpl:(backTo pos (starEach [b] X.env)).any (·.1)=false:=by rfl):SX X c (.Call (.Name x p') [a,b] [] pos) (.blt .min2 [pa,pb]):=by subst f;exact Kg (λh=>dq (Pk hc) g j boot_min h (he:=hs) (hpl:=hpl)) k (λρ=>rfl) rfl
theorem zL(f:x="max")(hc:X.calm=true)(g:Gl X x)(j:X.mg x=none)(k:SA X c [a,b] [pa,pb])(hs:starEach [a,b] X.env=(false,eval a X.env)::starEach [b] X.env:=by rfl)(hpl:(backTo pos (starEach [b] X.env)).any (·.1)=false:=by rfl):SX X c (.Call (.Name x p') [a,b] [] pos) (.blt .max2 [pa,pb]):=by subst f;exact Kg (λh=>dq (Oa hc) g j boot_max h (he:=hs) (hpl:=hpl)) k (λρ=>rfl) rfl
end
section
variable{X:Cx}{c:Call}{n:Nat}{e a b d:Expr}{p pa pb pd:P}{pos:Pos}{es:List Expr}{ps:List P}
theorem tM(g:GS K F ρ σ H)(h:xG ρ i=some ds):∃a xs,σ[i]?=some (some (V.ref a))/\dJ K H a xs:=by
 unfold xG at h;split at h;.rename_i q;cases h;obtain⟨v,h1,f⟩:=g.pk q;obtain⟨a,xs,rfl,j,_⟩:=f.lst g.sub;exact⟨a,xs,h1,j⟩
 .cases h
theorem sZ{k:Nat}{h f:Pos}(I:X.N[k]?=some x)(J:uC X.env.scope x)(hi:SX X c b pb)(he:SX X c e p)(L:∀ v,assign (.Subscript (.Name x h) b f) X.env v=(do
  let l<-holding [v] (eval (.Name x h) X.env)let iv<-holding [v,l] (eval b X.env)standAt f
  holding [v,l,iv] (setItem l iv v)release [v,l,iv] []):=by intro _;rfl)(hs:swapsWithSole [.Subscript (.Name x h) b f] e pos.line X.env=pure false:=by rfl)(M:swappedStores [.Subscript (.Name x h) b f] e X.env=pure none:=by rfl)(h1:(assignEach [.Subscript (.Name x h) b f] X.env).map (·.2)=[assign (.Subscript (.Name x h) b f) X.env]:=by rfl)(hd:(x==("__debug__":Str))=false:=by decide)(u:(x==("__classdict__":Str))=false:=by decide):SS X c n (.Assign [.Subscript (.Name x h) b f] e pos) (.Bv k pb p):=by
 obtain⟨ti,w,y⟩:=hi.bF;refine cW (Gs he.ev (Pb (dh I J hd u) w set_list L) hs M h1) ?_;rintro D σ H⟨F,ρ,fl,O,g,e,Q⟩;rw[HH.X8]at e;obtain⟨r,z,U,e⟩:=aa e;obtain⟨x0,C,t,e⟩:=aa e;have W:=az t;clear t;obtain⟨t,Y⟩:=W;subst Y;obtain⟨dk,Z,e2,e⟩:=aa e;refine⟨F,ρ,r,z,g,U,λv F1 H1 s1 rr=>?_⟩;obtain⟨F2,s2,_,rp⟩:=s1.cz rr;obtain⟨o,ho,_⟩:=s2.gs.pk t;refine⟨o,ho,y s2.gs e2 λvi F3 H3 s3 pi=>?_⟩;split at e
 . rename_i bb ds B q;split at e;.rename_i j hj;cases e;obtain⟨ad,xs,E,q2,q3,G⟩:=s3.gs.pB k _ ds q rfl;rw[ho]at E;cases E;refine⟨ad,xs,B,j,rfl,pi.int,q2,by rw[G.length];exact hj,?_⟩;exact Q F3 σ _ ((s2.trans s3).trans (s3.gs.mut q ho (G.set (rp.mono s3.cu) j)))
   .cases e
 .cases e
theorem cM{k:Nat}{o h f:Pos}(G:X.N[k]?=some x)(I:uC X.env.scope x)(he:SX X c e p)(j:(h.endLine==f.line)=true:=by rfl)(hs:starEach [e] X.env=(false,eval e X.env)::starEach [] X.env:=by rfl)(l:attributeBase (.Name x o) "append" X.env (eval (.Name x o) X.env)=eval (.Name x o) X.env:=by rfl)(t:((backTo f (starEach [e] X.env)).all (λx=>!x.1)&&(backToKw f (keywordEach [] X.env)).all (λx=>x.1.isSome)&&decide ([e].length+([]:List Keyword).length+(if([]:List Keyword).isEmpty then 0 else 1)<30))=true:=by rfl)(w:swapsWith (.Call (.Attribute (.Name x o) "append" h) [e] [] f) none pos.line X.env=pure false:=by rfl)(hd:(x==("__debug__":Str))=false:=by decide)(y:(x==("__classdict__":Str))=false:=by decide):SS X c n (.Expr (.Call (.Attribute (.Name x o) "append" h) [e] [] f) pos) (.app k p):=by
 refine cW (rN (Gb plainAttrs_list PySem.F.slot_list_append PySem.F.type_list_append lq (dh G I hd y) (bC he.ev dF hs) l t j hs) w) ?_;rintro D σ H⟨F,ρ,fl,J,g,e,L⟩;rw[HH.X9]at e;obtain⟨d0,M,u,e⟩:=aa e;have O:=az u;clear u;obtain⟨u,Q⟩:=O;subst Q;obtain⟨r,z,U,e⟩:=aa e;obtain⟨a,xs,h1,W⟩:=tM g u;refine⟨.ref a,h1,.inl ⟨rfl,xs,W⟩,F,ρ,r,z,g,U,λv F1 H1 s1 Y=>?_⟩;obtain⟨Z,s2,_,rp⟩:=s1.cz Y;split at e
 . rename_i bb ds q;split at e;.rename_i B;cases e;obtain⟨ad,ys,C,q2,q3,E⟩:=s2.gs.pB k _ ds q rfl;rw[h1]at C;cases C;exact⟨_,ys,v,rfl,rfl,q2,by rw[E.length];exact B,L Z σ _ (s2.trans (s2.gs.mut q h1 (E.append (.cons rp .nil))))⟩
   .cases e
 .cases e
theorem Ej{bs:List Bool}(h:ds.mapM wW=some bs):ds=bs.map D.bl:=by induction ds generalizing bs with|nil=>simp at h;subst h;rfl|cons d ds f=>rw[List.mapM_cons]at h;cases hd:wW d with|none=>rw[hd]at h;cases h|some k=>rw[hd]at h;cases hr:ds.mapM wW with|none=>rw[hr]at h;cases h|some r=>rw[hr]at h;cases h;rw[map_cons,<-f hr,oJ hd]
theorem zF{K:PySem.W.Frag}{F:Hp}:∀{bs:List Bool}{xs:List V},au K F xs (bs.map D.bl)->xs=bs.map V.bl|[],_,h=>h.dX|k::bs,_,h=>by obtain⟨v,r,rfl,h1,f⟩:=h.bK;rw[Rep]at h1;rw[h1,zF f];rfl
theorem yo:∀{bs:List Bool}{f:List Value},Vals (bs.map V.bl) f->f=bs.map Value.bool|[],_,h=>h.zero|k::bs,_,.cons r t=>by rw[map_cons,<-yo t,show _=_ from r]
theorem JN{id:String}{f:List Bool->Bool}(hc:X.calm=true)(rule:∀{x:Value}{Q:Value->Shared->Prop}{s:Shared},wpAny (model X.prog X.w) X.A.in1 (pyIter x) (λit g=>∃ I G t n P St y,it=.ref I/\Walks X.prog X.w X.A.in1 I G t n P St/\St 0 g.heap/\TruthOf X.prog X.w X.A.in1 P y/\∀h' B,(∀b o,b∉t->g.heap.get? b=some o->h'.get? b=some o)->Q (.bool (f ((List.range n).map y))) {g with heap:=h',toks:=B}) X.xe s->wpAny (model X.prog X.w) X.A (call (.builtin id) [x]) Q X.xe s):cR X (.builtin id) (λxs H Q=>∃p ys bs,xs=[.ref p]/\dJ X.K H p ys/\ys=bs.map V.bl/\Q (.bl (f bs)) H):=by
 rintro C s σ H xs us Q I r⟨p,ys,bs,J,L,M,k⟩;subst J;subst M;obtain⟨u,rfl,N⟩:=r.one;cases N;obtain⟨O,U,l,hz⟩:=I.list L;have h:=yo U;subst h;refine rule (wpAny_pyIter_list l.isList ?_);have q:p≠s.heap.objs.size:=by obtain⟨o,h1,_⟩:=l.isList;exact ne_of_lt (lt_size h1)
 refine⟨s.heap.objs.size,_,_,_,_,_,λi=>bs.getD i false,rfl,Walks.list (prog:=X.prog) (w:=X.w) (A:=X.A.in1) (show X.A.in1.handled=none from I.ok.hd hc) s.heap.objs.size p q (bs.map Value.bool).toArray,⟨⟨_,get?_push_size _ rfl,rfl,rfl⟩,?_⟩,?_,λh' B kp=>?_⟩;.obtain⟨o,h1,E⟩:=l.isList;exact⟨o,fH h1,E⟩
 . intro i v s' Q' E' j W;have Y:v=.bool (bs.getD i false):=by
    have j:(bs.map Value.bool)[i]?=some v:=by simpa using j
    rw[getElem?_map]at j;obtain⟨k',Z,e2⟩:=map_some j;rw[<-e2,getD_eq_getElem?_getD,Z];rfl
   subst Y;exact wpAny_truthy_bool W
 . have e:f ((List.range (bs.map Value.bool).toArray.size).map λi=>bs.getD i false)=f bs:=by
    congr 1;apply ext_getElem;.simp
    .intro i h1 E;simp at h1;simp[h1]
   rw[e];exact⟨.bl _,H,I.kept (λb o z=>kp b o (by simp;exact ne_of_lt (lt_size z)) (fH z)),rfl,k⟩
theorem V5(hc:X.calm=true):cR X (.builtin "all") (Lg X.K λx=>blt .all [x]):=by rintro g s σ H xs q Q I r⟨x,t,F,d,r',sm,u,he,k⟩;obtain⟨bs,w,he⟩:=map_some (show((xO d).bind λds=>ds.mapM wW).map _=some r' from he);subst he;obtain⟨ds,j,y⟩:=bJ w;have B:=Ej y;cases d with|lst es=>cases j;obtain⟨p,ys,rfl,C,l⟩:=u.lst sm;rw[B]at l;refine JN (f:=λbs=>bs.all id) hc (λh=>call_all_walk (wpAny_mono h (λit o⟨I,fp,wr,n,P,Sx,tr,h1,h2,h3,h4,h5⟩=>⟨I,fp,wr,n,P,Sx,tr,h1,h2,h3,h4,λh' E kp=>?_⟩) λ_ _ z=>z)) g s σ H xs q Q I r ⟨p,ys,bs,t,C,zF l,bH.bZ sm (gB _) k⟩;have z:=h5 h' E kp;rw[List.all_map]at z;exact z|_=>cases j
theorem boot_all:bootBuiltins "all"=some (.builtin "all"):=by decide+kernel
theorem Ez(f:x="all")(hc:X.calm=true)(g:Gl X x)(j:X.mg x=none)(k:SX X c a pa)(hs:starEach [a] X.env=(false,eval a X.env)::starEach [] X.env:=by rfl):SX X c (.Call (.Name x p') [a] [] pos) (.blt .all [pa]):=by subst f;exact nj (λh=>dq (V5 hc) g j boot_all h (he:=hs)) k (λρ=>rfl) rfl hs
end
section
variable{K:PySem.W.Frag}
theorem iz:∀{xs ys:List D},xs.length≠ys.length->dG xs ys=false|[],[],h=>absurd rfl h|[],_::_,_=>by simp[dG]|_::_,[],_=>by simp[dG]|x::xs,y::ys,h=>by rw[dG,iz (xs:=xs) (ys:=ys) (by simpa using h),Bool.and_false]
theorem eG:∀{xs ys:List D},xs.length=ys.length->dG xs ys=(List.range xs.length).all λj=>jb (xs.getD j .non) (ys.getD j .non)|[],[],_=>by rw[dG];rfl|[],_::_,h=>by simp at h|_::_,[],h=>by simp at h|x::xs,y::ys,h=>by rw[dG,eG (xs:=xs) (ys:=ys) (by simpa using h),length_cons,List.range_succ_eq_map,all_cons,List.all_map];rfl
mutual
theorem iD:∀d:D,jb d d=true|.non=>rfl|.bl _=>by exact beq_self_eq_true _|.int _=>by exact beq_self_eq_true _|.str _=>by exact beq_self_eq_true _|.tup ds=>by exact iY ds|.lst ds=>by exact iY ds|.cH _=>by exact decide_eq_true rfl|.dv ks ds=>by show(decide (ks=ks)&&dG ds ds)=true;rw[iY ds];simp
theorem iY:∀ds:List D,dG ds ds=true|[]=>by rw[dG]|d::ds=>by rw[dG,iD d,iY ds];rfl
end
theorem dz{d e:D}(b:flat d=true)(h1:Rep K F v d)(a:Rep K F v e):d=e:=by cases d with
 |tup _=>cases b|lst _=>cases b|cH _=>cases b|dv _ _=>cases b|non=>rw[Rep]at h1;subst h1;cases e with|non=>rfl|tup _=>rw[Rep]at a;obtain⟨_,_,q,_⟩:=a;cases q|lst _=>rw[Rep]at a;obtain⟨_,_,q,_⟩:=a;cases q|cH _=>rw[Rep]at a;obtain⟨_,_,q,_⟩:=a;cases q|dv _ _=>rw[Rep]at a;obtain⟨_,_,_,q,_⟩:=a;cases q|_=>rw[Rep]at a;cases a
 |bl k=>rw[Rep]at h1;subst h1;cases e with|bl _=>rw[Rep]at a;cases a;rfl|tup _=>rw[Rep]at a;obtain⟨_,_,q,_⟩:=a;cases q|lst _=>rw[Rep]at a;obtain⟨_,_,q,_⟩:=a;cases q|cH _=>rw[Rep]at a;obtain⟨_,_,q,_⟩:=a;cases q|dv _ _=>rw[Rep]at a;obtain⟨_,_,_,q,_⟩:=a;cases q|_=>rw[Rep]at a;cases a
 |int k=>rw[Rep]at h1;subst h1;cases e with|int _=>rw[Rep]at a;cases a;rfl|tup _=>rw[Rep]at a;obtain⟨_,_,q,_⟩:=a;cases q|lst _=>rw[Rep]at a;obtain⟨_,_,q,_⟩:=a;cases q|cH _=>rw[Rep]at a;obtain⟨_,_,q,_⟩:=a;cases q|dv _ _=>rw[Rep]at a;obtain⟨_,_,_,q,_⟩:=a;cases q|_=>rw[Rep]at a;cases a
 |str k=>rw[Rep]at h1;subst h1;cases e with|str _=>rw[Rep]at a;cases a;rfl|tup _=>rw[Rep]at a;obtain⟨_,_,q,_⟩:=a;cases q|lst _=>rw[Rep]at a;obtain⟨_,_,q,_⟩:=a;cases q|cH _=>rw[Rep]at a;obtain⟨_,_,q,_⟩:=a;cases q|dv _ _=>rw[Rep]at a;obtain⟨_,_,_,q,_⟩:=a;cases q|_=>rw[Rep]at a;cases a
theorem HY{X:Cx}{u:List (Addr×Obj)}(I:L2.Inv X u σ H s)(sm:aD F H):∀n:Nat,(∀d:D,cC n d=true->∀(v:V)(e:D),Rep X.K F v d->Rep X.K F v e->d=e):=by
 have N:∀{a:Addr}{xs ys:List V},ji X.K F a xs->dJ X.K F a ys->False:=λ{a xs ys}h1 b=>by obtain⟨_,_,⟨o,g,j,_⟩,_⟩:=I.tuple (aD.gG sm h1);obtain⟨_,_,w,_⟩:=I.list (sm.seq b);obtain⟨C,c,f,_⟩:=w.isList;rw[g]at c;cases c;rw[j]at f;exact absurd f (by decide)
 have O:∀{a:Addr}{kvs:Dc},Rep X.K F (.ref a) (.cH kvs)->∃o,s.heap.get? a=some o/\o.cls=.type "dict":=λ{a kvs}h=>by rw[Rep]at h;obtain⟨y,_,q,E⟩:=h;cases q;exact DP I (sm _ _ E)
 have Q:∀{a:Addr}{xs:List V}{kvs:Dc},ji X.K F a xs->Rep X.K F (.ref a) (.cH kvs)->False:=λ{a xs kvs}h1 b=>by obtain⟨_,_,⟨o,g,j,_⟩,_⟩:=I.tuple (aD.gG sm h1);obtain⟨C,c,f⟩:=O b;rw[g]at c;cases c;rw[j]at f;exact absurd f (by decide)
 have ld:∀{a:Addr}{xs:List V}{kvs:Dc},dJ X.K F a xs->Rep X.K F (.ref a) (.cH kvs)->False:=λ{a xs kvs}h1 b=>by obtain⟨_,_,w,_⟩:=I.list (sm.seq h1);obtain⟨o,g,j,_⟩:=w.isList;obtain⟨C,c,f⟩:=O b;rw[g]at c;cases c;rw[j]at f;exact absurd f (by decide)
 have z:∀{a:Addr}{ks:List Int}{es:List D},Rep X.K F (.ref a) (.dv ks es)->∃o,s.heap.get? a=some o/\o.cls=.type "dict":=λ{a ks es}h=>by rw[Rep]at h;obtain⟨y,_,_,q,E,_⟩:=h;cases q;exact FJ I (sm _ _ E)
 have G:∀{a:Addr}{xs:List V}{ks:List Int}{es:List D},ji X.K F a xs->Rep X.K F (.ref a) (.dv ks es)->False:=λ{a xs ks es}h1 b=>by obtain⟨_,_,⟨o,g,j,_⟩,_⟩:=I.tuple (aD.gG sm h1);obtain⟨C,c,f⟩:=z b;rw[g]at c;cases c;rw[j]at f;exact absurd f (by decide)
 have J:∀{a:Addr}{xs:List V}{ks:List Int}{es:List D},dJ X.K F a xs->Rep X.K F (.ref a) (.dv ks es)->False:=λ{a xs ks es}h1 b=>by obtain⟨_,_,w,_⟩:=I.list (sm.seq h1);obtain⟨o,g,j,_⟩:=w.isList;obtain⟨C,c,f⟩:=z b;rw[g]at c;cases c;rw[j]at f;exact absurd f (by decide)
 intro n;induction n with
 |zero=>intro d hd v e h1 b;cases d with|tup _=>simp[cC]at hd|lst _=>simp[cC]at hd|cH _=>simp[cC]at hd|dv _ _=>simp[cC]at hd|non=>exact dz rfl h1 b|bl k=>exact dz rfl h1 b|int k=>exact dz rfl h1 b|str k=>exact dz rfl h1 b
 |succ n U=>
   have all:∀{xs:List V}{ds es:List D},ds.all (cC n)=true->au X.K F xs ds->au X.K F xs es->ds=es:=λ{xs ds}=>by induction ds generalizing xs with|nil=>intro es _ h1 b;rw[h1.dX]at b;have:=b.length;exact(List.eq_nil_of_length_eq_zero this.symm).symm|cons d ds L=>intro es p h1 b;rw[all_cons,and_eq_true]at p;obtain⟨v,r,rfl,g,j⟩:=h1.bK;cases es with|nil=>cases b.dX|cons e es=>obtain⟨Y,r',W,c,f⟩:=b.bK;cases W;rw[U d p.1 v e g c,L p.2 j f]
   intro d hd v e h1 b;cases d with
   |cH _=>simp[cC]at hd|dv _ _=>simp[cC]at hd|tup ds=>
     have p:ds.all (cC n)=true:=by simpa[cC]using hd
     rw[Rep]at h1;obtain⟨a,xs,rfl,l,M⟩:=h1;cases e with|tup es=>rw[Rep]at b;obtain⟨y,ys,q,t,B⟩:=b;cases q;have:=I.qQ (aD.gG sm l) (aD.gG sm t);subst this;rw[all p M B]|lst es=>rw[Rep]at b;obtain⟨y,ys,q,t,B⟩:=b;cases q;exact(N l t).elim|cH _=>exact(Q l b).elim|dv _ _=>exact(G l b).elim|_=>rw[Rep]at b;cases b
   |lst ds=>
     have p:ds.all (cC n)=true:=by simpa[cC]using hd
     rw[Rep]at h1;obtain⟨a,xs,rfl,l,M⟩:=h1;cases e with|lst es=>rw[Rep]at b;obtain⟨y,ys,q,t,B⟩:=b;cases q;have:=I.vq (sm.seq l) (sm.seq t);subst this;rw[all p M B]|tup es=>rw[Rep]at b;obtain⟨y,ys,q,t,B⟩:=b;cases q;exact(N t l).elim|cH _=>exact(ld l b).elim|dv _ _=>exact(J l b).elim|_=>rw[Rep]at b;cases b
   |non=>exact dz rfl h1 b|bl k=>exact dz rfl h1 b|int k=>exact dz rfl h1 b|str k=>exact dz rfl h1 b
theorem zN{d e:D}{u:V}{c:Value}(hd:flat d=true)(he:flat e=true)(h1:Rep K F v d)(a:Rep K F u e)(r1:RelV v c)(b:RelV u u'):SeqAt.EqAt A s c u' (jb d e):=by cases d with
 |tup _=>cases hd|lst _=>cases hd|cH _=>cases hd|dv _ _=>cases hd|non=>rw[Rep]at h1;subst h1;cases(show c=.none from r1);cases e with|tup _=>cases he|lst _=>cases he|cH _=>cases he|dv _ _=>cases he|non=>rw[Rep]at a;subst a;cases(show u'=.none from b);exact SeqAt.EqAt.same _|bl _=>rw[Rep]at a;subst a;cases(show u'=.bool _ from b);exact SeqAt.EqAt.none_bool _|int _=>rw[Rep]at a;subst a;obtain⟨t,rfl⟩:=b;exact SeqAt.EqAt.none_int _ _|str _=>rw[Rep]at a;subst a;obtain⟨t,rfl⟩:=b;exact SeqAt.EqAt.none_str _ _
 |bl _=>rw[Rep]at h1;subst h1;cases(show c=.bool _ from r1);cases e with|tup _=>cases he|lst _=>cases he|cH _=>cases he|dv _ _=>cases he|non=>rw[Rep]at a;subst a;cases(show u'=.none from b);exact SeqAt.EqAt.bool_none _|bl _=>rw[Rep]at a;subst a;cases(show u'=.bool _ from b);exact SeqAt.EqAt.bool_bool _ _|int _=>rw[Rep]at a;subst a;obtain⟨t,rfl⟩:=b;exact SeqAt.EqAt.bool_int _ _ _|str _=>rw[Rep]at a;subst a;obtain⟨t,rfl⟩:=b;exact SeqAt.EqAt.bool_str _ _ _
 |int _=>rw[Rep]at h1;subst h1;obtain⟨t0,rfl⟩:=r1;cases e with|tup _=>cases he|lst _=>cases he|cH _=>cases he|dv _ _=>cases he|non=>rw[Rep]at a;subst a;cases(show u'=.none from b);exact SeqAt.EqAt.int_none _ _|bl _=>rw[Rep]at a;subst a;cases(show u'=.bool _ from b);exact SeqAt.EqAt.int_bool _ _ _|int _=>rw[Rep]at a;subst a;obtain⟨t,rfl⟩:=b;exact SeqAt.EqAt.int_int _ _ _ _|str _=>rw[Rep]at a;subst a;obtain⟨t,rfl⟩:=b;exact int_str _ _ _ _
 |str _=>rw[Rep]at h1;subst h1;obtain⟨t0,rfl⟩:=r1;cases e with|tup _=>cases he|lst _=>cases he|cH _=>cases he|dv _ _=>cases he|non=>rw[Rep]at a;subst a;cases(show u'=.none from b);exact SeqAt.EqAt.str_none _ _|bl _=>rw[Rep]at a;subst a;cases(show u'=.bool _ from b);exact SeqAt.EqAt.str_bool _ _ _|int _=>rw[Rep]at a;subst a;obtain⟨t,rfl⟩:=b;exact str_int _ _ _ _|str _=>rw[Rep]at a;subst a;obtain⟨t,rfl⟩:=b;exact SeqAt.EqAt.str_str _ _ _ _
theorem kE{e:D}{u:V}{a:Addr}{g:Array Value}(ht:s.heap.IsTuple a g)(b:A.units<cLine)(he:flat e=true)(c:Rep K F u e)(f:RelV u u'):SeqAt.EqAt A s (.ref a) u' (jb (.tup ds) e)/\SeqAt.EqAt A s u' (.ref a) (jb e (.tup ds)):=by cases e with|tup _=>cases he|lst _=>cases he|cH _=>cases he|dv _ _=>cases he|non=>rw[Rep]at c;subst c;cases(show u'=.none from f);exact⟨SeqAt.EqAt.tuple_none ht b,SeqAt.EqAt.none_tuple ht b⟩|bl _=>rw[Rep]at c;subst c;cases(show u'=.bool _ from f);exact⟨SeqAt.EqAt.tuple_bool _ ht b,SeqAt.EqAt.bool_tuple _ ht b⟩|int _=>rw[Rep]at c;subst c;obtain⟨t,rfl⟩:=f;exact⟨SeqAt.EqAt.tuple_int _ _ ht b,SeqAt.EqAt.int_tuple _ _ ht b⟩|str _=>rw[Rep]at c;subst c;obtain⟨t,rfl⟩:=f;exact⟨SeqAt.EqAt.tuple_str _ _ ht b,SeqAt.EqAt.str_tuple _ _ ht b⟩
theorem kh{e:D}{u:V}{a:Addr}{g:Array Value}(ht:s.heap.IsList a g)(b:A.units<cLine)(he:flat e=true)(c:Rep K F u e)(f:RelV u u'):SeqAt.EqAt A s (.ref a) u' (jb (.lst ds) e)/\SeqAt.EqAt A s u' (.ref a) (jb e (.lst ds)):=by cases e with|tup _=>cases he|lst _=>cases he|cH _=>cases he|dv _ _=>cases he|non=>rw[Rep]at c;subst c;cases(show u'=.none from f);exact⟨SeqAt.EqAt.list_none ht b,SeqAt.EqAt.none_list ht b⟩|bl _=>rw[Rep]at c;subst c;cases(show u'=.bool _ from f);exact⟨SeqAt.EqAt.list_bool _ ht b,SeqAt.EqAt.bool_list _ ht b⟩|int _=>rw[Rep]at c;subst c;obtain⟨t,rfl⟩:=f;exact⟨SeqAt.EqAt.list_int _ _ ht b,SeqAt.EqAt.int_list _ _ ht b⟩|str _=>rw[Rep]at c;subst c;obtain⟨t,rfl⟩:=f;exact⟨SeqAt.EqAt.list_str _ _ ht b,SeqAt.EqAt.str_list _ _ ht b⟩
theorem uz{n:Nat}{d:D}(h:cC n d=true)(h0:n=0):flat d=true:=by subst h0;cases d<;>first|rfl|simp[cC]at h
theorem Zd{X:Cx}{L:List (Addr×Obj)}(I:L2.Inv X L σ H s)(sm:aD F H):∀(n:Nat)(A:Around),A.units+n<cLine->∀(d e:D),cC n d=true->cC n e=true->∀(v u:V)(M u':Value),Rep X.K F v d->Rep X.K F u e->RelV v M->RelV u u'->SeqAt.EqAt A s M u' (jb d e):=by intro n;induction n with|zero=>intro A hu d e hd he v u M u' h1 f r1 g;exact zN (uz hd rfl) (uz he rfl) h1 f r1 g|succ n ih=>
   intro A hu d e hd he v u M u' h1 f r1 g;have c:A.units<cLine:=by omega
   have Q:A.in1.units+n<cLine:=by show A.units+1+n<cLine;omega--items by place
   have N:∀{xs ys:List V}{t ws:List Value}{ds es:List D}{j:Nat}(E:j<t.toArray.size)(G:j<ws.toArray.size),ds.all (cC n)=true->es.all (cC n)=true->Vals xs t->Vals ys ws->au X.K F xs ds->au X.K F ys es->SeqAt.EqAt A.in1 s t.toArray[j] ws.toArray[j] (jb (ds.getD j .non) (es.getD j .non)):=λ{xs ys t ws ds es j}E G a1 a2 J l h k=>by
    have E:j<t.length:=by simpa using E
    have G:j<ws.length:=by simpa using G
    have w:j<ds.length:=by rw[<-h.length,J.length];exact E
    have l2:j<es.length:=by rw[<-k.length,l.length];exact G
    obtain⟨x,g1,g2⟩:=h.get (show ds[j]?=some ds[j]by simp[w]);obtain⟨y,g3,g4⟩:=k.get (show es[j]?=some es[j]by simp[l2]);obtain⟨Z,g5,g6⟩:=J.get g1;obtain⟨y',g7,g8⟩:=l.get g3;have e1:t.toArray[j]=Z:=by have:=(dj g5).2;simpa using this
    have e2:ws.toArray[j]=y':=by have:=(dj g7).2;simpa using this
    have e3:ds.getD j .non=ds[j]:=by simp[List.getD,w]
    have e4:es.getD j .non=es[j]:=by simp[List.getD,l2]
    rw[e1,e2,e3,e4];exact ih A.in1 Q _ _ (all_eq_true.mp a1 _ (getElem_mem w)) (all_eq_true.mp a2 _ (getElem_mem l2)) x y Z y' g2 g4 g6 g8--the same object
   have same:∀{a:Addr},v=.ref a->u=.ref a->SeqAt.EqAt A s M u' (jb d e):=λ{a}q1 q2=>by subst q1;subst q2;have:=HY I sm (n+1) d hd _ e h1 f;subst this;rw[iD];cases r1;cases g;exact SeqAt.EqAt.same _
   cases d with
   |cH _=>simp[cC]at hd|dv _ _=>simp[cC]at hd|tup ds=>
     have U:ds.all (cC n)=true:=by simpa[cC]using hd
     have o:=h1;rw[Rep]at o;obtain⟨a,xs,rfl,W,O⟩:=o;cases r1;obtain⟨t,J,h,_⟩:=I.tuple (aD.gG sm W)
     cases e with|cH _=>simp[cC]at he|dv _ _=>simp[cC]at he|tup es=>
       have Y:es.all (cC n)=true:=by simpa[cC]using he
       have p:=f;rw[Rep]at p;obtain⟨b,ys,rfl,q,B⟩:=p;by_cases r:a=b;.subst r;exact same rfl rfl
       . cases g;obtain⟨ws,l,k,_⟩:=I.tuple (aD.gG sm q);refine .of_refs r ?_;have z:=SeqAt.RcAt.tuples (A:=A) (e:=λj=>jb (ds.getD j .non) (es.getD j .non)) h k c λj E G=>N E G U Y J l O B;have w:t.toArray.size=ds.length:=by rw[size_toArray,<-J.length,O.length]
         have l2:ws.toArray.size=es.length:=by rw[size_toArray,<-l.length,B.length]
         rw[w,l2]at z;have e0:jb (.tup ds) (.tup es)=((List.range (min ds.length es.length)).all (λj=>jb (ds.getD j .non) (es.getD j .non))&&ds.length==es.length):=by
          rw[pqt];by_cases C:ds.length=es.length;.rw[eG C,C];simp
          . rw[iz C];have:(ds.length==es.length)=false:=by simpa using C
            rw[this,Bool.and_false]
         rw[e0];exact z|lst es=>rw[Rep]at f;obtain⟨b,ys,rfl,q,B⟩:=f;cases g;obtain⟨ws,l,k,_⟩:=I.list (sm.seq q);exact SeqAt.EqAt.tuple_list h k.isList c|non=>exact(kE h c rfl f g).1|bl _=>exact(kE h c rfl f g).1|int _=>exact(kE h c rfl f g).1|str _=>exact(kE h c rfl f g).1
   |lst ds=>
     have U:ds.all (cC n)=true:=by simpa[cC]using hd
     have o:=h1;rw[Rep]at o
     obtain⟨a,xs,rfl,W,O⟩:=o;cases r1;obtain⟨t,J,h,_⟩:=I.list (sm.seq W);cases e with|cH _=>simp[cC]at he|dv _ _=>simp[cC]at he|lst es=>
       have Y:es.all (cC n)=true:=by simpa[cC]using he
       have p:=f;rw[Rep]at p;obtain⟨b,ys,rfl,q,B⟩:=p;by_cases r:a=b;.subst r;exact same rfl rfl
       . cases g;obtain⟨ws,l,k,_⟩:=I.list (sm.seq q);refine .of_refs r ?_;have w:t.toArray.size=ds.length:=by rw[size_toArray,<-J.length,O.length]
         have l2:ws.toArray.size=es.length:=by rw[size_toArray,<-l.length,B.length]
         rw[Yh];by_cases C:ds.length=es.length;.have z:=SeqAt.RcAt.lists (A:=A) (e:=λj=>jb (ds.getD j .non) (es.getD j .non)) h.isList k.isList (by rw[w,l2,C]) c λj E G=>N E G U Y J l O B;rw[w]at z;rw[eG C];exact z
         .rw[iz C];exact lists_lengths h.isList k.isList (by rw[w,l2];simpa using C) c|tup es=>rw[Rep]at f;obtain⟨b,ys,rfl,q,B⟩:=f;cases g;obtain⟨ws,l,k,_⟩:=I.tuple (aD.gG sm q);exact SeqAt.EqAt.list_tuple h.isList k c|non=>exact(kh h.isList c rfl f g).1|bl _=>exact(kh h.isList c rfl f g).1|int _=>exact(kh h.isList c rfl f g).1|str _=>exact(kh h.isList c rfl f g).1
   |non|bl _|int _|str _=>cases e with|cH _=>simp[cC]at he|dv _ _=>simp[cC]at he|tup es=>rw[Rep]at f;obtain⟨b,ys,rfl,q,B⟩:=f;cases g;obtain⟨ws,l,k,_⟩:=I.tuple (aD.gG sm q);exact(kE k c rfl h1 r1).2|lst es=>rw[Rep]at f;obtain⟨b,ys,rfl,q,B⟩:=f;cases g;obtain⟨ws,l,k,_⟩:=I.list (sm.seq q);exact(kh k.isList c rfl h1 r1).2|_=>exact zN rfl rfl h1 f r1 g
end
section
variable{X:Cx}{pins:List (Addr×Obj)}{σ:L2.St}{H F:Hp}{s:Shared}{A:Around}
abbrev RC(A:Around)(s:Shared)(v u:Value)(k:Bool):Prop:=SeqAt.RcAt A s v u k/\SeqAt.RcNeAt A s v u (!k)
inductive Top(X:Cx)(F H:Hp)(s:Shared):Value->D->Prop where|non:Top X F H s .none .non|bl(b:Bool):Top X F H s (.bool b) (.bl b)|int(i:Int)(t:Tok):Top X F H s (.int i t) (.int i)|str(x:Str)(t:Tok):Top X F H s (.str x t) (.str x)|tup{a:Addr}{us:List Value}{xs:List V}{ds:List D}(ht:s.heap.IsTuple a us.toArray)(hv:Vals xs us)(hr:au X.K F xs ds):Top X F H s (.ref a) (.tup ds)|lst{a:Addr}{us:List Value}{xs:List V}{ds:List D}(ht:s.heap.IsList a us.toArray)(hv:Vals xs us)(hr:au X.K F xs ds):Top X F H s (.ref a) (.lst ds)
theorem CW(I:L2.Inv X pins σ H s)(sm:aD F H){g:Value}{d:D}(hd:cC 8 d=true)(h:cP X.K F H v d)(r:RelV v g):Top X F H s g d:=by cases d with|cH _=>simp[cC]at hd|dv _ _=>simp[cC]at hd|non=>rw[h.non]at r;cases r;exact .non|bl b=>rw[h.bl]at r;cases r;exact .bl b|int i=>rw[h.int]at r;obtain⟨t,rfl⟩:=r;exact .int i t|str x=>rw[h.str]at r;obtain⟨t,rfl⟩:=r;exact .str x t|tup ds=>obtain⟨a,xs,rfl,h1,c,_⟩:=h.tup sm;cases r;obtain⟨j,e,f,_⟩:=I.tuple h1;exact .tup f e c|lst ds=>obtain⟨a,xs,rfl,h1,c⟩:=h.lst sm;cases r;obtain⟨j,e,f,_⟩:=I.list h1;exact .lst f.isList e c
theorem aax(I:L2.Inv X pins σ H s)(sm:aD F H){n:Nat}(hu:A.units+(n+1)<cLine){d e:D}(hd:cC (n+1) d=true)(he:cC (n+1) e=true){J:Value}(h1:Top X F H s J d)(w:Top X F H s u' e):RC A s J u' (jb d e):=by
 have c:A.units<cLine:=by omega
 have G:A.in1.units+n<cLine:=by show A.units+1+n<cLine;omega
 have r:∀{xs ys:List V}{q ws:List Value}{ds es:List D}{j:Nat}(k:j<q.toArray.size)(l:j<ws.toArray.size),ds.all (cC n)=true->es.all (cC n)=true->Vals xs q->Vals ys ws->au X.K F xs ds->au X.K F ys es->SeqAt.EqAt A.in1 s q.toArray[j] ws.toArray[j] (jb (ds.getD j .non) (es.getD j .non)):=λ{xs ys q ws ds es j}k l W Y L M N O=>by
  have k:j<q.length:=by simpa using k
  have l:j<ws.length:=by simpa using l
  have o:j<ds.length:=by rw[<-N.length,L.length];exact k
  have l2:j<es.length:=by rw[<-O.length,M.length];exact l
  obtain⟨x,Z,g2⟩:=N.get (show ds[j]?=some ds[j]by simp[o]);obtain⟨y,g3,g4⟩:=O.get (show es[j]?=some es[j]by simp[l2]);obtain⟨Q,g5,g6⟩:=L.get Z;obtain⟨U,g7,g8⟩:=M.get g3;have e1:q.toArray[j]=Q:=by have:=(dj g5).2;simpa using this
  have e2:ws.toArray[j]=U:=by have:=(dj g7).2;simpa using this
  have e3:ds.getD j .non=ds[j]:=by simp[List.getD,o]
  have e4:es.getD j .non=es[j]:=by simp[List.getD,l2]
  rw[e1,e2,e3,e4];exact Zd I sm n A.in1 G _ _ (all_eq_true.mp W _ (getElem_mem o)) (all_eq_true.mp Y _ (getElem_mem l2)) x y Q U g2 g4 g6 g8
 cases h1 with
 |non=>cases w with|non=>exact⟨SeqAt.RcAt.none_none,SeqAt.RcNeAt.none_none⟩|bl b=>exact⟨SeqAt.RcAt.none_bool _,SeqAt.RcNeAt.none_bool _⟩|int i t=>exact⟨SeqAt.RcAt.none_int _ _,none_int _ _⟩|str i t=>exact⟨SeqAt.RcAt.none_str _ _,none_str _ _⟩|tup ht _ _=>exact⟨SeqAt.RcAt.none_tuple ht c,SeqAt.RcNeAt.none_tuple ht c⟩|lst ht _ _=>exact⟨SeqAt.RcAt.none_list ht c,SeqAt.RcNeAt.none_list ht c⟩
 |bl b0=>cases w with|non=>exact⟨SeqAt.RcAt.bool_none _,SeqAt.RcNeAt.bool_none _⟩|bl b=>exact⟨SeqAt.RcAt.bool_bool _ _,SeqAt.RcNeAt.bool_bool _ _⟩|int i t=>exact⟨SeqAt.RcAt.bool_int _ _ _,bool_int _ _ _⟩|str i t=>exact⟨SeqAt.RcAt.bool_str _ _ _,bool_str _ _ _⟩|tup ht _ _=>exact⟨SeqAt.RcAt.bool_tuple _ ht c,SeqAt.RcNeAt.bool_tuple _ ht c⟩|lst ht _ _=>exact⟨SeqAt.RcAt.bool_list _ ht c,SeqAt.RcNeAt.bool_list _ ht c⟩
 |int i0 t0=>cases w with|non=>exact⟨SeqAt.RcAt.int_none _ _,int_none _ _⟩|bl b=>exact⟨SeqAt.RcAt.int_bool _ _ _,int_bool _ _ _⟩|int i t=>exact⟨SeqAt.RcAt.int_int _ _ _ _,int_int _ _ _ _⟩|str i t=>exact⟨SeqAt.RcAt.int_str _ _ _ _,SeqAt.RcNeAt.int_str _ _ _ _⟩|tup ht _ _=>exact⟨SeqAt.RcAt.int_tuple _ _ ht c,SeqAt.RcNeAt.int_tuple _ _ ht c⟩|lst ht _ _=>exact⟨SeqAt.RcAt.int_list _ _ ht c,int_list _ _ ht c⟩
 |str i0 t0=>cases w with|non=>exact⟨SeqAt.RcAt.str_none _ _,str_none _ _⟩|bl b=>exact⟨SeqAt.RcAt.str_bool _ _ _,str_bool _ _ _⟩|int i t=>exact⟨SeqAt.RcAt.str_int _ _ _ _,SeqAt.RcNeAt.str_int _ _ _ _⟩|str i t=>exact⟨SeqAt.RcAt.str_str _ _ _ _,str_str _ _ _ _⟩|tup ht _ _=>exact⟨SeqAt.RcAt.str_tuple _ _ ht c,SeqAt.RcNeAt.str_tuple _ _ ht c⟩|lst ht _ _=>exact⟨SeqAt.RcAt.str_list _ _ ht c,str_list _ _ ht c⟩
 |@tup a q xs ds ht u hr=>
   have z:ds.all (cC n)=true:=by simpa[cC]using hd
   cases w with|non=>exact⟨SeqAt.RcAt.tuple_none ht c,SeqAt.RcNeAt.tuple_none ht c⟩|bl b=>exact⟨SeqAt.RcAt.tuple_bool _ ht c,SeqAt.RcNeAt.tuple_bool _ ht c⟩|int i t=>exact⟨SeqAt.RcAt.tuple_int _ _ ht c,SeqAt.RcNeAt.tuple_int _ _ ht c⟩|str i t=>exact⟨SeqAt.RcAt.tuple_str _ _ ht c,SeqAt.RcNeAt.tuple_str _ _ ht c⟩|lst h _ _=>exact⟨SeqAt.RcAt.tuple_list ht h c,SeqAt.RcNeAt.tuple_list ht h c⟩|@tup b ws ys es h f g=>
     have B:es.all (cC n)=true:=by simpa[cC]using he
     have o:q.toArray.size=ds.length:=by rw[size_toArray,<-u.length,hr.length]
     have l2:ws.toArray.size=es.length:=by rw[size_toArray,<-f.length,g.length]
     have C:=SeqAt.RcAt.tuples (A:=A) (e:=λj=>jb (ds.getD j .non) (es.getD j .non)) ht h c λj k l=>r k l z B u f hr g;have E:=SeqAt.RcNeAt.tuples (A:=A) (e:=λj=>jb (ds.getD j .non) (es.getD j .non)) ht h c λj k l=>r k l z B u f hr g;rw[o,l2]at C E;have e0:jb (.tup ds) (.tup es)=((List.range (min ds.length es.length)).all (λj=>jb (ds.getD j .non) (es.getD j .non))&&ds.length==es.length):=by
      rw[pqt];by_cases p:ds.length=es.length;.rw[eG p,p];simp
      . rw[iz p];have:(ds.length==es.length)=false:=by simpa using p
        rw[this,Bool.and_false]
     rw[e0];exact⟨C,E⟩
 |@lst a q xs ds ht u hr=>
   have z:ds.all (cC n)=true:=by simpa[cC]using hd
   cases w with|non=>exact⟨SeqAt.RcAt.list_none ht c,SeqAt.RcNeAt.list_none ht c⟩|bl b=>exact⟨SeqAt.RcAt.list_bool _ ht c,SeqAt.RcNeAt.list_bool _ ht c⟩|int i t=>exact⟨SeqAt.RcAt.list_int _ _ ht c,list_int _ _ ht c⟩|str i t=>exact⟨SeqAt.RcAt.list_str _ _ ht c,list_str _ _ ht c⟩|tup h _ _=>exact⟨SeqAt.RcAt.list_tuple ht h c,SeqAt.RcNeAt.list_tuple ht h c⟩|@lst b ws ys es h f g=>
     have B:es.all (cC n)=true:=by simpa[cC]using he
     have o:q.toArray.size=ds.length:=by rw[size_toArray,<-u.length,hr.length]
     have l2:ws.toArray.size=es.length:=by rw[size_toArray,<-f.length,g.length]
     rw[Yh];by_cases p:ds.length=es.length;.have C:=SeqAt.RcAt.lists (A:=A) (e:=λj=>jb (ds.getD j .non) (es.getD j .non)) ht h (by rw[o,l2,p]) c λj k l=>r k l z B u f hr g;have E:=SeqAt.RcNeAt.lists (A:=A) (e:=λj=>jb (ds.getD j .non) (es.getD j .non)) ht h (by rw[o,l2,p]) c λj k l=>r k l z B u f hr g;rw[o]at C E;rw[eG p];exact⟨C,E⟩
     .rw[iz p];exact⟨lists_lengths ht h (by rw[o,l2];simpa using p) c,SeqAt.RcNeAt.lists_lengths ht h (by rw[o,l2];simpa using p) c⟩
theorem Nb(b:X.A.units+8<cLine):gD X (compareOp .NotEq) (rD X.K (Bf .ne)):=by rintro pins s σ H x y v u Q I c f⟨F,d,e,r,sm,g,h,he,k⟩;obtain⟨t,a,j⟩:=map_some (show(xM d e).map _=some r from he);subst j;unfold xM at a;obtain⟨hd,a⟩:=aW a;rw[and_eq_true]at hd;subst a;exact(aax I sm (n:=7) b hd.1 hd.2 (CW I sm hd.1 g c) (CW I sm hd.2 h f)).2 _ _ _ _ ⟨.bl _,H,I,rfl,bH.bZ sm (gB _) k⟩
end
section
variable{Pg:Program}{w:World}{K:PySem.W.Frag}{mg:Str->Option Value}{base:Heap}
theorem T6{qual:Str}{st:Stmt}{f:Addr}{fd:FuncData}{N ps:List Str}{k n:Nat}{c:Call}{d:Fd}(C:lV K x qual st f fd)(S:aU N ps (aC st))(h1:d.np=ps.length)(t:d.nn=N.length)(G:∀(cdv:Value)(A:Around)(outer:List Env)(s:Shared)(H:Hp)(E:XK),gU k (A.deeper (envOfC qual (aC st) s.heap.objs.size f cdv))->SB (wO Gm Pg w K mg base N qual (aC st) f cdv A outer s H E).Ux c n (dM st) d.body):lg Pg w K mg base Gm (k+1) f fd ps (Il K ps.length (λargs=>enter c n d args)):=by
 refine C.ok S (λvs H Q E h=>h.1) λcdv A outer s H vs Q E hr h=>?_;obtain⟨u,F,args,r,o,g,e,q⟩:=h;refine⟨_,G cdv A outer s H E hr,?_⟩;replace e:enter c n d args=.ok r o:=e;unfold enter at e;split at e
 . rename_i hc;obtain⟨c1,c2⟩:=hc;have I:=g.more (n:=d.nn-d.np) (τ:=replicate (N.length-vs.length) none) (by simp[h1,t,u]);have p:args.length=d.np:=c1;have go:∀{fl:Fl}{a:List Sl},fU c n d.body (args++replicate (d.nn-d.np) .aP)=.ok fl a->(∀l b j,aq K F (args++replicate (d.nn-d.np) .aP) (start N vs) H l a b j->(match fl with|.next=>Q .non j|.brk=>False|.cont=>False|.ret r=>∀v,bL K l a b j (args++replicate (d.nn-d.np) .aP) (start N vs) H v r->Q v j))->Yc K (fU c n d.body) {nx:=λ_ j=>Q .non j,rt:=Q} (start N vs) H:=λ{fl a}z k=>⟨F,_,fl,a,I,z,λl b j s=>by have:=k l b j s;cases fl<;>exact this⟩;split at e;.rename_i a z;cases e;refine go z λl b j s=>?_;obtain⟨y,B⟩:=aq.less (m:=d.np) p.symm g (by simp[h1,t,u]) s;exact q .non l _ j y (show Rep K l _ _ from Oi)
   .rename_i r' a z;cases e;refine go z λl b j s v J=>?_;obtain⟨y,B⟩:=aq.less (m:=d.np) p.symm g (by simp[h1,t,u]) s;exact q v l _ j y (B v r J)
   .split at e<;>cases e
 .cases e
structure bj(Pg:Program)(w:World)(K:PySem.W.Frag)(mg:Str->Option Value)(base:Heap)(k:Nat)(c:Call)(i:Nat)(x:Str)(np:Nat):Prop where ex:∃fa fd qs,lg Pg w K mg base Gm k fa fd qs (Il K qs.length (c i))/\mg x=some (.ref fa)/\keepIn K (.ref fa)=true/\Binds K fd qs []/\qs.length=np
end
section
variable{X:Cx}{c:Call}{n k:Nat}{e a b:Expr}{es:List Expr}{p pa pb:P}{ps:List P}{pos:Pos}
theorem sv(i:Nat)(g:X.N[i]?=some x:=by rfl)(h:uC X.env.scope x:=by first|exact Or.inl rfl|exact Or.inr (Or.inl rfl)|exact Or.inr (Or.inr rfl))(hd:(x==("__debug__":Str))=false:=by rfl)(f:(x==("__classdict__":Str))=false:=by rfl):SX X c (.Name x pos) (.var i):=Nh g h hd f
theorem gQ{np:Nat}(C:bj X.prog X.w X.K X.mg X.base k c i x np)(hr:gU k X.A)(h:SG X c (e::es) ps)(j:Gl X x:=by rfl)(l:(e::es).length=np:=by rfl)(f:(x==("__debug__":Str))=false:=by rfl)(he:starEach (e::es) X.env=(false,eval e X.env)::starEach es X.env:=by rfl)(hpl:(backTo pos (starEach es X.env)).any (·.1)=false:=by rfl)(g:ps.length=(e::es).length:=by rfl):SX X c (.Call (.Name x p') (e::es) [] pos) (.call i ps):=by obtain⟨u,fd,y,h1,o,q,r,t⟩:=C.ex;exact Ie h1 hr j o q r h (l.trans t.symm) f he hpl g
noncomputable def KQ(names outer:List (Str×NameKind))(N N':List Str)(n:Nat):Bool:=(names.all λy=>names.lookup y.1==some y.2)&&(names.all λy=>y.2!=.local||names.lookup y.1==some .local)&&(names.all λy=>y.2!=.free||outer.lookup y.1==some .cell||outer.lookup y.1==some .free)&&N'.length==N.length+n&&((N.zip N').all λp=>(p.1==p.2&&names.lookup p.2==some .free)||(names.lookup p.2!=some .local&&names.lookup p.2!=some .cell&&names.lookup p.2!=some .free))
theorem Vh{scope:Scope}{N':List Str}(g:scope.kind=.function)(h:KQ scope.names X.env.scope.names X.N N' n=true):dR X scope N' n:=by
 unfold KQ at h;simp only[and_eq_true]at h;obtain⟨⟨⟨⟨h1,j⟩,l⟩,o⟩,q⟩:=h;refine⟨g,λy f=>eq_of_beq (all_eq_true.mp h1 y f),λy f e=>?_,λy f e=>?_,by simpa using o,q⟩;.have:=all_eq_true.mp j y f;rw[e]at this;simpa using this
 . have:=all_eq_true.mp l y f;rw[e]at this;simp only[or_eq_true]at this;rcases this with(z|z)|z;.cases z
   .exact .inl (eq_of_beq z)
   .exact .inr (eq_of_beq z)
theorem cj(h:gU k A):A.units+8<cLine:=by have:=h.un;omega
end
end HH
end
section
namespace L2
open PySem PySem.Spec PyProof.Rows
end L2
namespace HH
open PySem L2 PySem.Spec PyProof.Rows
structure cI(K:PySem.W.Frag)(x:Str)(st:Stmt):Prop where ex:∃f fd,PySem.W.nsIn K mainGlobals x=some (some (.ref f))/\lV K x x st f fd
section
variable{Pg:Program}{w:World}{K:PySem.W.Frag}{mg:Str->Option Value}{base h:Heap}
theorem Pa{x:Str}{st:Stmt}{f:Addr}{oc:Value}{g i:Option Addr}{b:Array (Option Value)}{kV e j cdv ct:Value}(a:PySem.W.nsIn K mainGlobals x=some (some (.ref f)))(l:K.lookup f=some ⟨oc,g,.func (PySem.W.fnOf x x (gk st) (dM st) (aC st) .none kV e j i cdv ct),b⟩)(c:PySem.W.codeIn K cdv x=true)(k:keepIn K (.ref f)=true):cI K x st:=⟨_,_,a,Ql l c k⟩
theorem dg{Γ:Tab}{wl i np:Nat}{x:Str}{st:Stmt}{ps:List Str}(X:K.In h)(G:h.Ns mainGlobals mg)(D:cI K x st)(j:ps.length=np)(k:∀(kV g l:Value)(m:Option Addr)(cdv ct:Value)(c:List Value),c.length=ps.length->bindArgs (PySem.W.fnOf x x (gk st) (dM st) (aC st) .none kV g l m cdv ct) ⟨c,[]⟩=pure (ps.zip c)):bj Pg w K mg base 0 (run Γ wl 0) i x np:=by obtain⟨f,fd,a,F⟩:=D.ex;exact⟨f,fd,ps,⟨λvs H Q E s=>s.1,λA outer s H args c vs Q E hr e b v sp=>by obtain⟨_,F,as,r,n,_,z,_⟩:=sp;cases z⟩,mg_of X G a,F.kp,F.binds k,j⟩
theorem cX{Γ:Tab}{wl n i np:Nat}{x:Str}{st:Stmt}{ps:List Str}{d:Fd}(X:K.In h)(G:h.Ns mainGlobals mg)(D:cI K x st)(j:ps.length=np)(b:Γ i=some d)(k:∀(kV c l:Value)(m:Option Addr)(cdv ct:Value)(g:List Value),g.length=ps.length->bindArgs (PySem.W.fnOf x x (gk st) (dM st) (aC st) .none kV c l m cdv ct) ⟨g,[]⟩=pure (ps.zip g))(ok:∀f fd,lV K x x st f fd->lg Pg w K mg base Gm (n+1) f fd ps (Il K np (λargs=>enter (run Γ wl n) wl d args))):bj Pg w K mg base (n+1) (run Γ wl (n+1)) i x np:=by
 obtain⟨f,fd,a,F⟩:=D.ex;refine⟨f,fd,ps,?_,mg_of X G a,F.kp,F.binds k,j⟩;have e:run Γ wl (n+1) i=λargs=>enter (run Γ wl n) wl d args:=by funext args;show(match Γ i with|some d=>enter (run Γ wl n) wl d args|none=>.stuck)=_;rw[b]
 rw[e,j];exact ok f fd F
theorem qD{F:Hp}:∀ns:List Int,au K F (ns.map V.int) (ns.map D.int)|[]=>.nil|n::ns=>.cons (bA n) (qD ns)
theorem Ab{H:Hp}{a:Addr}{ns:List Int}{g:List Sl->Res R}{as:List Sl}(l:dJ K H a (ns.map V.int))(hr:g [.val false (.lst (ns.map D.int))]=.ok (.val (.bl true)) as):Il K 1 g [.ref a] H (λv _=>v=.bl true) λ_ _ _=>False:=by
 refine⟨rfl,H,_,_,as,⟨.refl _,rfl,λi b d e=>?_,λi s m e k=>?_,λi j c h=>?_⟩,hr,λv n o p s f=>?_⟩;.match i,e with|0,e=>cases e;refine⟨.ref a,rfl,?_⟩;rw[Rep];exact⟨a,_,rfl,l,qD ns⟩|i+1,e=>simp at e
 .match i,e with|0,e=>cases e;cases k|i+1,e=>simp at e
 .obtain⟨⟨s,m,e,k⟩,_⟩:=h;match i,e with|0,e=>cases e;cases k|i+1,e=>simp at e
 .have f:Rep K n v (.bl true):=f;rw[Rep]at f;exact f
end
end HH
end
section
namespace HH
open PySem
variable{n:Nat}{c:Call}{ρ:List Sl}{is:List Nat}{ds:List D}
def Res.sat{b:Type}(Q:b->List Sl->Prop)(x:Res b):Prop:=match x with|.ok a ρ=>Q a ρ|.exc _ _=>False|.stuck=>False
section
variable{α β:Type}{Q Q':α->List Sl->Prop}
@[simp]theorem Mq{a:α}{ρ:List Sl}:(Res.ok a ρ).sat Q=Q a ρ:=rfl
@[simp]theorem XX{k:Nat}{ρ:List Sl}:(Res.exc k ρ:Res α).sat Q=False:=rfl
@[simp]theorem R5:(Res.stuck:Res α).sat Q=False:=rfl
theorem bw{x:Res β}{f:β->List Sl->Res α}:(x.bind f).sat Q=x.sat λa ρ=>(f a ρ).sat Q:=by cases x<;>rfl
@[simp]theorem W3{p:Prop}[Decidable p]{x y:Res α}:(if p then x else y).sat Q=((p->x.sat Q)/\(¬ p->y.sat Q)):=by by_cases h:p<;>simp[h]
@[simp]theorem G9{a:α}{ρ:List Sl}:(lift (some a) ρ).sat Q=Q a ρ:=rfl
@[simp]theorem G8{ρ:List Sl}:(lift (none:Option α) ρ).sat Q=False:=rfl
@[simp]theorem Jd{p:Prop}[Decidable p]{a:α}{ρ:List Sl}:(lift (if p then some a else none) ρ).sat Q=(p/\Q a ρ):=by by_cases h:p<;>simp[h]
theorem Res.sat.imp{x:Res α}(h:x.sat Q)(k:∀a ρ,Q a ρ->Q' a ρ):x.sat Q':=by cases x with|ok a ρ=>exact k a ρ h|exc _ _=>exact h|stuck=>exact h
theorem sat_iff{x:Res α}:x.sat Q↔∃a ρ,x=.ok a ρ/\Q a ρ:=by cases x with|ok a ρ=>exact⟨λh=>⟨a,ρ,rfl,h⟩,λ⟨_,_,e,h⟩=>by cases e;exact h⟩|exc _ _=>exact⟨λh=>h.elim,λ⟨_,_,e,_⟩=>by cases e⟩|stuck=>exact⟨λh=>h.elim,λ⟨_,_,e,_⟩=>by cases e⟩
end
noncomputable def fr:Sl->Bool|.aP=>true|.val b _=>!b|.own b _=>!b|.lent _=>false|.eO _=>false|.bV _=>false|.hold _=>false
@[simp]theorem aae:fr .aP=true:=rfl
@[simp]theorem aay{b:Bool}{d:D}:fr (.val b d)=!b:=rfl
@[simp]theorem aaB{b:Bool}{d:List D}:fr (.own b d)=!b:=rfl
@[simp]theorem WT{d:List D}:fr (.lent d)=false:=rfl
theorem My(ρ:List Sl)(i:Nat)(s:Sl):put ρ i s=match ρ[i]?with|some t=>if fr t=true then some (ρ.set i s)else none|none=>none:=by unfold put;cases h:ρ[i]?with|none=>rfl|some t=>cases t with|aP=>rfl|val b d=>cases b<;>rfl|own b d=>cases b<;>rfl|lent d=>rfl|eO m=>rfl|bV m=>rfl|hold m=>rfl
theorem Ft{Γ:Tab}{w i:Nat}{d:Fd}{args:List Sl}(h:Γ i=some d):run Γ w (n+1) i args=enter (run Γ w n) w d args:=by rw[run,h]
noncomputable def fin(np:Nat):Fl->List Sl->Option (R×List Sl)|.next,ρ=>some (.val .non,ρ.take np)|.ret r,ρ=>some (r,ρ.take np)|_,_=>none
def eQ(np:Nat)(Q:R->List Sl->Prop)(fl:Fl)(ρ:List Sl):Prop:=match fl with|.next=>Q (.val .non) (ρ.take np)|.ret r=>Q r (ρ.take np)|_=>False
def sQ(c:Call)(n:Nat)(r:List S)(Q:Fl->List Sl->Prop)(fl:Fl)(ρ:List Sl):Prop:=match fl with|.next=>(fU c n r ρ).sat Q|fl=>Q fl ρ
def fQ(J:List Sl->Prop)(Q:Fl->List Sl->Prop)(fl:Fl)(ρ:List Sl):Prop:=match fl with|.next=>J ρ|.cont=>J ρ|.brk=>Q .next ρ|.ret v=>Q (.ret v) ρ
section
variable{np:Nat}{Q:R->List Sl->Prop}{ρ:List Sl}{v:R}{c:Call}{n:Nat}{r:List S}{Q':Fl->List Sl->Prop}{J:List Sl->Prop}
@[simp]theorem XJ:eQ np Q .next ρ=Q (.val .non) (ρ.take np):=rfl
@[simp]theorem aaR:eQ np Q (.ret v) ρ=Q v (ρ.take np):=rfl
@[simp]theorem Y6:eQ np Q .brk ρ=False:=rfl
@[simp]theorem WQ:eQ np Q .cont ρ=False:=rfl
@[simp]theorem Ye:sQ c n r Q' .next ρ=(fU c n r ρ).sat Q':=rfl
@[simp]theorem ZJ:sQ c n r Q' (.ret v) ρ=Q' (.ret v) ρ:=rfl
@[simp]theorem Zm:sQ c n r Q' .brk ρ=Q' .brk ρ:=rfl
@[simp]theorem Yp:sQ c n r Q' .cont ρ=Q' .cont ρ:=rfl
@[simp]theorem Xg:fQ J Q' .next ρ=J ρ:=rfl
@[simp]theorem Xu:fQ J Q' .cont ρ=J ρ:=rfl
@[simp]theorem aam:fQ J Q' .brk ρ=Q' .next ρ:=rfl
@[simp]theorem aaH:fQ J Q' (.ret v) ρ=Q' (.ret v) ρ:=rfl
end
theorem Ag{d:Fd}{args:List Sl}{Q:R->List Sl->Prop}(a:args.length=d.np)(hd:d.np<=d.nn)(h:(fU c n d.body (args++replicate (d.nn-d.np) .aP)).sat (eQ d.np Q)):(enter c n d args).sat Q:=by unfold enter;rw[if_pos ⟨a,hd⟩];revert h;cases fU c n d.body (args++replicate (d.nn-d.np) .aP)with|stuck=>exact λh=>False.elim h|exc _ _=>exact λh=>False.elim h|ok fl ρ=>cases fl<;>first|exact id|exact λh=>False.elim h
theorem bf{Γ:Tab}{w i:Nat}{d:Fd}{args:List Sl}{Q:R->List Sl->Prop}(a:Γ i=some d)(b:args.length=d.np)(hd:d.np<=d.nn)(h:(fU (run Γ w n) w d.body (args++replicate (d.nn-d.np) .aP)).sat (eQ d.np Q)):(run Γ w (n+1) i args).sat Q:=by rw[Ft a];exact Ag b hd h
theorem ak{s:S}{r:List S}{Q:Fl->List Sl->Prop}(h:(ex c n s ρ).sat (sQ c n r Q)):(fU c n (s::r) ρ).sat Q:=by rw[Ml,bw];refine h.imp λfl a q=>?_;cases fl<;>exact q
theorem Bb{s:S}{r:List S}{Q:Fl->List Sl->Prop}(h:(ex c n s ρ).sat (sQ c n r Q)):sQ c n (s::r) Q .next ρ:=ak h
@[simp]theorem Yk{c:Call}{n:Nat}{ρ:List Sl}{Q:Fl->List Sl->Prop}:(fU c n [] ρ).sat Q=Q .next ρ:=by rw[xs0];rfl
theorem fX{s:S}{r:List S}{Q:Fl->List Sl->Prop}(M:List Sl->Prop)(h:(ex c n s ρ).sat λfl a=>fl=.next/\M a)(k:∀a,M a->(fU c n r a).sat Q):(fU c n (s::r) ρ).sat Q:=ak (h.imp λfl a⟨e,q⟩=>by subst e;exact k a q)
theorem bW{is:List Nat}{one:Bool}{body:List Sl->Res Fl}(J:List D->List Sl->Prop){Q:Fl->List Sl->Prop}(b:∀d r ρ,J (d::r) ρ->∃a,bQ ρ is one d=some a/\(body a).sat (fQ (J r) Q))(f:∀ρ,J [] ρ->Q .next ρ):∀{ds:List D}{ρ:List Sl},J ds ρ->(fM is one body ds ρ).sat Q|[],ρ,j=>f ρ j|d::r,ρ,j=>by obtain⟨a,e,h⟩:=b d r ρ j;rw[fM,e];show((body a).bind _).sat Q;rw[bw];refine h.imp λfl g q=>?_;cases fl with|next=>exact bW J b f q|cont=>exact bW J b f q|brk=>exact q|ret v=>exact q
theorem iT{is:List Nat}{one:Bool}{a:List Sl->Res Bool}{p:Ev}(J:List Sl->Prop)(g:D->Option D){Q:List D->List Sl->Prop}:∀{ds f:List D}{ρ:List Sl},J ρ->(∀ d,d ∈ ds->∀ ρ,J ρ->∃ i,bQ ρ is one d=some i/\(a i).sat λb l=>if b=true then(p l).sat λr s=>g d=some r.d/\J s else g d=none/\J l)->(∀ ρ,J ρ->Q (f++ds.filterMap g) ρ)->(turns is one a p ds f ρ).sat Q|[],f,ρ,j,h,k=>by rw[turns];simpa using k ρ j|d::r,f,ρ,j,h,k=>by obtain⟨i,e,h1⟩:=h d (by simp) ρ j;rw[turns,e];show((a i).bind _).sat Q;rw[bw];refine h1.imp λb l q=>?_;cases b with|true=>rw[if_pos rfl]at q;rw[if_pos rfl,bw];refine q.imp λx s⟨u,j3⟩=>?_;refine iT J g j3 (λd' m=>h d' (by simp[m])) λo t=>?_;have:=k o t;rw[filterMap_cons,u]at this;rw[append_assoc];exact this|false=>rw[if_neg (by simp)]at q;rw[if_neg (by simp)];refine iT J g q.2 (λd' m=>h d' (by simp[m])) λo t=>?_;have:=k o t;rw[filterMap_cons,q.1]at this;exact this
theorem xQ{one:Bool}{b:Ev}(J:List Sl->Prop)(g:D->D){Q:List D->List Sl->Prop}(j:J ρ)(h:∀d,d∈ds->∀ρ,J ρ->∃a,bQ ρ is one d=some a/\(b a).sat λr f=>g d=r.d/\J f)(k:∀ρ,J ρ->Q (ds.map g) ρ):(turns is one (vh c none) b ds [] ρ).sat Q:=iT J (λd=>some (g d)) j (λd hd ρ j=>by obtain⟨a,e,h1⟩:=h d hd ρ j;refine⟨a,e,?_⟩;rw[vh,Mq,if_pos rfl];exact h1.imp λr f q=>⟨by rw[q.1],q.2⟩) λρ j=>by simpa using k ρ j
section
variable{ρ l:List Sl}{a:Sl}{i j:Int}{k m:Nat}{b b':Bool}{s:Str}{d:D}{ds es:List D}{e f:Ev}{x:Option Sl}{c:Call}
@[simp]theorem NQ:bI .int .non=false:=rfl
@[simp]theorem RX:bI .int (.bl b)=true:=rfl
@[simp]theorem Qq:bI .int (.int i)=true:=rfl
@[simp]theorem LR:bI .int (.str s)=false:=rfl
@[simp]theorem Mt:bI .int (.tup ds)=false:=rfl
@[simp]theorem Nk:bI .int (.lst ds)=false:=rfl
@[simp]theorem K7:bI .bool .non=false:=rfl
@[simp]theorem Qd:bI .bool (.bl b)=true:=rfl
@[simp]theorem J7:bI .bool (.int i)=false:=rfl
@[simp]theorem Kv:bI .bool (.str s)=false:=rfl
@[simp]theorem Kf:bI .bool (.tup ds)=false:=rfl
@[simp]theorem K1:bI .bool (.lst ds)=false:=rfl
@[simp]theorem Ni:bI .str .non=false:=rfl
@[simp]theorem RP:bI .str (.bl b)=false:=rfl
@[simp]theorem Ng:bI .str (.int i)=false:=rfl
@[simp]theorem Qc:bI .str (.str s)=true:=rfl
@[simp]theorem Qk:bI .str (.tup ds)=false:=rfl
@[simp]theorem Ov:bI .str (.lst ds)=false:=rfl
@[simp]theorem HB:bI .tuple .non=false:=rfl
@[simp]theorem Ka:bI .tuple (.bl b)=false:=rfl
@[simp]theorem HD:bI .tuple (.int i)=false:=rfl
@[simp]theorem Hy:bI .tuple (.str s)=false:=rfl
@[simp]theorem Iz:bI .tuple (.tup ds)=true:=rfl
@[simp]theorem Hh:bI .tuple (.lst ds)=false:=rfl
@[simp]theorem KN:bI .list .non=false:=rfl
@[simp]theorem Mm:bI .list (.bl b)=false:=rfl
@[simp]theorem J2:bI .list (.int i)=false:=rfl
@[simp]theorem K8:bI .list (.str s)=false:=rfl
@[simp]theorem K6:bI .list (.tup ds)=false:=rfl
@[simp]theorem Kc:bI .list (.lst ds)=true:=rfl
@[simp]theorem La:bI .none .non=true:=rfl
@[simp]theorem Oz:bI .none (.bl b)=false:=rfl
@[simp]theorem Kd:bI .none (.int i)=false:=rfl
@[simp]theorem Ke:bI .none (.str s)=false:=rfl
@[simp]theorem K4:bI .none (.tup ds)=false:=rfl
@[simp]theorem KD:bI .none (.lst ds)=false:=rfl
@[simp]theorem RD:iy .non=true:=rfl
@[simp]theorem Vg:iy (.bl b)=false:=rfl
@[simp]theorem Ri:iy (.int i)=false:=rfl
@[simp]theorem Q4:iy (.str s)=false:=rfl
@[simp]theorem QW:iy (.tup ds)=false:=rfl
@[simp]theorem R1:iy (.lst ds)=false:=rfl
@[simp]theorem V8:flat .non=true:=rfl
@[simp]theorem Xo:flat (.bl b)=true:=rfl
@[simp]theorem Vt:flat (.int i)=true:=rfl
@[simp]theorem Uu:flat (.str s)=true:=rfl
@[simp]theorem T5:flat (.tup ds)=false:=rfl
@[simp]theorem Ue:flat (.lst ds)=false:=rfl
@[simp]theorem YT:(R.val d).d=d:=rfl
@[simp]theorem Zt:(R.own ds).d=.lst ds:=rfl
@[simp]theorem Vf:xu (.val d)=.val false d:=rfl
@[simp]theorem Tp:xu (.own ds)=.own false ds:=rfl
@[simp]theorem Q0:uQ (.val d)=.dat d:=rfl
@[simp]theorem RZ:uQ (.own ds)=.tmp ds:=rfl
@[simp]theorem WR:fG (.int i)=some i:=rfl
@[simp]theorem ZG:wW (.bl b)=some b:=rfl
@[simp]theorem RB:items (.lst ds)=some ds:=rfl
@[simp]theorem Rq:items (.tup ds)=some ds:=rfl
@[simp]theorem Pz:O2 (.tup ds)=some ds:=rfl
@[simp]theorem M5:xO (.lst ds)=some ds:=rfl
@[simp]theorem XF:pM .add=o5:=rfl
@[simp]theorem Xj:pM .sub=ur:=rfl
@[simp]theorem Xp:pM .mul=nT:=rfl
@[simp]theorem Tt:pM .fdiv=ou:=rfl
@[simp]theorem Yb:pM .mod=vB:=rfl
@[simp]theorem WK:pM .pow=uF:=rfl
@[simp]theorem Rg:o5 (.int i) (.int j)=some (.val (.int (i+j))):=rfl
@[simp]theorem Sd:o5 (.lst ds) (.lst es)=if ds.length+es.length<=lim then some (.own (ds++es))else none:=rfl
@[simp]theorem Rz:o5 (.tup ds) (.tup es)=if ds.length+es.length<=lim then some (.val (.tup (ds++es)))else none:=rfl
@[simp]theorem RK:ur (.int i) (.int j)=some (.val (.int (i-j))):=rfl
@[simp]theorem Sg:nT (.int i) (.int j)=if((-18446744073709551616<i/\i<18446744073709551616)\/(-18446744073709551616<j/\j<18446744073709551616))then some (.val (.int (i*j)))else none:=rfl
@[simp]theorem PQ:ou (.int i) (.int j)=if 0<j/\j<1606938044258990275541962092341162602522202993782792835301376 then some (.val (.int (i/j)))else none:=rfl
@[simp]theorem RL:vB (.int i) (.int j)=if 0<j then some (.val (.int (i%j)))else none:=rfl
@[simp]theorem Rc:uF (.int i) (.int j)=if 0<=j/\j<=1000/\i.natAbs<18446744073709551616 then some (.val (.int (i^j.toNat)))else none:=rfl
@[simp]theorem Yr:Hm (.lst ds) (.int i)=(at' ds i).map .val:=rfl
@[simp]theorem Xi:Hm (.tup ds) (.int i)=(at' ds i).map .val:=rfl
@[simp]theorem Vy:Cd (.int i)=some (.val (.int (-i))):=rfl
@[simp]theorem QR:cm .eq (.int i) (.int j)=some (i==j):=rfl
@[simp]theorem QS:cm .ne (.int i) (.int j)=some (!(i==j)):=rfl
@[simp]theorem T3:cm .eq (.bl b) (.bl b')=some (b==b'):=rfl
@[simp]theorem V7:cm .ne (.bl b) (.bl b')=some (!(b==b')):=rfl
@[simp]theorem Rp:cm .lt (.int i) (.int j)=some (decide (i<j)):=rfl
@[simp]theorem Rx:cm .le (.int i) (.int j)=some (decide (i<=j)):=rfl
@[simp]theorem Rf:cm .gt (.int i) (.int j)=some (decide (j<i)):=rfl
@[simp]theorem Q3:cm .ge (.int i) (.int j)=some (decide (j<=i)):=rfl
@[simp]theorem aaM:cm .isN d .non=some (iy d):=rfl
@[simp]theorem Xn:cm .JW d .non=some (!iy d):=rfl
@[simp]theorem Lf:blt .len [.lst ds]=some (.val (.int ds.length)):=rfl
@[simp]theorem J9:blt .len [.tup ds]=some (.val (.int ds.length)):=rfl
@[simp]theorem Im:blt .list [.lst ds]=some (.own ds):=rfl
@[simp]theorem Js:blt .list [.tup ds]=some (.own ds):=rfl
@[simp]theorem G3:blt .tuple [.lst ds]=some (.val (.tup ds)):=rfl
@[simp]theorem Ha:blt .tuple [.tup ds]=some (.val (.tup ds)):=rfl
@[simp]theorem Tv:blt .min2 [.int i,.int j]=some (.val (.int (if j<i then j else i))):=rfl
@[simp]theorem Ua:blt .max2 [.int i,.int j]=some (.val (.int (if i<j then j else i))):=rfl
@[simp]theorem Yn:blt .all [.lst ds]=(ds.mapM wW).map λbs=>.val (.bl (bs.all id)):=rfl
@[simp]theorem Sv:isVar (.var k)=some k:=rfl
@[simp]theorem Yd:pk (a::l) k=match(a::l)[k]?with|some (.val _ d)=>some d|some (.own _ ds)=>some (.lst ds)|some (.lent ds)=>some (.lst ds)|_=>none:=rfl
@[simp]theorem Tz:xG (a::l) k=match pk (a::l) k with|some (.lst ds)=>some ds|_=>none:=rfl
@[simp]theorem Uz:bF (some k) e ρ=lift (pk ρ k) ρ:=rfl
@[simp]theorem TY:bF none e ρ=(e ρ).bind λr ρ=>.ok r.d ρ:=rfl
@[simp]theorem Sq{y:Option Nat}:gO (some k) e y f ρ=(lift (pk ρ k) ρ).bind λ_ ρ=>(bF y f ρ).bind λy ρ=>(lift (pk ρ k) ρ).bind λx ρ=>.ok (x,y) ρ:=rfl
@[simp]theorem R3{y:Option Nat}:gO none e y f ρ=(bF none e ρ).bind λx ρ=>(bF y f ρ).bind λy ρ=>.ok (x,y) ρ:=rfl
@[simp]theorem Su{es:List D}:cZ (.own b ds) (some (.own b' es))=.own b es:=rfl
@[simp]theorem QT:cZ (.own b ds) (some (.val b' d))=.val b d:=rfl
@[simp]theorem Df:cZ a none=a:=by cases a<;>rfl
@[simp]theorem zY:cZ (.val b d) x=.val b d:=by cases x<;>rfl
@[simp]theorem Ry:cZ .aP x=.aP:=by cases x<;>rfl
@[simp]theorem wD:cZ (.lent ds) x=.lent ds:=by cases x<;>rfl
@[simp]theorem Us:bQ ρ [k] true d=put ρ k (.val false d):=rfl
@[simp]theorem R8{is:List Nat}:bQ ρ is false (.tup ds)=putAll ρ is ds:=by cases is<;>rfl
@[simp]theorem O8:srcOf none e ρ=(e ρ).bind λr ρ=>lift (items r.d) ρ:=rfl
@[simp]theorem O4:srcOf (some k) e (a::l)=match(a::l)[k]?with|some (.val _ d)=>lift (items d) (a::l)|some (.own _ ds)=>.ok ds ((a::l).set k (.lent ds))|some (.lent ds)=>.ok ds (a::l)|_=>.stuck:=rfl
@[simp]theorem KJ{g:List Sl}:aO g none ρ=ρ:=rfl
@[simp]theorem Lb:aO (a::l) (some k) ρ=match(a::l)[k]?with|some (.own b ds)=>ρ.set k (.own b ds)|_=>ρ:=rfl
@[simp]theorem TQ{s:Sl}:put (a::l) k s=match(a::l)[k]?with|some t=>if fr t=true then some ((a::l).set k s)else none|none=>none:=My ..
@[simp]theorem Px:putAll ρ [] []=some ρ:=rfl
@[simp]theorem Kq{is:List Nat}:putAll ρ (k::is) (d::ds)=(put ρ k (.val false d)).bind λρ=>putAll ρ is ds:=rfl
end
@[simp]theorem at_0{a:Type}{b:a}{l:List a}:at' (b::l) 0=some b:=by unfold at' gw;rw[if_pos (by decide),if_pos (by simp only[length_cons];omega)];rfl
@[simp]theorem at_1{a:Type}{e b:a}{l:List a}:at' (e::b::l) 1=some b:=by unfold at' gw;rw[if_pos (by decide),if_pos (by simp only[length_cons];omega)];rfl
@[simp]theorem at_2{a:Type}{e f b:a}{l:List a}:at' (e::f::b::l) 2=some b:=by unfold at' gw;rw[if_pos (by decide),if_pos (by simp only[length_cons];omega)];rfl
@[simp]theorem at_3{a:Type}{e f g b:a}{l:List a}:at' (e::f::g::b::l) 3=some b:=by unfold at' gw;rw[if_pos (by decide),if_pos (by simp only[length_cons];omega)];rfl
@[simp]theorem at_4{a:Type}{e f g h b:a}{l:List a}:at' (e::f::g::h::b::l) 4=some b:=by unfold at' gw;rw[if_pos (by decide),if_pos (by simp only[length_cons];omega)];rfl
@[simp]theorem at_5{a:Type}{e f g h i b:a}{l:List a}:at' (e::f::g::h::i::b::l) 5=some b:=by unfold at' gw;rw[if_pos (by decide),if_pos (by simp only[length_cons];omega)];rfl
@[simp]theorem at_6{a:Type}{e f g h i j b:a}{l:List a}:at' (e::f::g::h::i::j::b::l) 6=some b:=by unfold at' gw;rw[if_pos (by decide),if_pos (by simp only[length_cons];omega)];rfl
@[simp]theorem at_7{a:Type}{e f g h i j k b:a}{l:List a}:at' (e::f::g::h::i::j::k::b::l) 7=some b:=by unfold at' gw;rw[if_pos (by decide),if_pos (by simp only[length_cons];omega)];rfl
theorem xg{a:Type}{l:List a}{i:Int}(h:0<=i)(h':i<l.length):at' l i=l[i.toNat]?:=by unfold at' gw;rw[if_pos h,if_pos h'];rfl
theorem Eg{a:Type}{l:List a}{k:Nat}(h':k<l.length):at' l (k:Int)=l[k]?:=by rw[xg (by omega) (by omega)];simp
@[simp]theorem Q7{d:D}:isVar (.con d)=none:=rfl
@[simp]theorem Ro{o:Op}{p q:P}:isVar (.bin o p q)=none:=rfl
@[simp]theorem RT{p:P}:isVar (.neg p)=none:=rfl
@[simp]theorem Rh{p:P}:isVar (.not p)=none:=rfl
@[simp]theorem RN{p q:P}:isVar (.and p q)=none:=rfl
@[simp]theorem U6{p q:P}:isVar (.or p q)=none:=rfl
@[simp]theorem RW{o:Cm}{p q:P}:isVar (.cmp o p q)=none:=rfl
@[simp]theorem Rw{p q r:P}:isVar (.Ln p q r)=none:=rfl
@[simp]theorem RV{as:List P}:isVar (.tup as)=none:=rfl
@[simp]theorem QZ{as:List P}:isVar (.lst as)=none:=rfl
@[simp]theorem Ru{p q:P}:isVar (.idx p q)=none:=rfl
@[simp]theorem J6{p q r:P}:isVar (.slice p q r)=none:=rfl
@[simp]theorem Mh{f:Nat}{as:List P}:isVar (.call f as)=none:=rfl
@[simp]theorem Q8{b:TJ}{as:List P}:isVar (.blt b as)=none:=rfl
@[simp]theorem NK{a:List Ty}{p:P}:isVar (.inst a p)=none:=rfl
@[simp]theorem Np{p e:P}{n:Nat}{is:List Nat}{one:Bool}{t:Option P}:isVar (.comp p n is one t e)=none:=rfl
@[simp]theorem QV{p q:P}:isVar (.v7 p q)=none:=rfl
@[simp]theorem R0{p q:P}:isVar (.zip p q)=none:=rfl
noncomputable def nW(c:Call)(is:List Nat)(one:Bool)(a:Option P)(b:P)(ds:List D)(ρ:List Sl):Res (List D):=turns is one (vh c a) (ev c b) ds [] ρ
@[simp]theorem XS{c:Call}{src f:P}{n:Nat}{is:List Nat}{one:Bool}{b:Option P}{ρ:List Sl}:ev c (.comp src n is one b f) ρ=(srcOf (isVar src) (ev c src) ρ).bind λds a=>if ds.length<=lim then(nW c is one b f ds (a++replicate n .aP)).bind λxs e=>.ok (.own xs) (aO ρ (isVar src) (e.take a.length))else .stuck:=(rfl)
noncomputable def El(c:Call)(n:Nat)(t:P)(body:List S)(k:Nat)(ρ:List Sl):Res Fl:=pN (iH (ev c t)) (fU c n body) k ρ
@[simp]theorem Zv{c:Call}{n:Nat}{t:P}{body:List S}{ρ:List Sl}:ex c n (.whl t body) ρ=El c n t body n ρ:=(rfl)
theorem sy{b e h:Type}{x:Res e}{f:e->List Sl->Res b}{g:b->List Sl->Res h}:(x.bind f).bind g=x.bind λa ρ=>(f a ρ).bind g:=by cases x<;>rfl
@[simp]theorem Z6{Γ:Tab}{w n i:Nat}{args:List Sl}{b:Type}{f:R->List Sl->Res b}{Q:b->List Sl->Prop}:((run Γ w n i args).bind f).sat Q=(run Γ w n i args).sat λa ρ=>(f a ρ).sat Q:=bw
@[simp]theorem Zx{Γ:Tab}{w n i:Nat}{args:List Sl}{b e:Type}{f:R->List Sl->Res b}{g:b->List Sl->Res e}:((run Γ w n i args).bind f).bind g=(run Γ w n i args).bind λa ρ=>(f a ρ).bind g:=sy
@[simp]theorem Xx{c:Call}{is:List Nat}{one:Bool}{b:Option P}{e:P}{ds:List D}{ρ:List Sl}{g:Type}{f:List D->List Sl->Res g}{Q:g->List Sl->Prop}:((nW c is one b e ds ρ).bind f).sat Q=(nW c is one b e ds ρ).sat λa ρ=>(f a ρ).sat Q:=bw
@[simp]theorem Xr{c:Call}{is:List Nat}{one:Bool}{b:Option P}{e:P}{ds:List D}{ρ:List Sl}{h i:Type}{f:List D->List Sl->Res h}{g:h->List Sl->Res i}:((nW c is one b e ds ρ).bind f).bind g=(nW c is one b e ds ρ).bind λa ρ=>(f a ρ).bind g:=sy
@[simp]theorem Z8{is:List Nat}{one:Bool}{b:List Sl->Res Fl}{ds:List D}{ρ:List Sl}{e:Type}{f:Fl->List Sl->Res e}{Q:e->List Sl->Prop}:((fM is one b ds ρ).bind f).sat Q=(fM is one b ds ρ).sat λa ρ=>(f a ρ).sat Q:=bw
@[simp]theorem Xm{b e:Type}{p:Prop}[Decidable p]{a:e}{ρ:List Sl}{f:e->List Sl->Res b}{Q:b->List Sl->Prop}:((lift (if p then some a else none) ρ).bind f).sat Q=(p/\(f a ρ).sat Q):=by by_cases h:p<;>simp[h,lift,Res.bind]
@[simp]theorem Xh{b e h:Type}{p:Prop}[Decidable p]{a:e}{ρ:List Sl}{f:e->List Sl->Res b}{g:b->List Sl->Res h}:((lift (if p then some a else none) ρ).bind f).bind g=(lift (if p then some a else none) ρ).bind λa ρ=>(f a ρ).bind g:=sy
@[simp]theorem bb_ite{b a:Type}{p:Prop}[Decidable p]{x y:Res a}{f:a->List Sl->Res b}:(if p then x else y).bind f=if p then x.bind f else y.bind f:=by by_cases h:p<;>simp[h]
@[simp]theorem Y5{c:Call}{n k:Nat}{t:P}{b:List S}{ρ:List Sl}{e:Type}{f:Fl->List Sl->Res e}{Q:e->List Sl->Prop}:((El c n t b k ρ).bind f).sat Q=(El c n t b k ρ).sat λa ρ=>(f a ρ).sat Q:=bw
@[simp]theorem Z7{b e:Type}{a:b}{ρ:List Sl}{f:b->List Sl->Res e}:(Res.ok a ρ).bind f=f a ρ:=rfl
@[simp]theorem Rr{a b:Type}{f:a->List Sl->Res b}:(Res.stuck:Res a).bind f=.stuck:=rfl
@[simp]theorem Uo{b:Type}{a:b}{ρ:List Sl}:lift (some a) ρ=.ok a ρ:=rfl
@[simp]theorem T9{a:Type}{ρ:List Sl}:lift (none:Option a) ρ=.stuck:=rfl
noncomputable def zZ:List Sl->Nat->Sl->List Sl|[],_,_=>[]|t::ρ,0,s=>cZ t (some s)::ρ|t::ρ,k+1,s=>t::zZ ρ k s
noncomputable def bk:List Arg->List Sl->List Sl->List Sl|.dD k::as,s::ss,ρ=>bk as ss (zZ ρ k s)|.dat _::as,_::ss,ρ=>bk as ss ρ|.tmp _::as,_::ss,ρ=>bk as ss ρ|_,_,ρ=>ρ
section
variable{t s:Sl}{ρ ss:List Sl}{k:Nat}{as:List Arg}{d:D}{ds:List D}
@[simp]theorem abG:zZ (t::ρ) 0 s=cZ t (some s)::ρ:=rfl
@[simp]theorem acf:zZ (t::ρ) (k+1) s=t::zZ ρ k s:=rfl
@[simp]theorem N6:bk (.dD k::as) (s::ss) ρ=bk as ss (zZ ρ k s):=rfl
@[simp]theorem Pn:bk (.dat d::as) (s::ss) ρ=bk as ss ρ:=rfl
@[simp]theorem PB:bk (.tmp ds::as) (s::ss) ρ=bk as ss ρ:=rfl
@[simp]theorem aaJ:bk [] ss ρ=ρ:=rfl
end
theorem wF{s:Sl}:∀{ρ:List Sl}{k j:Nat},(zZ ρ k s)[j]?=(ρ[j]?).map λt=>if j=k then cZ t (some s)else t|[],_,_=>by simp[zZ]|t::ρ,0,0=>by simp[zZ]|t::ρ,0,j+1=>by simp[zZ]|t::ρ,k+1,0=>by simp[zZ]|t::ρ,k+1,j+1=>by have:=wF (s:=s) (ρ:=ρ) (k:=k) (j:=j);simp only[zZ,List.getElem?_cons_succ,this];congr 1;funext t;simp
theorem uL{as:List Arg}{ss:List Sl}:∀{ρ:List Sl}{i j:Nat},(bY as ss i ρ)[j]?=(ρ[j]?).map λt=>cZ t (aJ (i+j) as ss)|[],_,_=>by simp[bY]|t::ρ,i,0=>by simp[bY]|t::ρ,i,j+1=>by have:=uL (as:=as) (ss:=ss) (ρ:=ρ) (i:=i+1) (j:=j);simp only[bY,List.getElem?_cons_succ,this];rw[show i+1+j=i+(j+1)by omega]
def stb(t:Sl):Prop:=∀x,cZ t x=t
def Ph(ρ:List Sl):List Arg->Prop|[]=>True|.dD k::as=>(Arg.dD k∈as->∀t,ρ[k]?=some t->stb t)/\Ph ρ as|_::as=>Ph ρ as
theorem mK{ρ:List Sl}:∀{as:List Arg}{a:List Sl},Ph ρ as->(∀k,Arg.dD k∈as->∀t,a[k]?=some t->ρ[k]?=some t\/stb t)->Ph a as
 |[],_,_,_=>trivial|.dD k::as,a,h,g=>⟨λf t ht=>by
  rcases g k (by simp) t ht with e|e;.exact h.1 f t e
  .exact e,mK h.2 λj b=>g j (by simp[b])⟩|.dat _::as,a,h,g=>mK (as:=as) h λj b=>g j (by simp[b])|.tmp _::as,a,h,g=>mK (as:=as) h λj b=>g j (by simp[b])
theorem jU{k:Nat}:∀{as:List Arg}{ss:List Sl},Arg.dD k∉as->aJ k as ss=none|[],_,_=>by unfold aJ;rfl|.dD j::as,[],_=>rfl|.dat _::as,[],_=>rfl|.tmp _::as,[],_=>rfl|.dD j::as,s::ss,h=>by simp only[mem_cons,Arg.dD.injEq,not_or]at h;rw[aJ,if_neg (λe=>h.1 e.symm),jU h.2]|.dat _::as,s::ss,h=>by simp only[mem_cons,not_or]at h;rw[aJ,jU h.2]|.tmp _::as,s::ss,h=>by simp only[mem_cons,not_or]at h;rw[aJ,jU h.2]
theorem yu:∀{as:List Arg}{ss ρ:List Sl},Ph ρ as->∀j,(bk as ss ρ)[j]?=(ρ[j]?).map λt=>cZ t (aJ j as ss)
 |[],ss,ρ,_,j=>by cases ss<;>simp[aJ]|.dD k::as,[],ρ,_,j=>by rw[show bk (.dD k::as) [] ρ=ρ from rfl];simp[aJ]|.dat d::as,[],ρ,_,j=>by rw[show bk (.dat d::as) [] ρ=ρ from rfl];simp[aJ]|.tmp d::as,[],ρ,_,j=>by rw[show bk (.tmp d::as) [] ρ=ρ from rfl];simp[aJ]|.dat _::as,s::ss,ρ,h,j=>by rw[Pn,aJ];exact yu (as:=as) h j|.tmp _::as,s::ss,ρ,h,j=>by rw[PB,aJ];exact yu (as:=as) h j|.dD k::as,s::ss,ρ,h,j=>by
   have b:Ph (zZ ρ k s) as:=mK h.2 λi hi t ht=>by rw[wF]at ht;cases e:ρ[i]?with|none=>rw[e]at ht;cases ht|some t0=>
      rw[e]at ht;by_cases c:i=k;.subst c;have hs:=h.1 hi t0 e;simp[hs (some s)]at ht;exact .inl (by rw[ht])
      .simp[c]at ht;exact .inl (by rw[ht])
   rw[N6,yu b j,wF,aJ];cases e:ρ[j]?with|none=>rfl|some t0=>
     simp only[Option.map_some];by_cases c:j=k
     . subst c;rw[if_pos rfl,if_pos rfl];by_cases a:Arg.dD j∈as;.have hs:=h.1 a t0 e;rw[hs (some s),hs]
       .rw[jU a,Df]
     .rw[if_neg c,if_neg (λz=>c z.symm)]
theorem dO{ρ:List Sl}{k:Nat}{b:Bool}{ds:List D}(e:ρ[k]?=some (.own b ds)):∀{as:List Arg}{u:List Nat}{r:List Sl},k∈u->aZ ρ as u=some r->Arg.dD k∉as
 |[],_,_,_,_=>by simp|.dat _::as,u,r,a,h=>by simp only[aZ,map_eq_some_iff]at h;obtain⟨r',h,_⟩:=h;simp[dO e a h]|.tmp _::as,u,r,a,h=>by simp only[aZ,map_eq_some_iff]at h;obtain⟨r',h,_⟩:=h;simp[dO e a h]|.dD i::as,u,r,a,h=>by
   rw[aZ]at h;have hi:i≠k:=by rintro rfl;rw[e]at h;simp[a]at h
   have:Arg.dD k∉as:=by
    split at h;.obtain⟨r',h,_⟩:=map_eq_some_iff.mp h;exact dO e a h
    . split at h;.cases h
      .obtain⟨r',h,_⟩:=map_eq_some_iff.mp h;exact dO e (by simp[a]) h
    . split at h;.cases h
      .obtain⟨r',h,_⟩:=map_eq_some_iff.mp h;exact dO e (by simp[a]) h
    .cases h
   simp[this];exact λz=>hi z.symm
theorem dN{ρ:List Sl}:∀{as:List Arg}{u:List Nat}{r:List Sl},aZ ρ as u=some r->Ph ρ as
 |[],_,_,_=>trivial|.dat _::as,u,r,h=>by obtain⟨r',h,_⟩:=map_eq_some_iff.mp h;exact dN (as:=as) h|.tmp _::as,u,r,h=>by obtain⟨r',h,_⟩:=map_eq_some_iff.mp h;exact dN (as:=as) h|.dD i::as,u,r,h=>by
   rw[aZ]at h;split at h;.rename_i b d q;obtain⟨r',h,_⟩:=map_eq_some_iff.mp h;exact⟨λ_ t ht=>by rw[q]at ht;cases ht;exact λx=>zY,dN h⟩
   . rename_i b ds q;split at h;.cases h
     .obtain⟨r',h,_⟩:=map_eq_some_iff.mp h;exact⟨λa=>absurd a (dO q (by simp) h),dN h⟩
   . rename_i ds q;split at h;.cases h
     .obtain⟨r',h,_⟩:=map_eq_some_iff.mp h;exact⟨λ_ t ht=>by rw[q]at ht;cases ht;exact λx=>wD,dN h⟩
   .cases h
theorem Ug{as:List Arg}{ss r:List Sl}{u:List Nat}(h:aZ ρ as u=some r):bY as ss 0 ρ=bk as ss ρ:=by apply List.ext_getElem?;intro j;rw[uL,yu (dN h),Nat.zero_add]
@[simp]theorem R4{c:Call}{k:Nat}{as:List Arg}{ρ:List Sl}:o4 c k as ρ=match aZ ρ as []with|none=>.stuck|some args=>(c k args).bind λr a=>.ok r (bk as a ρ):=by unfold o4;cases e:aZ ρ as []with|none=>rfl|some args=>simp only[<-Ug (r:=args) e];cases c k args<;>rfl
theorem iJ{one:Bool}{a:P}(J:List Sl->Prop)(g:D->D){Q:List D->List Sl->Prop}(j:J ρ)(h:∀d,d∈ds->∀ρ,J ρ->∃b,bQ ρ is one d=some b/\(ev c a b).sat λr e=>g d=r.d/\J e)(k:∀ρ,J ρ->Q (ds.map g) ρ):(nW c is one none a ds ρ).sat Q:=xQ J g j h k
theorem Q5{one:Bool}{i t:P}(J:List Sl->Prop)(g:D->Option D){Q:List D->List Sl->Prop}(j:J ρ)(h:∀d,d∈ds->∀ρ,J ρ->∃a,bQ ρ is one d=some a/\(ev c t a).sat λr f=>∃b,r.d=.bl b/\if b=true then(ev c i f).sat λr l=>g d=some r.d/\J l else g d=none/\J f)(k:∀ρ,J ρ->Q (ds.filterMap g) ρ):(nW c is one (some t) i ds ρ).sat Q:=iT J g j (λd hd ρ j=>by obtain⟨a,e,h1⟩:=h d hd ρ j;refine⟨a,e,?_⟩;rw[vh,iH,bw];refine h1.imp λr f⟨b,e,q⟩=>?_;rw[e];exact q) λρ j=>by simpa using k ρ j
theorem gZ{c:Call}{n:Nat}{t:P}{body:List S}(J:Nat->List Sl->Prop){Q:Fl->List Sl->Prop}(h:∀m ρ,J m ρ->(ev c t ρ).sat λr a=>∃b,r.d=.bl b/\if b=true then(fU c n body a).sat (fQ (λf=>∃g,g<m/\J g f) Q)else Q .next a):∀{k m:Nat}{ρ:List Sl},m<k->J m ρ->(El c n t body k ρ).sat Q|0,m,ρ,i,_=>absurd i (Nat.not_lt_zero _)|k+1,m,ρ,i,j=>by unfold El;rw[pN,bw,iH,bw];refine(h m ρ j).imp λr a⟨b,e,q⟩=>?_;rw[e];show(if b=true then _ else _:Res Fl).sat Q;cases b with|false=>rw[if_neg (by simp)]at q;rw[if_neg (by simp)];exact q|true=>rw[if_pos rfl]at q;rw[if_pos rfl,bw];refine q.imp λfl f q=>?_;cases fl with|next=>obtain⟨g,l,o⟩:=q;exact gZ J h (lt_of_lt_of_le l (Nat.lt_succ_iff.mp i)) o|cont=>obtain⟨g,l,o⟩:=q;exact gZ J h (lt_of_lt_of_le l (Nat.lt_succ_iff.mp i)) o|brk=>exact q|ret v=>exact q
@[simp]theorem abT:type_of%@HH.E1:=@HH.E1
@[simp]theorem aca:type_of%@HH.E2:=@HH.E2
@[simp]theorem abz:type_of%@HH.E3:=@HH.E3
@[simp]theorem acg:type_of%@HH.E4:=@HH.E4
@[simp]theorem abL:type_of%@HH.E5:=@HH.E5
@[simp]theorem aby:type_of%@HH.E6:=@HH.E6
@[simp]theorem ab0:type_of%@HH.E7:=@HH.E7
@[simp]theorem abY:type_of%@HH.E8:=@HH.E8
@[simp]theorem ZX:type_of%@HH.E9:=@HH.E9
@[simp]theorem ZQ:type_of%@HH.E10:=@HH.E10
@[simp]theorem YS:type_of%@HH.E11:=@HH.E11
@[simp]theorem ZF:type_of%@HH.E12:=@HH.E12
@[simp]theorem Zq:type_of%@HH.E13:=@HH.E13
@[simp]theorem aaQ:type_of%@HH.E14:=@HH.E14
@[simp]theorem Zy:type_of%@HH.E15:=@HH.E15
@[simp]theorem aaP:type_of%@HH.E16:=@HH.E16
@[simp]theorem XQ:type_of%@HH.TX:=@HH.TX
@[simp]theorem Z5:type_of%@HH.E17:=@HH.E17
@[simp]theorem aao:type_of%@HH.E18:=@HH.E18
@[simp]theorem aaD:type_of%@HH.E19:=@HH.E19
@[simp]theorem aan:type_of%@HH.E20:=@HH.E20
@[simp]theorem abR:type_of%@HH.X1:=@HH.X1
@[simp]theorem abA:type_of%@HH.X2:=@HH.X2
@[simp]theorem abK:type_of%@HH.X3:=@HH.X3
@[simp]theorem abS:type_of%@HH.X4:=@HH.X4
@[simp]theorem abX:type_of%@HH.X5:=@HH.X5
@[simp]theorem ab2:type_of%@HH.X6:=@HH.X6
@[simp]theorem abP:type_of%@HH.X7:=@HH.X7
@[simp]theorem abC:type_of%@HH.X8:=@HH.X8
@[simp]theorem aaX:type_of%@HH.X9:=@HH.X9
@[simp]theorem aac:type_of%@HH.Xf:=@HH.Xf
@[simp]theorem Y8:type_of%@HH.X11:=@HH.X11
@[simp]theorem ZS:type_of%@HH.Yl:=@HH.Yl
@[simp]theorem aaI:type_of%@HH.Z2:=@HH.Z2
@[simp]theorem aaV:type_of%@HH.iH.eq_1:=@HH.iH.eq_1
@[simp]theorem Zf:type_of%@HH.evs.eq_1:=@HH.evs.eq_1
@[simp]theorem ZV:type_of%@HH.evs.eq_2:=@HH.evs.eq_2
@[simp]theorem aaT:type_of%@HH.v5.eq_1:=@HH.v5.eq_1
@[simp]theorem Zw:type_of%@HH.v5.eq_2:=@HH.v5.eq_2
@[simp]theorem Z1:type_of%@HH.vh.eq_1:=@HH.vh.eq_1
@[simp]theorem Zg:type_of%@HH.vh.eq_2:=@HH.vh.eq_2
@[simp]theorem aal:type_of%@HH.Bf.eq_1:=@HH.Bf.eq_1
@[simp]theorem Uv:type_of%@HH.aZ.eq_1:=@HH.aZ.eq_1
@[simp]theorem V1:type_of%@HH.aZ.eq_2:=@HH.aZ.eq_2
@[simp]theorem U4:type_of%@HH.aZ.eq_3:=@HH.aZ.eq_3
@[simp]theorem Up:type_of%@HH.aZ.eq_4:=@HH.aZ.eq_4
@[simp]theorem Vu:type_of%@HH.bY.eq_1:=@HH.bY.eq_1
@[simp]theorem Uh:type_of%@HH.bY.eq_2:=@HH.bY.eq_2
@[simp]theorem V0:type_of%@HH.aJ.eq_1:=@HH.aJ.eq_1
@[simp]theorem Vq:type_of%@HH.aJ.eq_2:=@HH.aJ.eq_2
@[simp]theorem Ul:type_of%@HH.aJ.eq_3:=@HH.aJ.eq_3
@[simp]theorem Td:type_of%@HH.aJ.eq_4:=@HH.aJ.eq_4
end HH
end
section
namespace HH
open PySem L2 PySem.Spec PyProof.Rows
section
variable{X:Cx}{c:Call}{a b:Expr}{pa pb:P}{pos:Pos}
theorem nC:∀{e:List D}{ns:List Int},e.mapM fG=some ns->e=ns.map D.int|[],ns,h=>by simp at h;subst h;rfl|d::e,ns,h=>by simp[List.mapM_cons,Option.bind_eq_some_iff]at h;obtain⟨i,f,j,g,rfl⟩:=h;rw[bO f,nC g];rfl
theorem iC{K:PySem.W.Frag}{F:Hp}:∀{ns:List Int}{ys:List V},au K F ys (ns.map D.int)->ys=ns.map V.int|[],ys,h=>by rw[h.dX];rfl|n::ns,ys,h=>by obtain⟨v,r,rfl,h1,t⟩:=h.bK;rw[Rep]at h1;rw[h1,iC t];rfl
theorem rM{ns:List Int}{f:List Value}(h:Vals (ns.map V.int) f){i:Nat}{v:Value}(e:f.toArray[i]?=some v):∃t,v=.int (ns.getD i 0) t:=by
 have e:f[i]?=some v:=by simpa using e
 have hi:i<f.length:=(dj e).1;have k:=h.length;rw[length_map]at k;have g:(ns.map V.int)[i]?=some (.int (ns.getD i 0)):=by rw[getElem?_map,List.getElem?_eq_getElem (by omega)];simp[List.getD,show i<ns.length by omega]
 obtain⟨w,j,l⟩:=h.get g;rw[e]at j;cases j;exact l
theorem walked{h:List (Addr×Obj)}{σ:L2.St}{H:Hp}{s:Shared}{p:Addr}{ys:List V}(I:L2.Inv X h σ H s)(hc:X.calm=true)(hq:dJ X.K H p ys\/ji X.K H p ys){Q:Value->Shared->Prop}{E:Value->Shared->Prop}(k:∀(it:Addr)(g:List Value)(e:Shared)(St:Nat->Heap->Prop),Vals ys g->Walks X.prog X.w X.A.in1 it [it,p] [it] g.toArray.size (λi v=>g.toArray[i]?=some v) St->St 0 e.heap->(∀ b ∈[it,p],b<e.heap.objs.size)->(∀h' m,(∀b o,b∉[it]->e.heap.get? b=some o->h'.get? b=some o)->L2.Inv X h σ H {e with heap:=h',toks:=m})->Q (.ref it) e):wpAny (model X.prog X.w) X.A.in1 (pyIter (.ref p)) Q E s:=by
 have r:X.A.in1.handled=none:=I.ok.hd hc;rcases hq with hq|hq
 . obtain⟨g,n,f,hz⟩:=I.list hq;have f:=f.isList;have j:p<s.heap.objs.size:=by obtain⟨o,h1,_⟩:=f;exact lt_size h1
   refine wpAny_pyIter_list f (k s.heap.objs.size g _ _ n (Walks.list r s.heap.objs.size p (ne_of_lt j) g.toArray) ⟨⟨_,get?_push_size _ rfl,rfl,rfl⟩,?_⟩ ?_ λh' m kp=>?_);.obtain⟨o,h1,q⟩:=f;exact⟨o,fH h1,q⟩
   . intro b l;obtain⟨o,h1,_⟩:=f;simp at l;rcases l with rfl|rfl;.exact lt_size (get?_push_size _ rfl)
     .exact lt_size (fH h1)
   .exact I.kept (λb o z=>kp b o (by simp;exact ne_of_lt (lt_size z)) (fH z))
 . obtain⟨g,n,f,hz⟩:=I.tuple hq;have j:p<s.heap.objs.size:=by obtain⟨o,h1,_⟩:=f;exact lt_size h1
   refine wpAny_pyIter_tuple f (k s.heap.objs.size g _ _ n (Walks.tuple r s.heap.objs.size p (ne_of_lt j) g.toArray) ⟨⟨_,get?_push_size _ rfl,rfl,rfl⟩,?_⟩ ?_ λh' m kp=>?_);.obtain⟨o,h1,q⟩:=f;exact⟨o,fH h1,q⟩
   . intro b l;obtain⟨o,h1,_⟩:=f;simp at l;rcases l with rfl|rfl;.exact lt_size (get?_push_size _ rfl)
     .exact lt_size (fH h1)
   .exact I.kept (λb o z=>kp b o (by simp;exact ne_of_lt (lt_size z)) (fH z))
theorem lU(ns:List Int):∀k,k<=ns.length->preSum (λi=>ns.getD i 0) k=(ns.take k).sum|0,_=>by simp[preSum]|k+1,h=>by rw[preSum,lU ns k (by omega),List.take_succ,List.sum_append];simp[List.getD,show k<ns.length by omega]
theorem U7(hc:X.calm=true):cR X (.builtin "sum") (Lg X.K λx=>blt .sum [x]):=by
 rintro g s σ H xs h Q I r⟨x,o,F,d,r',sm,q,he,k⟩;obtain⟨ns,t,he⟩:=map_some (show((items d).bind λj=>j.mapM fG).map _=some r' from he);subst he;obtain⟨j,w,y⟩:=bJ t;obtain⟨p,ys,rfl,z,l⟩:=q.items sm w;rw[nC y]at l;have A:=iC l;subst o;obtain⟨u,rfl,B⟩:=r.one;cases B;refine call_sum_walkG (walked I hc z λit h m St n W h0 C kp=>?_);subst A;have f:h.toArray.size=ns.length:=by rw[size_toArray,<-n.length,length_map]
 refine⟨it,_,_,_,_,St,λi=>ns.getD i 0,rfl,W,h0,C,λi v e=>rM n e,λh' E t' G=>?_⟩;rw[f,lU ns _ (bN),List.take_length];exact⟨.int _,H,kp h' E G,⟨t',rfl⟩,bH.bZ sm (bA _) k⟩
theorem DW{ns:List Int}{m:Int}(k:ns.min?=some m):ns.getD (argBest (λi j=>decide (ns.getD i 0<ns.getD j 0)) (ns.length-1)) 0=m:=by
 have h:ns≠[]:=by rintro rfl;simp at k
 have r:0<ns.length:=List.length_pos_iff.mpr h;obtain⟨h1,n⟩:=argBest_lt (λi=>ns.getD i 0) (ns.length-1);have l:=List.min?_eq_some_iff.mp k;generalize argBest (λi j=>decide (ns.getD i 0<ns.getD j 0)) (ns.length-1)=j at*;have o:j<ns.length:=by omega
 have f:ns.getD j 0∈ns:=by simp[List.getD,o]
 obtain⟨q,p,e⟩:=List.getElem_of_mem l.1;have g:=n q (by omega);simp only[List.getD,List.getElem?_eq_getElem p,Option.getD_some]at g;rw[e]at g;have s:=l.2 _ f;have g:ns.getD j 0<=m:=g;omega
theorem PJ(hc:X.calm=true):cR X (.builtin "min") (Lg X.K λx=>blt .Gy [x]):=by
 rintro j s σ H xs l Q I r⟨x,z,F,d,r',sm,A,he,k⟩;obtain⟨ns,B,he⟩:=bJ (show((items d).bind λn=>n.mapM fG).bind _=some r' from he);obtain⟨m,o,he⟩:=map_some he;subst he;obtain⟨n,C,E⟩:=bJ B;obtain⟨p,ys,rfl,G,q⟩:=A.items sm C;rw[nC E]at q;have J:=iC q;subst z;obtain⟨u,rfl,L⟩:=r.one;cases L;refine call_min_walk (walked I hc G λit l w St h W h0 M kp=>?_);subst J;have f:l.toArray.size=ns.length:=by rw[size_toArray,<-h.length,length_map]
 have g:0<ns.length:=by cases ns with|nil=>simp at o|cons _ _=>simp
 refine⟨it,_,_,_,_,St,_,rfl,W,h0,M,by rw[f];exact g,CmpOf.ints_lt (λi=>ns.getD i 0) (λi v e=>rM h e),λv h' N y O=>?_⟩;rw[f]at y;obtain⟨t,rfl⟩:=rM h y;rw[DW o];exact⟨.int _,H,kp h' N O,⟨t,rfl⟩,bH.bZ sm (bA _) k⟩
theorem boot_sum:bootBuiltins "sum"=some (.builtin "sum"):=by decide+kernel
theorem Py{x:Str}{e:Pos}(f:x="sum")(hc:X.calm=true)(g:Gl X x)(i:X.mg x=none)(j:SX X c a pa)(hs:starEach [a] X.env=(false,eval a X.env)::starEach [] X.env:=by rfl):SX X c (.Call (.Name x e) [a] [] pos) (.blt .sum [pa]):=by subst f;exact nj (λh=>dq (U7 hc) g i boot_sum h (he:=hs)) j (λρ=>rfl) rfl hs
theorem JQ{x:Str}{e:Pos}(f:x="min")(hc:X.calm=true)(g:Gl X x)(i:X.mg x=none)(j:SX X c a pa)(hs:starEach [a] X.env=(false,eval a X.env)::starEach [] X.env:=by rfl):SX X c (.Call (.Name x e) [a] [] pos) (.blt .Gy [pa]):=by subst f;exact nj (λh=>dq (PJ hc) g i boot_min h (he:=hs)) j (λρ=>rfl) rfl hs
end
end HH
end
section
namespace HH
open PySem
section
variable{i j:Int}{ds es:List D}{d:D}{b b':Bool}
@[simp]theorem Yq:pM .shl=Gf:=rfl
@[simp]theorem WN:pM .shr=DX:=rfl
@[simp]theorem Vr:pM .band=xT:=rfl
@[simp]theorem Rb:Gf (.int i) (.int j)=if 0<=j/\j<=1000/\i.natAbs<18446744073709551616 then some (.val (.int (i*2^j.toNat)))else none:=rfl
@[simp]theorem Q6:DX (.int i) (.int j)=if 0<=j then some (.val (.int (i/2^j.toNat)))else none:=rfl
@[simp]theorem PN:xT (.int i) (.int j)=some (.val (.int (Builtin.bitAnd i j))):=rfl
@[simp]theorem R7:nT (.lst ds) (.int i)=if 0<=i/\0<ds.length/\ds.length*i.toNat<=lim then some (.own (replicate i.toNat ds).flatten)else none:=rfl
@[simp]theorem RJ:nT (.tup ds) (.int i)=if 0<=i/\0<ds.length/\ds.length*i.toNat<=lim then some (.val (.tup (replicate i.toNat ds).flatten))else none:=rfl
@[simp]theorem ZD:cm .isT (.bl b) (.bl true)=some b:=rfl
@[simp]theorem XC:cm .Wi (.bl b) (.bl true)=some (!b):=rfl
@[simp]theorem XN:blt .sum [.lst ds]=(ds.mapM fG).map λns=>.val (.int ns.sum):=rfl
@[simp]theorem Vi:blt .Gy [.lst ds]=(ds.mapM fG).bind λns=>ns.min?.map λi=>.val (.int i):=rfl
end
@[simp]theorem Z4:type_of%@HH.X15:=@HH.X15
theorem oV{ns:List Int}:(ns.map D.int).mapM fG=some ns:=by induction ns with|nil=>rfl|cons n ns a=>simp[a]
@[simp]theorem RM{ns:List Int}:ns.mapM (fG ∘ D.int)=some ns:=by rw[<-oV (ns:=ns),List.mapM_map]
@[simp]theorem T4{bs:List Bool}:bs.mapM (wW ∘ D.bl)=some bs:=by induction bs with|nil=>rfl|cons b bs a=>simp[a]
theorem Yg{S:List Int}{i:Int}:((S.map D.int).any λy=>jb y (.int i))=S.contains i:=by induction S with|nil=>rfl|cons s S a=>rw[map_cons,any_cons,List.contains_cons,a,pqi];rw[show(s==i)=(i==s)from Bool.eq_iff_iff.mpr ⟨λh=>by simp at h ⊢;exact h.symm,λh=>by simp at h ⊢;exact h.symm⟩]
theorem Th{S:List Int}:(S.map D.int).all flat=true:=by rw[all_eq_true];intro d hd;obtain⟨i,_,rfl⟩:=mem_map.mp hd;rfl
theorem mO{n:Nat}{S:List Int}:cC (n+1) (.lst (S.map D.int))=true:=by rw[cC,all_eq_true];intro d hd;obtain⟨i,_,rfl⟩:=mem_map.mp hd;cases n<;>rfl
theorem nJ:∀{S T:List Int},dG (S.map D.int) (T.map D.int)=(S==T)|[],[]=>by simp[dG]|[],_::_=>by simp[dG]|_::_,[]=>by simp[dG]|s::S,t::T=>by rw[map_cons,map_cons,dG,nJ,pqi];rfl
theorem WY{S T:List Int}:cm .eq (.lst (S.map D.int)) (.lst (T.map D.int))=some (S==T):=by show CZ _ _=_;unfold CZ;rw[mO,mO,Yh,nJ];rfl
theorem Xd{S T:List Int}:cm .ne (.lst (S.map D.int)) (.lst (T.map D.int))=some (!(S==T)):=by show xM _ _=_;unfold xM;rw[mO,mO,Yh,nJ];rfl
theorem Jj{a:Type}{l:List a}{x:a}:at' (l++[x]) (-1)=some x:=by
 unfold at' gw;rw[if_neg (by decide),if_pos (by simp only[length_append,List.length_singleton];omega)];have:(-1+((l++[x]).length:Int)).toNat=l.length:=by simp only[length_append,List.length_singleton];omega
 rw[this];simp
theorem gP{a:Type}{l:List a}{f:a->D}{k:Nat}{x:a}(h:l[k]?=some x):at' (l.map f) (k:Int)=some (f x):=by have b:=(dj h).1;rw[Eg (by simpa using b),getElem?_map,h];rfl
theorem Nt{n k:Nat}(h:k<n):gw n (k:Int)=some k:=by unfold gw;rw[if_pos (by omega),if_pos (by omega)];simp
theorem gR{is:List Nat}{one:Bool}{body:List Sl->Res Fl}{g:Nat->D}{N:Nat}(J:Nat->List Sl->Prop){Q:Fl->List Sl->Prop}(c:∀i ρ,i<N->J i ρ->∃a,bQ ρ is one (g i)=some a/\(body a).sat (fQ (J (i+1)) Q))(f:∀ρ,J N ρ->Q .next ρ){ρ:List Sl}(h0:J 0 ρ):(fM is one body ((List.range N).map g) ρ).sat Q:=by
 refine bW (λr ρ=>∃i,i<=N/\r=((List.range N).map g).drop i/\J i ρ) ?_ ?_ ⟨0,pG,rfl,h0⟩
 . rintro d r ρ⟨i,hi,e,j⟩;have b:i<N:=by
    rcases Nat.lt_or_ge i N with h|h;.exact h
    .rw[List.drop_eq_nil_of_le (by simpa using h)]at e;cases e
   rw[drop_eq_getElem_cons (by simpa using b)]at e;injection e with e1 e2;simp at e1;subst e1;obtain⟨a,h1,k⟩:=c i ρ b j;refine⟨a,h1,k.imp λfl l q=>?_⟩;cases fl with|next=>exact⟨i+1,b,e2,q⟩|cont=>exact⟨i+1,b,e2,q⟩|brk=>exact q|ret v=>exact q
 . rintro ρ⟨i,hi,e,j⟩;have:i=N:=by have m:=congrArg List.length e;simp at m;omega
   subst this;exact f ρ j
inductive A3(a b c:Prop):Prop where|mk(ha:a)(hb:b)(hc:c)
inductive A4(a b c d:Prop):Prop where|mk(ha:a)(hb:b)(hc:c)(hd:d)
inductive A5(a b c d e:Prop):Prop where|mk(ha:a)(hb:b)(hc:c)(hd:d)(he:e)
inductive A6(a b c d e f:Prop):Prop where|mk(ha:a)(hb:b)(hc:c)(hd:d)(he:e)(hf:f)
inductive A7(a b c d e f g:Prop):Prop where|mk(ha:a)(hb:b)(hc:c)(hd:d)(he:e)(hf:f)(hg:g)
inductive A8(a b c d e f g h:Prop):Prop where|mk(ha:a)(hb:b)(hc:c)(hd:d)(he:e)(hf:f)(hg:g)(hh:h)
inductive A9(a b c d e f g h i:Prop):Prop where|mk(ha:a)(hb:b)(hc:c)(hd:d)(he:e)(hf:f)(hg:g)(hh:h)(hi:i)
end HH
end
section
namespace HH
open PySem L2 PySem.Spec PyProof.Rows
section
variable{X:Cx}{c:Call}{n:Nat}{e a b d tg:Expr}{p pa pb pd:P}{pos:Pos}
theorem Qa{g:TG}{is:List Nat}(he:SX X c e p)(s:PG X tg g)(i:Ca X.K (λρ d=>bQ ρ is false d) g)(hs:swapsWithSole [tg] e pos.line X.env=pure false:=by rfl)(t:swappedStores [tg] e X.env=pure none:=by rfl)(h1:(assignEach [tg] X.env).map (·.2)=[assign tg X.env]:=by rfl):SS X c n (.Assign [tg] e pos) (.YB is p):=by
 refine cW (Gs he.ev s hs t h1) ?_;rintro D σ H⟨F,ρ,fl,u,w,e,k⟩;rw[HH.X7]at e;obtain⟨r,f,x,e⟩:=aa e;refine⟨F,ρ,r,f,w,x,λv F1 l s1 y=>?_⟩;obtain⟨m,s2,_,o⟩:=s1.cz y;split at e;.rename_i q hd;obtain⟨z,A,h,e⟩:=aa e;cases e;have B:=az h;clear h;obtain⟨h,C⟩:=B;rw[hd]at o;exact i v (.tup q) m f _ σ l _ s2.gs o (by show bQ f is false (.tup q)=_;cases is<;>exact h) λj s3=>k m j l (s2.trans s3)
 .cases e
end
end HH
end
section
namespace HT
open PySem PySem.Spec PyProof.Rows
section
variable{prog:Program}{w:World}{A:Around}{E:Value->Shared->Prop}{s:Shared}
theorem uH{t sl:Addr}{a:Array Value}{f g:Value}{lo hi:Option Int}{Q:Value->Shared->Prop}(ht:IsTup s.heap t a)(hs:s.heap.IsSliceOf sl f g .none)(i:IsPart f lo)(j:IsPart g hi)(h1:cF a.size 0 lo=0)(k:cF a.size a.size hi=a.size)(h:Q (.ref t) s):wpAny (model prog w) A (getItem (.ref t) (.ref sl)) Q E s:=by
 obtain⟨os,b,c,l⟩:=id hs;have m:s.TypeIs (.ref sl) "slice":=⟨os,b,c⟩;unfold getItem;try with_reducible refine wpAny_holding ?_
 first|refine wpAny_bind (wpAny_pure ?_)|skip
 refine wpAny_bind (wpAny_sequenceKey ht.typeIs (by decide) (wpAny_bind (wpAny_callSpecial?_slot (name:=Str.ofString "__getitem__") ht.typeIs slot_tuple_getitem (wpAny_call_entry slot_tuple_getitem ht.typeIs entry_tuple_getitem ?_ (args_tuple_getitem _ _)))));show wpAny _ _ (tupleItemsOf (.ref t)>>=_) _ _ s;refine wpAny_bind (tupleItemsOf_ ht (wpAny_bind (wpAny_typeOf m ?_)));rw[if_pos (by decide)];refine wpAny_bind (fK hs i j ?_);have e:((((cF a.size 0 lo:Nat):Int)==0&&(1:Int)==1&&(cF a.size a.size hi-cF a.size 0 lo)==a.size)=true):=by rw[h1,k];simp
 show wpAny _ _ (if(((cF a.size 0 lo:Nat):Int)==0&&(1:Int)==1&&(cF a.size a.size hi-cF a.size 0 lo)==a.size)=true then _ else _) _ _ s;rw[if_pos e];unfold Builtin.Tuple.tupleIsExact;refine wpAny_bind (wpAny_bind (wpAny_typeOf ht.typeIs (wpAny_pure ?_)));rw[if_pos (by decide)];exact wpAny_bind (wpAny_rule (wpAny_pure ⟨_,rfl,wpAny_pure h⟩))
end
end HT
namespace HH
open PySem L2 PySem.Spec PyProof.Rows
noncomputable def Zh:Expr->Bool|.Starred _ _=>false|_=>true
theorem jV{e:Expr}{es:List Expr}{env:Env}(h:Zh e=true):starEach (e::es) env=(false,eval e env)::starEach es env:=by cases e with|Starred a b=>cases h|_=>rw[starEach];(intro e p z;cases z)
theorem sE{n d:Nat}{o:Option Int}:HT.cF n d o=HH.cF n d o:=by cases o with|none=>rfl|some v=>
   show(if v<0 then(v+(n:Int)).toNat else min v.toNat n)=(if 0<=v then min v.toNat n else(v+n).toNat);by_cases h:0<=v;.rw[if_pos h,if_neg (by omega)]
   .rw[if_neg h,if_pos (by omega)]
theorem Gu{xs:List V}{lo hi:Option Int}:vz xs lo hi=HH.cut xs lo hi:=by unfold vz HH.cut;rw[sE,sE]
theorem au.cut{K:PySem.W.Frag}{F:Hp}{a:List D}{vs:List V}{lo hi:Option Int}(h:au K F vs a):au K F (HH.cut vs lo hi) (HH.cut a lo hi):=by unfold HH.cut;rw[h.length];exact(h.drop _).take _
section
variable{X:Cx}{c:Call}{n:Nat}{e a b:Expr}{p pa pb pl ph:P}{pos p2:Pos}{lo hi:Option Expr}
def aaG(K:PySem.W.Frag):V->Option Int->Option Int->Hp->VK->Prop:=λx lo hi H Q=>∃F d r,aD F H/\cP K F H x d/\J8 d (some lo) (some hi)=some r/\∀v g f,Ext F H g f->bH K g f H v r->Q v f
theorem Tc:Yj X (aaG X.K):=by rintro f s σ H x v u w lo hi sl Q I l hs pl m⟨F,d,r,sm,y,he,k⟩;cases d with|lst o=>cases he;obtain⟨a,xs,rfl,j,h⟩:=y.lst sm;refine Hc f s σ H _ v u w lo hi sl Q I l hs pl m ⟨a,xs,rfl,j,λp q=>?_⟩;rw[Gu];exact xK sm h.cut q k|tup o=>
   cases he;obtain⟨a,xs,rfl,j,h,rt⟩:=y.tup sm;by_cases i:HT.cF xs.length 0 lo=0/\HT.cF xs.length xs.length hi=xs.length
   . cases l;obtain⟨t,z,ht,hz⟩:=I.tuple j;have g:t.toArray.size=xs.length:=by rw[size_toArray];exact z.length.symm
     refine⟨"tuple",_,slot_tuple_getitem.lookup,ht.typeIs,HT.uH ht hs pl m (by rw[g];exact i.1) (by rw[g];exact i.2) ⟨.ref a,H,I,rfl,?_⟩⟩;have hc:HH.cut o lo hi=o:=by unfold HH.cut;rw[<-h.length,<-sE,<-sE,i.1,i.2];simp[h.length]
     rw[hc]at k;exact bH.bZ sm rt k
   .refine Nz f s σ H _ v u w lo hi sl Q I l hs pl m ⟨a,xs,rfl,j,i,λp q=>?_⟩;rw[Gu];exact Ac sm h.cut q k|_=>cases he
def SO(X:Cx)(c:Call)(o:Option Expr)(p:P):Prop:=∃t,PO X o t/\∀{σ:L2.St}{H F:Hp}{ρ f:List Sl}{d:D}{i:Option Int}{Q:Option Int->Hp->Prop},GS X.K F ρ σ H->bF (isVar p) (HH.ev c p) ρ=.ok d f->part p d=some i->(∀h g,aq X.K F ρ σ H h f σ g->Q i g)->t σ H Q
theorem zj:SO X c none (.con .non):=by refine⟨_,JF,λ{σ H F ρ f d i Q}g e h k=>?_⟩;cases(show some none=some i from h);have j:(HH.ev c (.con .non) ρ).bind (λr ρ=>.ok r.d ρ)=.ok d f:=e;clear e;rw[HH.E2]at j;cases j;exact k F H (.refl g)
theorem yj(h:SX X c e p)(l:Tw p=false:=by rfl):SO X c (some e) p:=by obtain⟨t,h1,m⟩:=h.bF;refine⟨_,JL h1,λ{σ H F ρ o d i Q}g e f k=>?_⟩;unfold part at f;rw[l,if_neg (by decide)]at f;obtain⟨j,q,r⟩:=map_some f;cases bO q;subst r;exact m g e λv u w s x=>⟨j,x.int,k u w s⟩
theorem uK{d:D}{x y:Option (Option Int)}{r:R}(h:J8 d x y=some r):∃lo hi,x=some lo/\y=some hi:=by cases x with|none=>cases d<;>cases h|some lo=>cases y with|none=>cases d<;>cases h|some hi=>exact⟨lo,hi,rfl,rfl⟩
theorem vI(Z:SX X c a pa)(hl:SO X c lo pl)(hh:SO X c hi ph):SX X c (.Subscript a (.Slice lo hi none p2) pos) (.slice pa pl ph):=by obtain⟨tl,l1,l2⟩:=hl;obtain⟨th,h1,h2⟩:=hh;cases hv:isVar pa with|none=>refine⟨cY (uw Tc Z.ev l1 h1) ?_,λi h=>by cases h⟩;rintro σ H Q⟨F,ρ,r,A,g,e,k⟩;rw[HH.E13,hv]at e;obtain⟨x,B,f,j⟩:=aa e;clear e;have Wo:(HH.ev c pa ρ).bind (λr ρ=>.ok r.d ρ)=.ok x B:=f;clear f;obtain⟨rx,ae,e1,C⟩:=aa Wo;clear Wo;cases C;obtain⟨y,E,G,l⟩:=aa j;clear j;obtain⟨z,I,J,m⟩:=aa l;clear l;obtain⟨e,L⟩:=az m;clear m;subst L;obtain⟨M,N,o,q⟩:=uK e;rw[o,q]at e;refine⟨F,ρ,rx,_,g,e1,λv F1 H1 s1 rr=>?_⟩;obtain⟨F2,s2,_,rp⟩:=s1.cz rr;refine l2 s2.gs G o λF3 H3 s3=>h2 s3.gs J q λO H4 s4=>?_;have s5:=s2.trans (s3.trans s4);refine⟨O,_,r,s4.gs.sub,.inl ((rp.mono s3.cu).mono s4.cu),e,λv U W x Y=>?_⟩;exact k v U W (s5.trans (x.stp s5.gs)) (.later s5 (Y.pq s5.gs))|some i=>refine⟨cY (uw Tc (Z.var i hv) l1 h1) ?_,λi h=>by cases h⟩;rintro σ H Q⟨F,ρ,r,A,g,e,k⟩;rw[HH.E13,hv]at e;obtain⟨x0,af,s,j⟩:=aa e;clear e;obtain⟨C,BJ⟩:=az s;clear s;subst BJ;obtain⟨y,E,G,l⟩:=aa j;clear j;obtain⟨z,I,J,m⟩:=aa l;clear l;obtain⟨x,ag,t,ed⟩:=aa m;clear m;obtain⟨e5,e6⟩:=az t;clear t;subst e6;obtain⟨e,L⟩:=az ed;clear ed;subst L;obtain⟨M,N,o,q⟩:=uK e;rw[o,q]at e;obtain⟨v,u,_⟩:=g.pk C;refine⟨v,u,l2 g G o λF3 H3 s3=>h2 s3.gs J q λO H4 s4=>?_⟩;have s5:=s3.trans s4;obtain⟨v',w,pv⟩:=s5.gs.pk e5;rw[u]at w;cases w;refine⟨O,_,r,s4.gs.sub,pv,e,λv U W x Y=>?_⟩;exact k v U W (s5.trans (x.stp s5.gs)) (.later s5 (Y.pq s5.gs))
theorem Ip:WX X .Add (Zz λi j=>if false then i-j else i+j):=Qj
end
end HH
end
section
namespace L2
open PySem PySem.Spec PyProof.Rows
section
variable{X:Cx}{tg:Expr}
theorem vH:bootBuiltins "tuple"=some (.type "tuple"):=by decide+kernel
theorem nM:bootBuiltins "reversed"=some (.type "reversed"):=by decide+kernel
end
end L2
namespace HH
open PySem L2 PySem.Spec PyProof.Rows
section
variable{K:PySem.W.Frag}{F F1 H H1:Hp}{ρ ρ1:List Sl}{σ:L2.St}{ds:List D}{a:Addr}
theorem au.rev:∀{ds:List D}{xs:List V},au K F xs ds->au K F xs.reverse ds.reverse|[],_,h=>by rw[h.dX];exact .nil|d::ds,_,h=>by obtain⟨v,r,rfl,h1,b⟩:=h.bK;rw[reverse_cons,reverse_cons];exact(au.rev b).append (.cons h1 .nil)
end
end HH
end
section
namespace PySem
namespace F
theorem Ce:typeLookup (.type "list_reverseiterator") "__len__"=pure none:=by rw[typeLookup_type,builtinLookup_eq_fast];kernel_rfl
theorem Hz:typeLookup (.type "list_reverseiterator") "__length_hint__"=pure (some (.builtin "list_reverseiterator.__length_hint__")):=by rw[typeLookup_type,builtinLookup_eq_fast];kernel_rfl
end F
section
variable{prog:Program}{w:World}{A:Around}{E:Value->Shared->Prop}{s:Shared}
theorem my{it l:Addr}{items:Array Value}{Q:Bool->Shared->Prop}(e:s.heap.IsRevIter it l ((items.size:Int)-1))(m:s.heap.IsList l items)(i:items.size<=2^24)(h:∀b j,s.toks<=j->Q b {s with toks:=j}):wpAny (model prog w) A (listLengthHint (.ref it)) Q E s:=by
 have f:=e.typeIs;unfold listLengthHint;refine wpAny_bind (wpAny_specialOf f F.Ce ?_);show wpAny _ _ (specialOf (Value.ref it) (Str.ofString "__length_hint__")>>=_) _ _ _;refine wpAny_bind (wpAny_specialOf f F.Hz ?_);generalize a:("list_reverseiterator.__length_hint__":String)=c;(fail_if_success(clear a c));wp_delta;rw[show splitId c=some ("list_reverseiterator","__length_hint__")from by subst a;decide+kernel];subst a;refine wpAny_bind (wpAny_isInstance (b:=true) f (by rw[isSubtype_type];kernel_rfl) ?_);rw[if_neg (by decide)];dsimp only;split;.refine wpAny_ite_split (λg=>absurd g (by decide+kernel)) (λ_=>?_);exact wpAny_pure (h _ s.toks (bN))
 .rename_i k;exact absurd (by decide+kernel) k
theorem km{R:Result->Shared->Prop}{I l:Addr}{items:Array Value}(Q:A.handled=none)(j:s.heap.IsRevIter I l ((items.size:Int)-1))(G:s.heap.IsList l items)(H:l≠I)(u:items.size<=2^24)(S:Addr)(m:S≠I)(x:S≠l)(res:Value)(k:Nat)(J:s.heap.get? S=some {cls:=.type "list",data:=.seq #[] k})(U:∀ h' y a t,(∀ b o,b ≠ S->b ≠ I->s.heap.get? b=some o->h'.get? b=some o)->h'.get? S=some {cls:=.type "list",dict:=none,data:=.seq a t,slots:=#[]}->ItemsOf (λi v=>items[items.size-1-i]?=some v) a items.size->R (.ok (.ret res)) {s with heap:=h',toks:=y}):wpAny (model prog w) A.in1 (listExtendWith (.ref S) (.ref I) res) (λfin n=>match fin with|.done f=>R (.ok f) n|.again t=>t.quiet=true/\codeAny (model prog w) A t R n) (λe n=>R (.error e) n) s:=by
 have L:S∉[I,l]:=λhm=>by
  rcases mem_cons.mp hm with e|hm;.exact m e
  .exact x (mem_singleton.mp hm)
 have W:=(Walks.listRev (prog:=prog) (w:=w) (A:=A.in1) Q I l H items).toS;have X:s.TypeIs (.ref I) "list_reverseiterator":=j.typeIs;have key:∀(h:Heap)(c y:Nat),h.IsRevIter I l ((items.size:Int)-1-((0:Nat):Int))->h.IsList l items->(∀b o,b≠S->s.heap.get? b=some o->h.get? b=some o)->h.get? S=some {cls:=.type "list",data:=.seq #[] c}->codeAny (model prog w) A (.builtin "list.extend.loop" ⟨[.ref S,.ref I,res],[]⟩) R {s with heap:=h,toks:=y}:=by
  intro h c y hi M Y p;refine codeAny_extend_loopS W (by rw[sizeLine_eq];omega) S L res items.size 0 _ #[] c rfl (pG) ⟨pG,hi,M⟩ p (ItemsOf.nil _) λn a t hm N z=>?_;rw[Moved.eq_with hm];refine U n.heap n.toks a t (λb o B O e=>hm.heap b o (λhmem=>?_) (Y b o B e)) N z;rcases mem_cons.mp hmem with Z|hmem;.exact B Z
  .exact O (mem_singleton.mp hmem)
 unfold listExtendWith;refine wpAny_bind (wpAny_typeOf X ?_);have h1:listSameRef (.ref S) (.ref I)=false:=by simp[listSameRef,m]
 have h2:(Value.type "list_reverseiterator"==Value.type "list")=false:=by decide
 have h3:(Value.type "list_reverseiterator"==Value.type "tuple")=false:=by decide
 simp only[h1,h2,h3,Bool.or_false,false_eq_true,if_false];refine wpAny_bind (wpAny_pyIter_revIter j ?_);refine wpAny_bind (wpAny_holding (my j G u λbb y ae=>?_));have C:s.heap.IsRevIter I l ((items.size:Int)-1-((0:Nat):Int)):=by simpa using j
 refine wpAny_ite_split (λ_=>?_) (λ_=>wpAny_pure ⟨plainId_quiet F.plain_extend_loop _,key _ k _ C G (λb o _ e=>e) J⟩);refine wpAny_bind (wpAny_rule ?_);refine wpAny_bind ?_;show wpAny _ _ (updateSeq S (·.push .none)>>=λ_=>updateSeq S (·.pop)) _ _ _;refine wpAny_bind (wpAny_updateSeq J rfl ?_);have g:=Heap.get?_update_self (Obj.mapSeq (·.push Value.none)) J rfl;refine wpAny_updateSeq (hz:=by seq_fits) g rfl ?_;have q:=Heap.get?_update_self (Obj.mapSeq (·.pop)) g rfl;have r:∀b o,b≠S->s.heap.get? b=some o->((s.heap.update S (Obj.mapSeq (·.push Value.none))).update S (Obj.mapSeq (·.pop))).get? b=some o:=λb o B e=>(get?_update_other _ _ (Ne.symm B)).trans ((get?_update_other _ _ (Ne.symm B)).trans e);exact wpAny_pure ⟨plainId_quiet F.plain_extend_loop _,key _ _ _ (C.at λo e=>r I o (Ne.symm m) e) (G.at λo e=>r l o (Ne.symm x) e) r q⟩
end
end PySem
namespace L2
open PySem PySem.Spec PyProof.Rows
end L2
namespace HH
open PySem L2 PySem.Spec PyProof.Rows
end HH
end
section
namespace HH
open PySem
theorem jM:∀a b:List Int,aN a b=true->aN b a=false
 |[],[],h=>by simp[aN]at h|[],_::_,_=>by simp[aN]|_::_,[],h=>by simp[aN]at h|x::a,y::b,h=>by
   simp only[aN,or_eq_true,decide_eq_true_eq,and_eq_true]at h;simp only[aN,Bool.or_eq_false_iff,decide_eq_false_iff_not,Bool.and_eq_false_iff];rcases h with h|⟨h,h'⟩;.exact⟨by omega,.inl (by omega)⟩
   .exact⟨by omega,.inr (jM a b h')⟩
theorem xN:∀a b c:List Int,aN b a=false->aN c b=false->aN c a=false
 |[],_,c,_,_=>by cases c<;>simp[aN]|_::_,[],_,h,_=>by simp[aN]at h|_::_,_::_,[],_,h=>by simp[aN]at h|x::a,y::b,z::c,h1,f=>by
   simp only[aN,Bool.or_eq_false_iff,decide_eq_false_iff_not,Bool.and_eq_false_iff]at h1 f ⊢;refine⟨by omega,?_⟩;by_cases e:z=x;.right;exact xN a b c (h1.2.resolve_left (by omega)) (f.2.resolve_left (by omega))
   .exact .inl e
theorem uV:∀a b:List Int,aN a b=false->aN b a=false->a=b
 |[],[],_,_=>rfl|[],_::_,h,_=>by simp[aN]at h|_::_,[],_,h=>by simp[aN]at h|x::a,y::b,h1,c=>by
   simp only[aN,Bool.or_eq_false_iff,decide_eq_false_iff_not,Bool.and_eq_false_iff]at h1 c;have e:x=y:=by omega
   subst e;rw[uV a b (h1.2.resolve_left (by simp)) (c.2.resolve_left (by simp))]
theorem vp:∀{xs ys:List D},xs.all eX=true->ys.all eX=true->xs.map pO=ys.map pO->xs=ys
 |[],[],_,_,_=>rfl|[],_::_,_,_,h=>by simp at h|_::_,[],_,_,h=>by simp at h|x::xs,y::ys,h1,a,h=>by
   simp only[all_cons,and_eq_true]at h1 a;simp only[map_cons,List.cons.injEq]at h;obtain⟨i,rfl⟩:∃i,x=.int i:=by cases x<;>first|exact⟨_,rfl⟩|(have q:=h1.1;simp[eX]at q;done)
   obtain⟨j,rfl⟩:∃j,y=.int j:=by cases y<;>first|exact⟨_,rfl⟩|(have q:=a.1;simp[eX]at q;done)
   rw[vp h1.2 a.2 h.2,show i=j from h.1]
theorem yQ{x y:D}(h:(eX x=true/\eX y=true)\/(rF x=true/\rF y=true))(e:bR x=bR y):x=y:=by
 rcases h with⟨h1,a⟩|⟨h1,a⟩
 . cases x<;>first|(simp[eX]at h1;done)|skip
   cases y<;>first|(simp[eX]at a;done)|skip
   simpa[bR]using e
 . cases x<;>first|(simp[rF]at h1;done)|skip
   cases y<;>first|(simp[rF]at a;done)|skip
   rename_i xs ys;cases xs<;>first|(simp[rF]at h1;done)|skip
   cases ys<;>first|(simp[rF]at a;done)|skip
   rw[vp h1 a e]
noncomputable def mz(a b:D):Bool:=!aN (bR b) (bR a)
theorem o7(a:List D):(m9 a).Perm a:=List.mergeSort_perm ..
theorem Jf(a b c:D)(h1:mz a b=true)(e:mz b c=true):mz a c=true:=by simp only[mz,not_eq_true']at*;exact xN _ _ _ h1 e
theorem FZ(a b:D):(mz a b||mz b a)=true:=by simp only[mz,or_eq_true,not_eq_true'];cases h:aN (bR b) (bR a)with|false=>exact .inl rfl|true=>exact .inr (jM _ _ h)
theorem nH(c:List D):(m9 c).Pairwise λa b=>mz a b=true:=List.pairwise_mergeSort Jf FZ c
theorem sX{a:List D}(h:sortable a=true):∀x∈a,∀y∈a,bR x=bR y->x=y:=by
 simp only[sortable,and_eq_true,or_eq_true,all_eq_true]at h;intro x b y c e;rcases h.2 with h|h;.exact yQ (.inl ⟨h x b,h y c⟩) e
 .exact yQ (.inr ⟨h x b,h y c⟩) e
theorem nG{c l:List D}(h:sortable c=true)(p:l.Perm c)(s:l.Pairwise λa b=>mz a b=true):l=m9 c:=by refine List.Perm.eq_of_pairwise (le:=λa b=>mz a b=true) (λa b f g h1 e=>?_) s (nH c) (p.trans (o7 c).symm);simp only[mz,not_eq_true']at h1 e;exact sX h a (p.mem_iff.mp f) b ((o7 c).mem_iff.mp g) (uV _ _ e h1)
end HH
end
section
namespace HH
open PySem PyProof.Rows
variable{xs a b ys x0:Array Keyed}{i n lo hi j ia ib na nb u:Nat}{k x:Keyed}{st':SortSt}
noncomputable abbrev SM:=StateT SortSt Sem
noncomputable def gal:Bool->Keyed->Array Keyed->Nat->Nat->Nat->SM (Option Nat):=sortPriv%PySem.Builtin.gallop
noncomputable def Qs(l:Bool)(k:Keyed)(xs:Array Keyed)(b i:Nat):SM (Option Bool):=elem' xs (b+i)>>=λx=>if l=true then lt' x k else lt' k x>>=λo=>pure (o.map λx=>!x)
noncomputable def CK(l:Bool)(k:Keyed)(xs:Array Keyed)(b n lo hi:Nat):SM (Option Nat):=(forIn [0:n] ((none,lo,hi):Option (Option Nat)× Nat × Nat) λ_ c=>if c.2.1 ≥ c.2.2 then pure (.done (none,c.2.1,c.2.2))else Qs l k xs b (c.2.1+(c.2.2-c.2.1)/2)>>=λo=>match o with|some m=>if m=true then pure (.yield (none,c.2.1+(c.2.2-c.2.1)/2+1,c.2.2))else pure (.yield (none,c.2.1,c.2.1+(c.2.2-c.2.1)/2))|_=>pure (.done (some none,c.2.1,c.2.2)))>>=λc=>match c.1 with|some r=>pure r|none=>pure (some c.2.2)
theorem Qo(l:Bool)(k:Keyed)(xs:Array Keyed)(b n h:Nat):gal l k xs b n h=Qs l k xs b h>>=λo=>match o with
 |some r=>if r=true then(forIn [0:n] ((none,0,1):Option (Option Nat)× Nat × Nat) λ_ c=>if c.2.2 ≥ n-h then pure (.done (none,c.2.1,c.2.2))else Qs l k xs b (h+c.2.2)>>=λo=>match o with|some m=>if(!m)=true then pure (.done (none,c.2.1,c.2.2))else pure (.yield (none,c.2.2,2*c.2.2+1))|_=>pure (.done (some none,c.2.1,c.2.2)))>>=λc=>match c.1 with|some r=>pure r|none=>CK l k xs b n (h+c.2.1+1) (h+min c.2.2 (n-h))else(forIn [0:n] ((none,0,1):Option (Option Nat)× Nat × Nat) λ_ c=>if c.2.2 ≥ h+1 then pure (.done (none,c.2.1,c.2.2))else Qs l k xs b (h-c.2.2)>>=λo=>match o with|some m=>if m=true then pure (.done (none,c.2.1,c.2.2))else pure (.yield (none,c.2.2,2*c.2.2+1))|_=>pure (.done (some none,c.2.1,c.2.2)))>>=λc=>match c.1 with|some r=>pure r|none=>CK l k xs b n (h+1-min c.2.2 (h+1)) (h-c.2.1)
 |_=>pure none:=by unfold CK;show Qs l k xs b h>>=_=_;congr 1;funext o;cases o with|none=>rfl|some r=>dsimp only;cases r with
   |true=>simp only[if_true];congr 1;funext c;obtain⟨c1,c2,c3⟩:=c;cases c1 with|some r=>rfl|none=>dsimp only;congr 1;funext c;obtain⟨c1,c2,c3⟩:=c;cases c1<;>rfl
   |false=>simp only[false_eq_true,if_false];congr 1;funext c;obtain⟨c1,c2,c3⟩:=c;cases c1 with|some r=>rfl|none=>dsimp only;congr 1;funext c;obtain⟨c1,c2,c3⟩:=c;cases c1<;>rfl
structure Rk(M:Model)(A:Around)(E:Value->Shared->Prop)(s:Shared)(κ:SortKind)(ok:Keyed->Prop)(K:Keyed->Int):Prop where lt:∀{x y:Keyed}{Q:Option Bool->SortSt->Prop}{st:SortSt},ok x->ok y->kindOf st=κ->Q (some (decide (K x<K y))) st->wpS M A E s (lt' x y) Q st
section
variable{M:Model}{A:Around}{E:Value->Shared->Prop}{s:Shared}{κ:SortKind}{ok:Keyed->Prop}{K:Keyed->Int}
noncomputable def it(xs:Array Keyed)(i:Nat):Keyed:=xs.getD i (Value.none,Value.none)
theorem sW(h:i<xs.size):xs[i]?=some (it xs i):=by unfold it;simp[Array.getD,h]
theorem cL(h:i<xs.size):it xs i∈xs.toList:=by
 have:it xs i=xs[i]:=by unfold it;simp[Array.getD,h]
 rw[this];simp
theorem aQ{Q:Keyed->SortSt->Prop}{st:SortSt}(h:i<xs.size)(q:Q (it xs i) st):wpS M A E s (elem' xs i) Q st:=by rw[elem'_eq,sW h];exact wpS_pure q
noncomputable def bb(K:Keyed->Int)(l:Bool)(k x:Keyed):Bool:=if l=true then decide (K x<K k)else !decide (K k<K x)
theorem rP(R:Rk M A E s κ ok K){l:Bool}{b:Nat}{Q:Option Bool->SortSt->Prop}{st:SortSt}(c:ok k)(e:∀x∈xs.toList,ok x)(hi:b+i<xs.size)(hs:kindOf st=κ)(q:Q (some (bb K l k (it xs (b+i)))) st):wpS M A E s (Qs l k xs b i) Q st:=by unfold Qs;refine wpS_bind (aQ hi ?_);have ho:=e _ (cL hi);cases l with|true=>exact R.lt ho c hs q|false=>exact wpS_bind (R.lt c ho hs (wpS_pure q))
def IK(K:Keyed->Int)(l:Bool)(k:Keyed)(xs:Array Keyed)(b n:Nat):Prop:=∀i j,i<=j->j<n->bb K l k (it xs (b+j))=true->bb K l k (it xs (b+i))=true
theorem zM(R:Rk M A E s κ ok K){l:Bool}{b:Nat}{Q:Option Nat->SortSt->Prop}{st:SortSt}(r:ok k)(t:∀x∈xs.toList,ok x)(G:b+n<=xs.size)(hs:kindOf st=κ)(hc:IK K l k xs b n)(h1:lo<=hi)(v:hi<=n)(w:∀i,i<lo->bb K l k (it xs (b+i))=true)(y:∀i,hi<=i->i<n->bb K l k (it xs (b+i))=false)(q:∀m,m<=n->(∀i,i<m->bb K l k (it xs (b+i))=true)->(∀i,m<=i->i<n->bb K l k (it xs (b+i))=false)->Q (some m) st):wpS M A E s (CK l k xs b n lo hi) Q st:=by
 unfold CK;refine wpS_bind (wpS_mono (wpS_forRange (I:=λx c st'=>st'=st/\∃lo hi,c=(none,lo,hi)/\lo<=hi/\hi<=n/\hi-lo<=n-x/\(∀i,i<lo->bb K l k (it xs (b+i))=true)/\∀i,hi<=i->i<n->bb K l k (it xs (b+i))=false) (Q:=λc st'=>st'=st/\∃m,c=(none,m,m)/\m<=n/\(∀i,i<m->bb K l k (it xs (b+i))=true)/\∀i,m<=i->i<n->bb K l k (it xs (b+i))=false) ?_ ?_ ⟨rfl,lo,hi,rfl,h1,v,by omega,w,y⟩) ?_)
 . rintro x c st' _ B⟨rfl,lo,hi,rfl,o,f,p,g,h⟩;dsimp only;by_cases e:lo ≥ hi
   . rw[if_pos e];have:lo=hi:=by omega
     subst this;exact wpS_pure ⟨rfl,lo,rfl,f,g,h⟩
   .rw[if_neg e];refine wpS_bind (rP R r t (by omega) hs ?_);cases c:bb K l k (it xs (b+(lo+(hi-lo)/2)))with|true=>dsimp only;rw[if_pos rfl];exact wpS_pure ⟨rfl,_,_,rfl,by omega,f,by omega,λi C=>hc i (lo+(hi-lo)/2) (by omega) (by omega) c,h⟩|false=>dsimp only;rw[if_neg (by simp)];refine wpS_pure ⟨rfl,_,_,rfl,by omega,by omega,by omega,g,λi i1 i2=>?_⟩;cases z:bb K l k (it xs (b+i))with|false=>rfl|true=>have:=hc (lo+(hi-lo)/2) i i1 i2 z;rw[c]at this;cases this
 . rintro c st'⟨rfl,lo,hi,rfl,o,f,p,g,h⟩;have:lo=hi:=by omega
   subst this;exact⟨rfl,lo,rfl,f,g,h⟩
 .rintro c st'⟨rfl,m,rfl,o,f,p⟩;exact wpS_pure (q m o f p)
theorem lD(R:Rk M A E s κ ok K){l:Bool}{b h:Nat}{Q:Option Nat->SortSt->Prop}{st:SortSt}(r:ok k)(t:∀x∈xs.toList,ok x)(G:b+n<=xs.size)(N:h<n)(hs:kindOf st=κ)(hc:IK K l k xs b n)(q:∀m,m<=n->(∀i,i<m->bb K l k (it xs (b+i))=true)->(∀i,m<=i->i<n->bb K l k (it xs (b+i))=false)->Q (some m) st):wpS M A E s (gal l k xs b n h) Q st:=by
 have H:∀{i:Nat},i<n->bb K l k (it xs (b+i))=true->∀j,j<=i->bb K l k (it xs (b+j))=true:=λhi c j J=>hc _ _ J hi c;have dn:∀{i:Nat},bb K l k (it xs (b+i))=false->∀j,i<=j->j<n->bb K l k (it xs (b+j))=false:=λ{i}c j h1 v=>by cases z:bb K l k (it xs (b+j))with|false=>rfl|true=>have:=hc i j h1 v z;rw[c]at this;cases this
 rw[Qo];refine wpS_bind (rP R r t (by omega) hs ?_);cases c0:bb K l k (it xs (b+h))with
 |true=>
   dsimp only;rw[if_pos rfl];refine wpS_bind (wpS_mono (wpS_forRange (I:=λx c st'=>st'=st/\∃a o,c=(none,a,o)/\x+1<=o/\a<o/\h+a<n/\bb K l k (it xs (b+(h+a)))=true) (Q:=λc st'=>st'=st/\∃a o,c=(none,a,o)/\a<o/\h+a<n/\bb K l k (it xs (b+(h+a)))=true/\(n-h<=o\/o<n-h/\bb K l k (it xs (b+(h+o)))=false)) ?_ ?_ ⟨rfl,0,1,rfl,by omega,by omega,by omega,by simpa using c0⟩) ?_)
   . rintro x c st' _ w⟨rfl,a,o,rfl,y,p,g,f⟩;dsimp only;by_cases e:o ≥ n-h;.rw[if_pos e];exact wpS_pure ⟨rfl,a,o,rfl,p,g,f,.inl e⟩
     .rw[if_neg e];refine wpS_bind (rP R r t (by omega) hs ?_);cases c:bb K l k (it xs (b+(h+o)))with|true=>dsimp only;rw[if_neg (by simp)];exact wpS_pure ⟨rfl,_,_,rfl,by omega,by omega,by omega,c⟩|false=>dsimp only;rw[if_pos (by simp)];exact wpS_pure ⟨rfl,a,o,rfl,p,g,f,.inr ⟨by omega,c⟩⟩
   .rintro c st'⟨rfl,a,o,rfl,y,p,g,f⟩;exact⟨rfl,a,o,rfl,p,g,f,.inl (by omega)⟩
   . rintro c st'⟨rfl,a,o,rfl,p,g,f,B⟩;dsimp only;refine zM R r t G hs hc (by omega) (by omega) (λi hi=>H g f i (by omega)) (λi h1 v=>?_) q;rcases B with z|⟨L,C⟩;.omega
     .exact dn C i (by omega) v|false=>
   dsimp only;rw[if_neg (by simp)];refine wpS_bind (wpS_mono (wpS_forRange (I:=λx c st'=>st'=st/\∃a o,c=(none,a,o)/\x+1<=o/\a<o/\a<=h/\bb K l k (it xs (b+(h-a)))=false) (Q:=λc st'=>st'=st/\∃a o,c=(none,a,o)/\a<o/\a<=h/\bb K l k (it xs (b+(h-a)))=false/\(h+1<=o\/o<h+1/\bb K l k (it xs (b+(h-o)))=true)) ?_ ?_ ⟨rfl,0,1,rfl,by omega,by omega,by omega,by simpa using c0⟩) ?_)
   . rintro x c st' _ w⟨rfl,a,o,rfl,y,p,g,f⟩;dsimp only;by_cases e:o ≥ h+1;.rw[if_pos e];exact wpS_pure ⟨rfl,a,o,rfl,p,g,f,.inl e⟩
     .rw[if_neg e];refine wpS_bind (rP R r t (by omega) hs ?_);cases c:bb K l k (it xs (b+(h-o)))with|false=>dsimp only;rw[if_neg (by simp)];exact wpS_pure ⟨rfl,_,_,rfl,by omega,by omega,by omega,c⟩|true=>dsimp only;rw[if_pos rfl];exact wpS_pure ⟨rfl,a,o,rfl,p,g,f,.inr ⟨by omega,c⟩⟩
   .rintro c st'⟨rfl,a,o,rfl,y,p,g,f⟩;exact⟨rfl,a,o,rfl,p,g,f,.inl (by omega)⟩
   . rintro c st'⟨rfl,a,o,rfl,p,g,f,B⟩;dsimp only;refine zM R r t G hs hc (by omega) (by omega) (λi hi=>?_) (λi h1 v=>dn f i (by omega) v) q;rcases B with z|⟨L,C⟩;.omega
     .exact H (by omega) C i (by omega)
end
section
variable{K:Keyed->Int}{T out A B P:List Keyed}{x y z:Keyed}
def SL(K:Keyed->Int)(l:List Keyed):Prop:=l.Pairwise λx y=>K x<=K y
theorem bT{l k:List Keyed}:SL K (l++k)↔SL K l/\SL K k/\∀x∈l,∀y∈k,K x<=K y:=pairwise_append
structure MW(K:Keyed->Int)(T out A B:List Keyed):Prop where
 perm:(out++(A++B)).Perm T
 sa:SL K (out++A)sb:SL K (out++B)
theorem MW.Vv(w:MW K T out (P++A) B)(h:∀x∈P,∀y∈B,K x<=K y):MW K T (out++P) A B:=by
 refine⟨by simpa using w.perm,by simpa using w.sa,?_⟩;have h1:=bT.mp w.sb;have e:=bT.mp (show SL K ((out++P)++A)by simpa using w.sa);refine bT.mpr ⟨e.1,h1.2.1,λx hx y c=>?_⟩;rcases mem_append.mp hx with hx|hx;.exact h1.2.2 x hx y c
 .exact h x hx y c
theorem MW.U9(w:MW K T out A (P++B))(h:∀x∈P,∀y∈A,K x<=K y):MW K T (out++P) A B:=by
 have h1:=bT.mp w.sa;have e:=bT.mp (show SL K ((out++P)++B)by simpa using w.sb);refine⟨?_,bT.mpr ⟨e.1,h1.2.1,λx hx y c=>?_⟩,by simpa using w.sb⟩;.refine List.Perm.trans ?_ w.perm;rw[append_assoc];refine List.Perm.append_left out ?_;rw[<-append_assoc,<-append_assoc];exact List.perm_append_comm.append_right B
 . rcases mem_append.mp hx with hx|hx;.exact h1.2.2 x hx y c
   .exact h x hx y c
theorem MW.Zj(w:MW K T out A []):(out++A).Perm T/\SL K (out++A):=⟨by simpa using w.perm,w.sa⟩
theorem MW.aaW(w:MW K T out [] B):(out++B).Perm T/\SL K (out++B):=⟨by simpa using w.perm,w.sb⟩
theorem MW.last(w:MW K T out [z] B)(h:∀y∈B,K y<=K z):(out++B++[z]).Perm T/\SL K (out++B++[z]):=by
 refine⟨?_,bT.mpr ⟨w.sb,List.pairwise_singleton _ _,λx hx y c=>?_⟩⟩;.refine List.Perm.trans ?_ w.perm;rw[append_assoc];exact List.Perm.append_left out List.perm_append_comm
 . rw[mem_singleton.mp c];rcases mem_append.mp hx with hx|hx;.exact(bT.mp w.sa).2.2 x hx z (by simp)
   .exact h x hx
theorem tH(h:i<a.size):a.toList.drop i=it a i::a.toList.drop (i+1):=by
 have e:it a i=a.toList[i]:=by unfold it;simp[Array.getD,h]
 rw[e];exact drop_eq_getElem_cons (by simpa using h)
theorem ik(h:j<=a.size):(a.extract i j).toList=(a.toList.drop i).take (j-i):=by simp[Array.toList_extract,List.extract]
theorem iW:(a.extract i a.size).toList=a.toList.drop i:=by rw[ik (bN)];exact take_of_length_le (by simp)
theorem jB{k:Nat}(h:i+k<=a.size):a.toList.drop i=(a.extract i (i+k)).toList++a.toList.drop (i+k):=by rw[ik h,Nat.add_sub_cancel_left];rw[show a.toList.drop (i+k)=(a.toList.drop i).drop k by rw[List.drop_drop]];exact(List.take_append_drop k _).symm
theorem ext_mem{k:Nat}(h:i+k<=a.size)(c:x∈(a.extract i (i+k)).toList):∃j,j<k/\x=it a (i+j):=by rw[ik h,Nat.add_sub_cancel_left]at c;obtain⟨j,f,e⟩:=List.mem_iff_getElem.mp c;simp only[length_take,length_drop,length_toList]at f;refine⟨j,by omega,?_⟩;rw[<-e];unfold it;simp[Array.getD,show i+j<a.size by omega]
theorem ie(c:x∈a.toList.drop i):∃j,i<=j/\j<a.size/\x=it a j:=by obtain⟨j,f,e⟩:=List.mem_iff_getElem.mp c;simp only[length_drop,length_toList]at f;refine⟨i+j,by omega,by omega,?_⟩;rw[<-e];unfold it;simp[Array.getD,show i+j<a.size by omega]
def tY(K:Keyed->Int)(a:Array Keyed):Prop:=∀i j,i<=j->j<a.size->K (it a i)<=K (it a j)
theorem nF(h:tY K a):SL K a.toList:=by
 unfold SL;rw[List.pairwise_iff_getElem];intro i j hi f g;have:=h i j (by omega) (by simpa using f);have c:i<a.size:=by simpa using hi
 have e:j<a.size:=by simpa using f
 unfold it at this;simpa[Array.getD,c,e]using this
end
section
variable{M:Model}{A:Around}{E:Value->Shared->Prop}{s:Shared}{κ:SortKind}{ok:Keyed->Prop}{K:Keyed->Int}
structure pH(st st':SortSt):Prop where
 kind:kindOf st'=kindOf st
 arr:arrOf st'=arrOf st
 pend:pendingOf st'=pendingOf st
 fail:failedOf st'=failedOf st
theorem pH.refl(st:SortSt):pH st st:=⟨rfl,rfl,rfl,rfl⟩
theorem pH.trans{a b c:SortSt}(h:pH a b)(k:pH b c):pH a c:=⟨k.kind.trans h.kind,k.arr.trans h.arr,k.pend.trans h.pend,k.fail.trans h.fail⟩
noncomputable def setG:Nat->SM Unit:=sortPriv%PySem.Builtin.setMinGallop
theorem mG{g:Nat}{Q:Unit->SortSt->Prop}{st:SortSt}(q:∀st',pH st st'->Q () st'):wpS M A E s (setG g) Q st:=wpS_modify (q _ ⟨rfl,rfl,rfl,rfl⟩)
theorem wp_rule{x:String}{Q:Unit->SortSt->Prop}{st:SortSt}(q:Q () st):wpS M A E s (liftM (rule x):SM Unit) Q st:=wpS_lift (wpAny_rule ⟨rfl,q⟩)
noncomputable def mlo:Array Keyed->Array Keyed->SM (Array Keyed):=sortPriv%PySem.Builtin.mergeLo
structure MI(K:Keyed->Int)(a b out:Array Keyed)(ia ib:Nat):Prop where
 i1:ia+1<a.size
 i2:ib<b.size
 w:MW K (a.toList++b.toList) out.toList (a.toList.drop ia) (b.toList.drop ib)
structure Fin(K:Keyed->Int)(a b out:Array Keyed):Prop where perm:out.toList.Perm (a.toList++b.toList)m9:SL K out.toList
theorem iU{out:Array Keyed}(h:ib=b.size)(w:MW K (a.toList++b.toList) out.toList (a.toList.drop ia) (b.toList.drop ib)):Fin K a b (out++a.extract ia a.size++b.extract ib b.size):=by
 have e:b.toList.drop ib=[]:=by rw[h];simp
 rw[e]at w;obtain⟨h1,c⟩:=w.Zj;refine⟨?_,?_⟩<;>rw[Array.toList_append,Array.toList_append,iW,iW,e,append_nil]<;>assumption
theorem Al{out:Array Keyed}(h:ia=a.size)(w:MW K (a.toList++b.toList) out.toList (a.toList.drop ia) (b.toList.drop ib)):Fin K a b (out++a.extract ia a.size++b.extract ib b.size):=by
 have e:a.toList.drop ia=[]:=by rw[h];simp
 rw[e]at w;obtain⟨h1,c⟩:=w.aaW;refine⟨?_,?_⟩<;>rw[Array.toList_append,Array.toList_append,iW,iW,e,append_nil]<;>assumption
theorem jY{out:Array Keyed}(h:ia+1=a.size)(c:∀i,i<b.size->K (it b i)<=K (it a (a.size-1)))(w:MW K (a.toList++b.toList) out.toList (a.toList.drop ia) (b.toList.drop ib)):Fin K a b (out++b.extract ib b.size++a.extract ia a.size):=by
 have e:a.toList.drop ia=[it a ia]:=by rw[tH (by omega),h];simp
 rw[e]at w;obtain⟨h1,l⟩:=w.last λy f=>by obtain⟨j,_,g,rfl⟩:=ie f;rw[show ia=a.size-1 by omega];exact c j g
 refine⟨?_,?_⟩<;>rw[Array.toList_append,Array.toList_append,iW,iW,e]<;>assumption
theorem MW.pY{out:Array Keyed}(h:ia<a.size)(w:MW K (a.toList++b.toList) out.toList (a.toList.drop ia) (b.toList.drop ib))(c:tY K b)(e:ib<b.size->K (it a ia)<=K (it b ib)):MW K (a.toList++b.toList) (out.push (it a ia)).toList (a.toList.drop (ia+1)) (b.toList.drop ib):=by rw[tH h]at w;rw[toList_push];refine MW.Vv (P:=[it a ia]) w λx f y g=>?_;rw[mem_singleton.mp f];obtain⟨j,l,m,rfl⟩:=ie g;exact Int.le_trans (e (by omega)) (c _ _ l m)
theorem MW.qp{out:Array Keyed}(h:ib<b.size)(w:MW K (a.toList++b.toList) out.toList (a.toList.drop ia) (b.toList.drop ib))(c:tY K a)(e:ia<a.size->K (it b ib)<=K (it a ia)):MW K (a.toList++b.toList) (out.push (it b ib)).toList (a.toList.drop ia) (b.toList.drop (ib+1)):=by rw[tH h]at w;rw[toList_push];refine MW.U9 (P:=[it b ib]) w λx f y g=>?_;rw[mem_singleton.mp f];obtain⟨j,l,m,rfl⟩:=ie g;exact Int.le_trans (e (by omega)) (c _ _ l m)
theorem MW.Eu{out:Array Keyed}{k:Nat}(h:ia+k<=a.size)(w:MW K (a.toList++b.toList) out.toList (a.toList.drop ia) (b.toList.drop ib))(c:tY K b)(e:∀j,j<k->ib<b.size->K (it a (ia+j))<=K (it b ib)):MW K (a.toList++b.toList) (out++a.extract ia (ia+k)).toList (a.toList.drop (ia+k)) (b.toList.drop ib):=by rw[jB h]at w;rw[Array.toList_append];refine MW.Vv w λx f y g=>?_;obtain⟨i,hi,rfl⟩:=ext_mem h f;obtain⟨j,l,m,rfl⟩:=ie g;exact Int.le_trans (e i hi (by omega)) (c _ _ l m)
theorem MW.Cq{out:Array Keyed}{k:Nat}(h:ib+k<=b.size)(w:MW K (a.toList++b.toList) out.toList (a.toList.drop ia) (b.toList.drop ib))(c:tY K a)(e:∀j,j<k->ia<a.size->K (it b (ib+j))<=K (it a ia)):MW K (a.toList++b.toList) (out++b.extract ib (ib+k)).toList (a.toList.drop ia) (b.toList.drop (ib+k)):=by rw[jB h]at w;rw[Array.toList_append];refine MW.U9 w λx f y g=>?_;obtain⟨i,hi,rfl⟩:=ext_mem h f;obtain⟨j,l,m,rfl⟩:=ie g;exact Int.le_trans (e i hi (by omega)) (c _ _ l m)
theorem rG{l:Bool}{b:Nat}(h:tY K a)(f:b+n<=a.size):IK K l k a b n:=λi j e g c=>by have:=h (b+i) (b+j) (by omega) (by omega);unfold bb at*;cases l with|true=>simp only[if_true,decide_eq_true_eq]at*;omega|false=>simp only[false_eq_true,if_false,not_eq_true',decide_eq_false_iff_not]at*;omega
end
section
variable{M:Model}{A:Around}{E:Value->Shared->Prop}{s:Shared}{κ:SortKind}{ok:Keyed->Prop}{K:Keyed->Int}
theorem Dl{e f:Type}{T:PUnit->e->SM f}{c:Prop}{d:Decidable c}{x y:e}{Q:f->SortSt->Prop}{st:SortSt}(h:∀r u,wpS M A E s (T r u) Q st):wpS M A E s (@ite _ c d (T ⟨⟩ x) (T ⟨⟩ y)) Q st:=by split<;>exact h _ _
theorem mW{e f g:Type}{T:PUnit->e->f->SM g}{c:Prop}{d:Decidable c}{B:SM g}{x:e}{y:f}{Q:g->SortSt->Prop}{st:SortSt}(C:e->f->Prop)(h:∀r u v,C u v->wpS M A E s (T r u v) Q st)(l:c->(∀r u v,C u v->wpS M A E s (T r u v) Q st)->wpS M A E s B Q st)(m:¬ c->C x y):wpS M A E s (@ite _ c d B (T ⟨⟩ x y)) Q st:=by
 split;.exact l ‹_› h
 .exact h _ _ _ (m ‹_›)
abbrev MQ{e:Type}(K:Keyed->Int)(a b:Array Keyed)(st:SortSt)(c:Option (Array Keyed)×e)(st':SortSt):Prop:=pH st st'/\∃out,c.1=some out/\Fin K a b out
abbrev MI1(K:Keyed->Int)(a b:Array Keyed)(st:SortSt)(x:Nat)(c:Option (Array Keyed)×Array Keyed×Nat×Nat×Nat)(st':SortSt):Prop:=pH st st'/\∃out ia ib mg,c=(none,out,ia,ib,mg)/\MI K a b out ia ib/\x+1<=ia+ib
abbrev MI2(K:Keyed->Int)(a b:Array Keyed)(st:SortSt)(n y:Nat)(c:Option (Array Keyed)×Array Keyed×Nat×Nat×Nat×Nat)(st':SortSt):Prop:=pH st st'/\∃out e f g h,c=(none,out,e,f,g,h)/\MI K a b out e f/\n+y<=e+f
abbrev MI3(K:Keyed->Int)(a b:Array Keyed)(st:SortSt)(n:Nat)(c:Option (Array Keyed)×Array Keyed×Nat×Nat×Nat×Nat×Nat)(st':SortSt):Prop:=pH st st'/\∃out e f mg g h,c=(none,out,e,f,mg,g,h)/\MI K a b out e f/\n+1<=e+f
abbrev MQ2(K:Keyed->Int)(a b:Array Keyed)(st:SortSt)(n:Nat)(c:Option (Array Keyed)×Array Keyed×Nat×Nat×Nat×Nat)(st':SortSt):Prop:=pH st st'/\((∃out,c.1=some out/\Fin K a b out)\/∃out e f g h,c=(none,out,e,f,g,h)/\MI K a b out e f/\n+1<=e+f)
abbrev MQ3(K:Keyed->Int)(a b:Array Keyed)(st:SortSt)(n:Nat)(c:Option (Array Keyed)×Array Keyed×Nat×Nat×Nat×Nat×Nat)(st':SortSt):Prop:=pH st st'/\((∃out,c.1=some out/\Fin K a b out)\/∃out e f mg g h,c=(none,out,e,f,mg,g,h)/\MI K a b out e f/\n+1<=e+f)
set_option maxHeartbeats 1000000 in
theorem Nu(R:Rk M A E s κ ok K){Q:Array Keyed->SortSt->Prop}{st:SortSt}(X:∀x∈a.toList,ok x)(Y:∀x∈b.toList,ok x)(hs:kindOf st=κ)(t:tY K a)(C:tY K b)(a1:1<=a.size)(b1:1<=b.size)(h0:K (it b 0)<=K (it a 0))(O:∀i,i<b.size->K (it b i)<=K (it a (a.size-1)))(q:∀out st',Fin K a b out->pH st st'->Q out st'):wpS M A E s (mlo a b) Q st:=by
 show wpS M A E s (liftM (rule "list.sort.merge-lo")>>=_) Q st;refine wpS_bind (wp_rule ?_);extract_lets+onlyGivenNames-merge-underBinder x0 x1 x2;refine wpS_bind (aQ (by omega) ?_);extract_lets+onlyGivenNames-merge-underBinder x3 x4 x5;dsimp-zeta-zetaHave only[x0,x1,x2,x3,x4,x5];have w0:MW K (a.toList++b.toList) (#[]:Array Keyed).toList (a.toList.drop 0) (b.toList.drop 0):=⟨by simp,by simpa using nF t,by simpa using nF C⟩;have U:=w0.qp (by omega) t (λ_=>h0);rw[show(#[]:Array Keyed).push (it b 0)=#[it b 0]from rfl]at U;by_cases c1:1=b.size;.rw[if_pos (by simpa using c1)];exact wpS_pure (q _ _ (iU c1 U) (.refl _))
 rw[if_neg (by simpa using c1)];by_cases c2:0+1=a.size;.rw[if_pos (by simpa using c2)];exact wpS_pure (q _ _ (jY c2 O U) (.refl _))
 rw[if_neg (by simpa using c2)];refine wpS_bind (wpS_get ?_);extract_lets+onlyGivenNames-merge-underBinder x6;refine wpS_bind (wpS_mono (wpS_forRange (I:=MI1 K a b st) (Q:=MQ K a b st) ?_ ?_ ⟨.refl _,_,0,1,_,rfl,⟨by omega,by omega,U⟩,by omega⟩) ?_)
 . rintro x c G _ hx⟨s1,out,ia,ib,mg,rfl,g,hp⟩;extract_lets+onlyGivenNames-merge-underBinder y0 y1 y2 y3 y4 y5 y6 y7 y8;dsimp-zeta-zetaHave only[x0,x1,x2,x3,x4,x5,y0,y1,y2,y3,y4,y5,y6,y7,y8];refine wpS_bind (wpS_mono (wpS_forRange (I:=MI2 K a b st (ia+ib)) (Q:=MQ2 K a b st (ia+ib)) ?_ ?_ ⟨s1,out,ia,ib,0,0,rfl,g,by omega⟩) ?_)
   . rintro y c H _ hy⟨s2,out,h,f,v,z,rfl,g,l⟩;have i1:=g.i1;have i2:=g.i2;try dsimp only
     refine wpS_bind (aQ i2 (wpS_bind (aQ (by omega) (wpS_bind (R.lt (Y _ (cL i2)) (X _ (cL (by omega))) (s2.kind.trans hs) ?_)))));by_cases c:K (it b f)<K (it a h)
     . rw[decide_eq_true c];try dsimp only
       rw[if_pos rfl];refine wpS_bind (aQ i2 ?_);try dsimp only
       have w:=g.w.qp i2 t (λ_=>by omega);by_cases e:f+1=b.size;.rw[if_pos (by simpa using e)];exact wpS_pure ⟨s2,.inl ⟨_,rfl,iU e w⟩⟩
       . rw[if_neg (by simpa using e)];have p:MI K a b (out.push (it b f)) h (f+1):=⟨i1,by omega,w⟩;split;.exact wpS_pure ⟨s2,.inr ⟨_,_,_,_,_,rfl,p,by omega⟩⟩
         .exact wpS_pure ⟨s2,_,_,_,_,_,rfl,p,by omega⟩
     . rw[decide_eq_false c];try dsimp only
       rw[if_neg (by simp)];refine wpS_bind (aQ (by omega) ?_);try dsimp only
       have w:=g.w.pY (by omega) C (λ_=>by omega);by_cases e:h+1+1=a.size;.rw[if_pos (by simpa using e)];exact wpS_pure ⟨s2,.inl ⟨_,rfl,jY e O w⟩⟩
       . rw[if_neg (by simpa using e)];have p:MI K a b (out.push (it a h)) (h+1) f:=⟨by omega,i2,w⟩;split;.exact wpS_pure ⟨s2,.inr ⟨_,_,_,_,_,rfl,p,by omega⟩⟩
         .exact wpS_pure ⟨s2,_,_,_,_,_,rfl,p,by omega⟩
   .rintro c H⟨s2,out,h,f,v,z,rfl,g,l⟩;exact⟨s2,.inr ⟨_,_,_,_,_,rfl,g,by omega⟩⟩
   . rintro c H⟨s2,⟨out,hc,J⟩|⟨out,h,f,v,z,rfl,g,l⟩⟩;.obtain⟨c1,c2,c3,c4,c5,c6⟩:=c;cases hc;exact wpS_pure ⟨s2,out,rfl,J⟩
     . extract_lets+onlyGivenNames-merge-underBinder z0 z1 z2 z3 z4 z5 z6 z7 z8 z9;dsimp-zeta-zetaHave only[z0,z1,z2,z3,z4,z5,z6,z7,z8,z9];refine wpS_bind (wp_rule ?_);extract_lets+onlyGivenNames-merge-underBinder za;refine wpS_bind (wpS_mono (wpS_forRange (I:=λ_=>MI3 K a b st (ia+ib)) (Q:=MQ3 K a b st (ia+ib)) ?_ ?_ ⟨s2,out,h,f,_,v,z,rfl,g,by omega⟩) ?_)
       . rintro y c L _ hy⟨s3,out,h,f,mg,v,z,rfl,g,l⟩;have i1:=g.i1;have i2:=g.i2;extract_lets+onlyGivenNames-merge-underBinder t0 t1 t2 t3 t4 t5 t6 t7 t8 t9 ta jp;dsimp only[t0,t1,t2,t3,t4,t5,t6,t7,t8,t9,ta];refine Dl (T:=jp) ?_;intro _ mg;dsimp-zeta-zetaHave only[jp,t0,t1,t2,t3,t4,t5,t6,t7,t8,t9,ta];refine wpS_bind (mG λHb Z=>?_);have s4:=s3.trans Z;refine wpS_bind (aQ i2 ?_);refine wpS_bind (lD R (Y _ (cL i2)) X (by omega) (by omega) (s4.kind.trans hs) (rG t (by omega)) λk k1 k2 k3=>?_);have ae:∀j,j<k->K (it a (h+j))<=K (it b f):=λj r=>by have:=k2 j r;simp[bb]at this;omega
         have SN:∀j,k<=j->j<a.size-h->K (it b f)<=K (it a (h+j)):=λj h1 h2=>by have:=k3 j h1 h2;simp[bb]at this;omega
         try dsimp-zeta-zetaHave only
         extract_lets+onlyGivenNames-merge-underBinder u0 jp2;dsimp only[u0];refine mW (T:=jp2) (x:=out) (y:=h) (λxY o=>(h<=o/\o+1<a.size)/\MW K (a.toList++b.toList) xY.toList (a.toList.drop o) (b.toList.drop f)/\K (it b f)<=K (it a o)) ?_ (λc key=>?_) (λc=>⟨⟨bN,i1⟩,g.w,SN 0 (by omega) (by omega)⟩)
         . rintro _ xY o⟨⟨j0,j1⟩,w,k4⟩;dsimp-zeta-zetaHave only[jp2,u0];refine wpS_bind (aQ i2 ?_);have w2:=w.qp i2 t λ_=>k4;extract_lets+onlyGivenNames-merge-underBinder v0 v1;dsimp-zeta-zetaHave only[v0,v1];by_cases e3:f+1=b.size;.rw[if_pos (by simpa using e3)];exact wpS_pure ⟨s4,.inl ⟨_,rfl,iU e3 w2⟩⟩
           rw[if_neg (by simpa using e3)];have j3:f+1<b.size:=by omega
           refine wpS_bind (aQ (by omega) ?_);refine wpS_bind (lD R (X _ (cL (by omega))) Y (by omega) (by omega) (s4.kind.trans hs) (rG C (by omega)) λm m1 m2 m3=>?_);have af:∀j,j<m->K (it b (f+1+j))<=K (it a o):=λj r=>by have:=m2 j r;simp[bb]at this;omega
           have N:∀j,m<=j->j<b.size-(f+1)->K (it a o)<=K (it b (f+1+j)):=λj h1 h2=>by have:=m3 j h1 h2;simp[bb]at this;omega
           try dsimp-zeta-zetaHave only
           extract_lets+onlyGivenNames-merge-underBinder v2 Wq;dsimp only[v2];refine mW (T:=Wq) (x:=xY.push (it b f)) (y:=f+1) (λxZ B=>(f+1<=B/\B<b.size)/\MW K (a.toList++b.toList) xZ.toList (a.toList.drop o) (b.toList.drop B)/\K (it a o)<=K (it b B)) ?_ (λc key=>?_) (λc=>⟨⟨bN,j3⟩,w2,N 0 (by omega) (by omega)⟩)
           . rintro _ xZ B⟨⟨j4,j2⟩,W,m4⟩;dsimp only[Wq,v2];refine wpS_bind (aQ (by omega) ?_);have w4:=W.pY (by omega) C λ_=>m4;try dsimp only
             by_cases e5:o+1+1=a.size;.rw[if_pos (by simpa using e5)];exact wpS_pure ⟨s4,.inl ⟨_,rfl,jY e5 O w4⟩⟩
             rw[if_neg (by simpa using e5)];have p:MI K a b (xZ.push (it a o)) (o+1) B:=⟨by omega,j2,w4⟩;split;.exact wpS_pure ⟨s4,.inr ⟨_,_,_,_,_,_,rfl,p,by omega⟩⟩
             .exact wpS_pure ⟨s4,_,_,_,_,_,_,rfl,p,by omega⟩
           . have W:=w2.Cq (k:=m) (by omega) t λj r _=>af j r;by_cases e4:f+1+m=b.size;.rw[if_pos (by simpa using e4)];exact wpS_pure ⟨s4,.inl ⟨_,rfl,iU e4 W⟩⟩
             rw[if_neg (by simpa using e4)];exact key ⟨⟩ _ _ ⟨⟨by omega,by omega⟩,W,N m (bN) (by omega)⟩
         . have w:=g.w.Eu (k:=k) (by omega) C λj r _=>ae j r;by_cases e1:h+k+1=a.size;.rw[if_pos (by simpa using e1)];exact wpS_pure ⟨s4,.inl ⟨_,rfl,jY e1 O w⟩⟩
           rw[if_neg (by simpa using e1)];by_cases e2:h+k=a.size;.rw[if_pos (by simpa using e2)];exact wpS_pure ⟨s4,.inl ⟨_,rfl,Al e2 w⟩⟩
           rw[if_neg (by simpa using e2)];exact key ⟨⟩ _ _ ⟨⟨by omega,by omega⟩,w,SN k (bN) (by omega)⟩
       .rintro c L⟨s3,out,h,f,mg,v,z,rfl,g,l⟩;exact⟨s3,.inr ⟨_,_,_,_,_,_,rfl,g,l⟩⟩
       . rintro c L⟨s3,⟨out,hc,J⟩|⟨out,h,f,mg,v,z,rfl,g,l⟩⟩;.obtain⟨c1,c2,c3,c4,c5,c6,c7⟩:=c;cases hc;exact wpS_pure ⟨s3,out,rfl,J⟩
         . try dsimp only
           exact wpS_bind (mG λHb Z=>wpS_pure ⟨s3.trans Z,_,_,_,_,rfl,g,by omega⟩)
 .rintro c G⟨s1,out,ia,ib,mg,rfl,g,hp⟩;have:=g.i1;have:=g.i2;omega
 .rintro c G⟨s1,out,hc,J⟩;obtain⟨c1,c2,c3,c4,c5⟩:=c;cases hc;exact wpS_pure (q _ _ J s1)
end
section
variable{K:Keyed->Int}{T A B S P:List Keyed}{z:Keyed}
structure MH(K:Keyed->Int)(T A B S:List Keyed):Prop where
 perm:(A++(B++S)).Perm T
 sa:SL K (A++S)sb:SL K (B++S)
theorem MH.Vv(w:MH K T (A++P) B S)(h:∀x∈P,∀y∈B,K y<=K x):MH K T A B (P++S):=by
 have h1:=bT.mp w.sb;have e:=bT.mp (show SL K (A++(P++S))by simpa using w.sa);refine⟨?_,by simpa using w.sa,bT.mpr ⟨h1.1,e.2.1,λx c y hy=>?_⟩⟩;.refine List.Perm.trans ?_ w.perm;rw[append_assoc];refine List.Perm.append_left A ?_;rw[<-append_assoc,<-append_assoc];exact List.perm_append_comm.append_right S
 . rcases mem_append.mp hy with hy|hy;.exact h y hy x c
   .exact h1.2.2 x c y hy
theorem MH.U9(w:MH K T A (B++P) S)(h:∀x∈P,∀y∈A,K y<=K x):MH K T A B (P++S):=by
 have h1:=bT.mp w.sa;have e:=bT.mp (show SL K (B++(P++S))by simpa using w.sb);refine⟨by simpa using w.perm,bT.mpr ⟨h1.1,e.2.1,λx c y hy=>?_⟩,by simpa using w.sb⟩;rcases mem_append.mp hy with hy|hy;.exact h y hy x c
 .exact h1.2.2 x c y hy
theorem MH.first(w:MH K T A [z] S)(h:∀x∈A,K z<=K x):([z]++A++S).Perm T/\SL K ([z]++A++S):=by
 refine⟨?_,?_⟩;.refine List.Perm.trans ?_ w.perm;rw[<-append_assoc];exact List.perm_append_comm.append_right S
 . rw[append_assoc];refine bT.mpr ⟨List.pairwise_singleton _ _,w.sa,λx c y hy=>?_⟩;rw[mem_singleton.mp c];rcases mem_append.mp hy with hy|hy;.exact h y hy
   .exact(bT.mp w.sb).2.2 z (by simp) y hy
theorem fJ(h:n<=a.size):(a.extract 0 n).toList=a.toList.take n:=by rw[ik h];simp
theorem gh(hi:i<=n)(h:n<=a.size):a.toList.take n=a.toList.take i++(a.extract i n).toList:=by
 rw[ik h];have e:n=i+(n-i):=by omega
 conv=>lhs;rw[e,List.take_add]
theorem rC(h0:1<=n)(h:n<=a.size):a.toList.take n=a.toList.take (n-1)++[it a (n-1)]:=by
 have e:it a (n-1)=a.toList[n-1]'(by simp;omega):=by unfold it;simp[Array.getD,show n-1<a.size by omega]
 have c:n=(n-1)+1:=by omega
 conv=>lhs;rw[c]
 rw[List.take_succ_eq_append_getElem (by simp;omega),e]
theorem gK(h:n<=a.size)(c:x∈a.toList.take n):∃j,j<n/\x=it a j:=by obtain⟨j,f,e⟩:=List.mem_iff_getElem.mp c;simp only[length_take,length_toList]at f;refine⟨j,by omega,?_⟩;rw[<-e];unfold it;simp[Array.getD,show j<a.size by omega]
theorem o8(hi:i<=n)(h:n<=a.size)(c:x∈(a.extract i n).toList):∃j,i<=j/\j<n/\x=it a j:=by obtain⟨j,f,e⟩:=ext_mem (a:=a) (i:=i) (k:=n-i) (by omega) (by rw[show i+(n-i)=n by omega];exact c);exact⟨i+j,by omega,by omega,e⟩
end
section
variable{M:Model}{A:Around}{E:Value->Shared->Prop}{s:Shared}{κ:SortKind}{ok:Keyed->Prop}{K:Keyed->Int}
noncomputable def mhi:Array Keyed->Array Keyed->SM (Array Keyed):=sortPriv%PySem.Builtin.mergeHi
abbrev MV(K:Keyed->Int)(a b out:Array Keyed)(na nb:Nat):Prop:=MH K (a.toList++b.toList) (a.toList.take na) (b.toList.take nb) out.toList.reverse
structure MJ(K:Keyed->Int)(a b out:Array Keyed)(na nb:Nat):Prop where
 i1:1<=na
 i2:2<=nb
 i3:na<=a.size
 i4:nb<=b.size
 w:MV K a b out na nb
theorem iu{out:Array Keyed}:out.reverse.toList=out.toList.reverse:=Array.toList_reverse
theorem rO{out:Array Keyed}(h:na=0)(c:nb<=b.size)(w:MV K a b out na nb):Fin K a b (a.extract 0 na++b.extract 0 nb++out.reverse):=by
 subst h;have e:(a.extract 0 0++b.extract 0 nb++out.reverse).toList=b.toList.take nb++out.toList.reverse:=by rw[Array.toList_append,Array.toList_append,fJ (pG),fJ c,iu];simp
 exact⟨by rw[e];simpa using w.perm,by rw[e];exact w.sb⟩
theorem Pq{out:Array Keyed}(h:nb=0)(c:na<=a.size)(w:MV K a b out na nb):Fin K a b (a.extract 0 na++b.extract 0 nb++out.reverse):=by
 subst h;have e:(a.extract 0 na++b.extract 0 0++out.reverse).toList=a.toList.take na++out.toList.reverse:=by rw[Array.toList_append,Array.toList_append,fJ (pG),fJ c,iu];simp
 exact⟨by rw[e];simpa using w.perm,by rw[e];exact w.sa⟩
theorem iQ{out:Array Keyed}(h:nb=1)(f:na<=a.size)(g:nb<=b.size)(m:tY K a)(h0:K (it b 0)<=K (it a 0))(w:MV K a b out na nb):Fin K a b (b.extract 0 nb++a.extract 0 na++out.reverse):=by
 subst h;have l:b.toList.take 1=[it b 0]:=by rw[rC (le_refl 1) g];simp
 have e:(b.extract 0 1++a.extract 0 na++out.reverse).toList=[it b 0]++a.toList.take na++out.toList.reverse:=by rw[Array.toList_append,Array.toList_append,fJ g,fJ f,iu,l]
 have c:=w;unfold MV at c;rw[l]at c;obtain⟨h1,o⟩:=c.first λx p=>by obtain⟨j,q,rfl⟩:=gK f p;exact Int.le_trans h0 (m 0 j (by omega) (by omega))
 exact⟨by rw[e];exact h1,by rw[e];exact o⟩
theorem MH.pY{out:Array Keyed}(h:1<=na)(c:na<=a.size)(e:nb<=b.size)(w:MV K a b out na nb)(f:tY K b)(g:1<=nb->K (it b (nb-1))<=K (it a (na-1))):MV K a b (out.push (it a (na-1))) (na-1) nb:=by unfold MV at*;rw[rC h c]at w;rw[toList_push,List.reverse_append];refine MH.Vv (P:=[it a (na-1)]) w λx l y m=>?_;rw[mem_singleton.mp l];obtain⟨j,o,rfl⟩:=gK e m;exact Int.le_trans (f j (nb-1) (by omega) (by omega)) (g (by omega))
theorem MH.qp{out:Array Keyed}(h:1<=nb)(c:na<=a.size)(e:nb<=b.size)(w:MV K a b out na nb)(f:tY K a)(g:1<=na->K (it a (na-1))<=K (it b (nb-1))):MV K a b (out.push (it b (nb-1))) na (nb-1):=by unfold MV at*;rw[rC h e]at w;rw[toList_push,List.reverse_append];refine MH.U9 (P:=[it b (nb-1)]) w λx l y m=>?_;rw[mem_singleton.mp l];obtain⟨j,o,rfl⟩:=gK c m;exact Int.le_trans (f j (na-1) (by omega) (by omega)) (g (by omega))
theorem MH.Eu{out:Array Keyed}(h:i<=na)(c:na<=a.size)(e:nb<=b.size)(w:MV K a b out na nb)(f:tY K b)(g:∀j,i<=j->j<na->1<=nb->K (it b (nb-1))<=K (it a j)):MV K a b (out++(a.extract i na).reverse) i nb:=by unfold MV at*;rw[gh h c]at w;rw[Array.toList_append,List.reverse_append,iu,List.reverse_reverse];refine MH.Vv w λx m y o=>?_;obtain⟨j,p,q,rfl⟩:=o8 h c m;obtain⟨l,r,rfl⟩:=gK e o;exact Int.le_trans (f l (nb-1) (by omega) (by omega)) (g j p q (by omega))
theorem MH.Cq{out:Array Keyed}(h:i<=nb)(e:na<=a.size)(c:nb<=b.size)(w:MV K a b out na nb)(f:tY K a)(g:∀j,i<=j->j<nb->1<=na->K (it a (na-1))<=K (it b j)):MV K a b (out++(b.extract i nb).reverse) na i:=by unfold MV at*;rw[gh h c]at w;rw[Array.toList_append,List.reverse_append,iu,List.reverse_reverse];refine MH.U9 w λx m y o=>?_;obtain⟨j,p,q,rfl⟩:=o8 h c m;obtain⟨l,r,rfl⟩:=gK e o;exact Int.le_trans (f l (na-1) (by omega) (by omega)) (g j p q (by omega))
set_option maxHeartbeats 1000000 in
theorem PL(R:Rk M A E s κ ok K){Q:Array Keyed->SortSt->Prop}{st:SortSt}(Z:∀x∈a.toList,ok x)(hb:∀x∈b.toList,ok x)(hs:kindOf st=κ)(t:tY K a)(C:tY K b)(a1:1<=a.size)(b1:1<=b.size)(h0:K (it b 0)<=K (it a 0))(hl:∀i,i<b.size->K (it b i)<=K (it a (a.size-1)))(q:∀out st',Fin K a b out->pH st st'->Q out st'):wpS M A E s (mhi a b) Q st:=by
 show wpS M A E s (liftM (rule "list.sort.merge-hi")>>=_) Q st;refine wpS_bind (wp_rule ?_);extract_lets+onlyGivenNames-merge-underBinder x0 x1 x2 x3 x4;refine wpS_bind (aQ (by omega) ?_);extract_lets+onlyGivenNames-merge-underBinder x5;dsimp-zeta-zetaHave only[x0,x1,x2,x3,x4,x5];have H:∀c:Array Keyed,c.toList.take c.size=c.toList:=λc=>take_of_length_le (by simp);have w0:MV K a b #[] a.size b.size:=by unfold MV;rw[H,H];exact⟨by simp,by simpa using nF t,by simpa using nF C⟩
 have v:=MH.pY a1 (bN) (bN) w0 C (λ_=>hl _ (by omega));rw[show(#[]:Array Keyed).push (it a (a.size-1))=#[it a (a.size-1)]from rfl]at v;by_cases c1:a.size-1=0;.rw[if_pos (by simpa using c1)];exact wpS_pure (q _ _ (rO c1 (bN) v) (.refl _))
 rw[if_neg (by simpa using c1)];by_cases c2:b.size=1;.rw[if_pos (by simpa using c2)];exact wpS_pure (q _ _ (iQ c2 (by omega) (bN) t h0 v) (.refl _))
 rw[if_neg (by simpa using c2)];refine wpS_bind (wpS_get ?_);extract_lets+onlyGivenNames-merge-underBinder x6;refine wpS_bind (wpS_mono (wpS_forRange (I:=λx c st'=>pH st st'/\∃na nb out mg,c=(none,na,nb,out,mg)/\MJ K a b out na nb/\x+1+na+nb<=a.size+b.size) (Q:=λc st'=>pH st st'/\∃out,c.1=some out/\Fin K a b out) ?_ ?_ ⟨.refl _,_,_,_,_,rfl,⟨by omega,by omega,by omega,bN,v⟩,by omega⟩) ?_)
 . rintro x c J _ hx⟨s1,na,nb,out,mg,rfl,h,hp⟩;extract_lets+onlyGivenNames-merge-underBinder y0 y1 y2 y3 y4 y5 y6 y7 y8;dsimp-zeta-zetaHave only[x0,x1,x2,x3,x4,x5,y0,y1,y2,y3,y4,y5,y6,y7,y8];refine wpS_bind (wpS_mono (wpS_forRange (I:=λy c st'=>pH st st'/\∃g f out l o,c=(none,g,f,out,l,o)/\MJ K a b out g f/\g+f+y<=na+nb) (Q:=λc st'=>pH st st'/\((∃out,c.1=some out/\Fin K a b out)\/∃g f out l o,c=(none,g,f,out,l,o)/\MJ K a b out g f/\g+f+1<=na+nb)) ?_ ?_ ⟨s1,na,nb,out,0,0,rfl,h,by omega⟩) ?_)
   . rintro y c L _ hy⟨s2,g,f,out,l,o,rfl,h,p⟩;obtain⟨i1,i2,i3,i4,w⟩:=h;try dsimp only
     refine wpS_bind (aQ (by omega) (wpS_bind (aQ (by omega) (wpS_bind (R.lt (hb _ (cL (by omega))) (Z _ (cL (by omega))) (s2.kind.trans hs) ?_)))));by_cases c:K (it b (f-1))<K (it a (g-1))
     . rw[decide_eq_true c];try dsimp only
       rw[if_pos rfl];refine wpS_bind (aQ (by omega) ?_);try dsimp only
       have N:=MH.pY i1 i3 i4 w C (λ_=>by omega);by_cases e:g-1=0;.rw[if_pos (by simpa using e)];exact wpS_pure ⟨s2,.inl ⟨_,rfl,rO e i4 N⟩⟩
       . rw[if_neg (by simpa using e)];have z:MJ K a b (out.push (it a (g-1))) (g-1) f:=⟨by omega,i2,by omega,i4,N⟩;split;.exact wpS_pure ⟨s2,.inr ⟨_,_,_,_,_,rfl,z,by omega⟩⟩
         .exact wpS_pure ⟨s2,_,_,_,_,_,rfl,z,by omega⟩
     . rw[decide_eq_false c];try dsimp only
       rw[if_neg (by simp)];refine wpS_bind (aQ (by omega) ?_);try dsimp only
       have N:=MH.qp (by omega) i3 i4 w t (λ_=>by omega);by_cases e:f-1=1;.rw[if_pos (by simpa using e)];exact wpS_pure ⟨s2,.inl ⟨_,rfl,iQ e i3 (by omega) t h0 N⟩⟩
       . rw[if_neg (by simpa using e)];have z:MJ K a b (out.push (it b (f-1))) g (f-1):=⟨i1,by omega,i3,by omega,N⟩;split;.exact wpS_pure ⟨s2,.inr ⟨_,_,_,_,_,rfl,z,by omega⟩⟩
         .exact wpS_pure ⟨s2,_,_,_,_,_,rfl,z,by omega⟩
   .rintro c L⟨s2,g,f,out,l,o,rfl,h,p⟩;exact⟨s2,.inr ⟨_,_,_,_,_,rfl,h,by omega⟩⟩
   . rintro c L⟨s2,⟨out,hc,O⟩|⟨g,f,out,l,o,rfl,h,p⟩⟩;.obtain⟨c1,c2,c3,c4,c5,c6⟩:=c;cases hc;exact wpS_pure ⟨s2,out,rfl,O⟩
     . extract_lets+onlyGivenNames-merge-underBinder z0 z1 z2 z3 z4 z5 z6 z7 z8 z9;dsimp-zeta-zetaHave only[z0,z1,z2,z3,z4,z5,z6,z7,z8,z9];refine wpS_bind (wp_rule ?_);extract_lets+onlyGivenNames-merge-underBinder za;refine wpS_bind (wpS_mono (wpS_forRange (I:=λy c st'=>pH st st'/\∃g f out mg l o,c=(none,g,f,out,mg,l,o)/\MJ K a b out g f/\g+f+1<=na+nb) (Q:=λc st'=>pH st st'/\((∃out,c.1=some out/\Fin K a b out)\/∃g f out mg l o,c=(none,g,f,out,mg,l,o)/\MJ K a b out g f/\g+f+1<=na+nb)) ?_ ?_ ⟨s2,g,f,out,_,l,o,rfl,h,by omega⟩) ?_)
       . rintro y c U _ hy⟨s3,g,f,out,mg,l,o,rfl,h,p⟩;obtain⟨i1,i2,i3,i4,w⟩:=h;extract_lets+onlyGivenNames-merge-underBinder t0 t1 t2 t3 t4 t5 t6 t7 t8 t9 H jp;dsimp only[t0,t1,t2,t3,t4,t5,t6,t7,t8,t9,H];refine Dl (T:=jp) ?_;intro _ mg;dsimp-zeta-zetaHave only[jp,t0,t1,t2,t3,t4,t5,t6,t7,t8,t9,H];refine wpS_bind (mG λHb QK=>?_);have s4:=s3.trans QK;refine wpS_bind (aQ (by omega) ?_);refine wpS_bind (lD R (hb _ (cL (by omega))) Z (by omega) (by omega) (s4.kind.trans hs) (rG t (by omega)) λk k1 k2 k3=>?_);have W:∀j,j<k->K (it a j)<=K (it b (f-1)):=λj hj=>by have:=k2 j hj;simp[bb]at this;omega
         have SN:∀j,k<=j->j<g->K (it b (f-1))<=K (it a j):=λj h1 B=>by have:=k3 j h1 B;simp[bb]at this;omega
         try dsimp-zeta-zetaHave only
         extract_lets+onlyGivenNames-merge-underBinder u0 u1 jp2;dsimp only[u0,u1];refine mW (T:=jp2) (x:=g) (y:=out) (λr xY=>(1<=r/\r<=g)/\MV K a b xY r f/\K (it a (r-1))<=K (it b (f-1))) ?_ (λc key=>?_) (λc=>⟨⟨i1,bN⟩,w,W _ (by omega)⟩)
         . rintro _ r xY⟨⟨j1,j0⟩,v,k4⟩;dsimp-zeta-zetaHave only[jp2,u0,u1];extract_lets+onlyGivenNames-merge-underBinder v0;refine wpS_bind (aQ (by dsimp only[v0];omega) ?_);have w2:=MH.qp (by omega) (by omega) i4 v t (λ_=>k4);extract_lets+onlyGivenNames-merge-underBinder v1;dsimp-zeta-zetaHave only[v0,v1];by_cases e3:f-1=1;.rw[if_pos (by simpa using e3)];exact wpS_pure ⟨s4,.inl ⟨_,rfl,iQ e3 (by omega) (by omega) t h0 w2⟩⟩
           rw[if_neg (by simpa using e3)];refine wpS_bind (aQ (by omega) ?_);refine wpS_bind (lD R (Z _ (cL (by omega))) hb (by omega) (by omega) (s4.kind.trans hs) (rG C (by omega)) λm m1 m2 m3=>?_);have X:∀j,j<m->K (it b j)<=K (it a (r-1)):=λj hj=>by have:=m2 j hj;simp[bb]at this;omega
           have ae:∀j,m<=j->j<f-1->K (it a (r-1))<=K (it b j):=λj h1 B=>by have:=m3 j h1 B;simp[bb]at this;omega
           try dsimp-zeta-zetaHave only
           extract_lets+onlyGivenNames-merge-underBinder v2 v3 Wq;dsimp only[v2,v3];refine mW (T:=Wq) (x:=f-1) (y:=xY.push (it b (f-1))) (λG xZ=>(2<=G/\G<=f-1)/\MV K a b xZ r G/\K (it b (G-1))<=K (it a (r-1))) ?_ (λc key=>?_) (λc=>⟨⟨by omega,bN⟩,w2,X _ (by omega)⟩)
           . rintro _ G xZ⟨⟨j2,j3⟩,Y,m4⟩;dsimp only[Wq,v2,v3];refine wpS_bind (aQ (by omega) ?_);have w4:=MH.pY j1 (by omega) (by omega) Y C (λ_=>m4);try dsimp only
             by_cases e6:r-1=0;.rw[if_pos (by simpa using e6)];exact wpS_pure ⟨s4,.inl ⟨_,rfl,rO e6 (by omega) w4⟩⟩
             rw[if_neg (by simpa using e6)];have z:MJ K a b (xZ.push (it a (r-1))) (r-1) G:=⟨by omega,j2,by omega,by omega,w4⟩;split;.exact wpS_pure ⟨s4,.inr ⟨_,_,_,_,_,_,rfl,z,by omega⟩⟩
             .exact wpS_pure ⟨s4,_,_,_,_,_,_,rfl,z,by omega⟩
           . have Y:=MH.Cq m1 (by omega) (by omega) w2 t λj h1 B _=>ae j h1 B;by_cases e4:m=1;.rw[if_pos (by simpa using e4)];exact wpS_pure ⟨s4,.inl ⟨_,rfl,iQ e4 (by omega) (by omega) t h0 Y⟩⟩
             rw[if_neg (by simpa using e4)];by_cases e5:m=0;.rw[if_pos (by simpa using e5)];exact wpS_pure ⟨s4,.inl ⟨_,rfl,Pq e5 (by omega) Y⟩⟩
             rw[if_neg (by simpa using e5)];exact key ⟨⟩ _ _ ⟨⟨by omega,m1⟩,Y,X _ (by omega)⟩
         . have v:=MH.Eu k1 i3 i4 w C λj h1 B _=>SN j h1 B;by_cases e1:k=0;.rw[if_pos (by simpa using e1)];exact wpS_pure ⟨s4,.inl ⟨_,rfl,rO e1 i4 v⟩⟩
           rw[if_neg (by simpa using e1)];exact key ⟨⟩ _ _ ⟨⟨by omega,k1⟩,v,W _ (by omega)⟩
       .rintro c U⟨s3,g,f,out,mg,l,o,rfl,h,p⟩;exact⟨s3,.inr ⟨_,_,_,_,_,_,rfl,h,p⟩⟩
       . rintro c U⟨s3,⟨out,hc,O⟩|⟨g,f,out,mg,l,o,rfl,h,p⟩⟩;.obtain⟨c1,c2,c3,c4,c5,c6,c7⟩:=c;cases hc;exact wpS_pure ⟨s3,out,rfl,O⟩
         . try dsimp only
           exact wpS_bind (mG λHb QK=>wpS_pure ⟨s3.trans QK,_,_,_,_,rfl,h,by omega⟩)
 .rintro c J⟨s1,na,nb,out,mg,rfl,h,hp⟩;have:=h.i1;have:=h.i2;omega
 .rintro c J⟨s1,out,hc,O⟩;obtain⟨c1,c2,c3,c4,c5⟩:=c;cases hc;exact wpS_pure (q _ _ O s1)
end
section
variable{K:Keyed->Int}
def Seg(K:Keyed->Int)(xs:Array Keyed)(lo hi:Nat):Prop:=∀i j,lo<=i->i<=j->j<hi->K (it xs i)<=K (it xs j)
theorem yz{l:Bool}{b:Nat}(h:Seg K a b (b+n)):IK K l k a b n:=λi j e f c=>by have:=h (b+i) (b+j) (by omega) (by omega) (by omega);unfold bb at*;cases l with|true=>simp only[if_true,decide_eq_true_eq]at*;omega|false=>simp only[false_eq_true,if_false,not_eq_true',decide_eq_false_iff_not]at*;omega
theorem fY:it xs i=xs.toList.getD i (Value.none,Value.none):=by
 unfold it;by_cases h:i<xs.size;.simp[Array.getD,h]
 .simp[Array.getD,h]
theorem lr(h:n<=a.size)(g:j<n-i):it (a.extract i n) j=it a (i+j):=by
 have:j<(a.extract i n).size:=by simp;omega
 have e:(a.extract i n)[j]?=a[i+j]?:=by rw[Array.getElem?_extract,if_pos (by omega)]
 have c:=sW this;have f:=sW (show i+j<a.size by omega);rw[e,f]at c;injection c with c;exact c.symm
theorem tE(h:n<=a.size)(hs:Seg K a i n):tY K (a.extract i n):=λu v e c=>by
 have hsz:(a.extract i n).size=n-i:=by simp;omega
 rw[hsz]at c;rw[lr h (by omega),lr h c];exact hs _ _ (by omega) (by omega) (by omega)
theorem uq:∀(m:List Keyed)(arr:Array Keyed)(o k:Nat),o+k+m.length<=arr.size->((m.zipIdx k).foldl (λa x=>match x with|(p,j)=>a.setIfInBounds (o+j) p) arr).toList=arr.toList.take (o+k)++(m++arr.toList.drop (o+k+m.length))
 |[],arr,o,k,h=>by simp|x::m,arr,o,k,h=>by
   have c:o+k<arr.size:=by simp at h;omega
   rw[List.zipIdx_cons,List.foldl_cons];have e:=uq m (arr.setIfInBounds (o+k) x) o (k+1) (by simp at h ⊢;omega);rw[e,Array.toList_setIfInBounds];have f:(arr.toList.set (o+k) x).take (o+(k+1))=arr.toList.take (o+k)++[x]:=by rw[<-Nat.add_assoc,List.take_succ_eq_append_getElem (by simpa using c),List.take_set_of_le (bN)];simp
   have g:(arr.toList.set (o+k) x).drop (o+(k+1)+m.length)=arr.toList.drop (o+k+(x::m).length):=by rw[List.drop_set_of_lt (by omega)];congr 1;simp;omega
   rw[f,g];simp
theorem Fin.mem{out:Array Keyed}{z:Keyed}(f:Fin K a b out)(h:z∈out.toList):z∈a.toList\/z∈b.toList:=mem_append.mp (f.perm.mem_iff.mp h)
theorem vC{P Q S:List Keyed}(e:xs.toList=P++(Q++S))(g:P.length=lo)(m:P.length+Q.length=hi)(h:SL K Q):Seg K xs lo hi:=λi j h1 o l=>by
 rw[fY,fY,e];have f:∀n,lo<=n->n<hi->(P++(Q++S)).getD n (Value.none,Value.none)=Q.getD (n-lo) (Value.none,Value.none):=λn p q=>by rw[getD_eq_getElem?_getD,getD_eq_getElem?_getD,getElem?_append_right (by omega),getElem?_append_left (by omega),g]
 rw[f i h1 (by omega),f j (by omega) l];by_cases c:i=j;.rw[c];exact Int.le_refl _
 .have:=List.pairwise_iff_getElem.mp h (i-lo) (j-lo) (by omega) (by omega) (by omega);simpa[getD_eq_getElem?_getD,show i-lo<Q.length by omega,show j-lo<Q.length by omega]using this
end
section
variable{M:Model}{A:Around}{E:Value->Shared->Prop}{s:Shared}{κ:SortKind}{ok:Keyed->Prop}{K:Keyed->Int}
theorem three(hi:i<=n)(h:n<=a.size):a.toList=a.toList.take i++((a.extract i n).toList++a.toList.drop n):=by rw[<-append_assoc,<-gh hi h,List.take_append_drop]
theorem DR(h:n<=a.size)(hs:Seg K a i n):SL K (a.extract i n).toList:=nF (tE h hs)
structure RG(K:Keyed->Int)(xs ys:Array Keyed)(lo hi:Nat):Prop where
 perm:ys.toList.Perm xs.toList
 pre:ys.toList.take lo=xs.toList.take lo
 post:ys.toList.drop hi=xs.toList.drop hi
 seg:Seg K ys lo hi
theorem vg(h:Seg K xs lo hi):RG K xs xs lo hi:=⟨.refl _,rfl,rfl,h⟩
theorem Qm{v:Nat}{m:List Keyed}(h1:lo<=u)(g:u<=v)(l:v<=hi)(w:hi<=xs.size)(o:ys.toList=xs.toList.take u++(m++xs.toList.drop v))(p:m.Perm (xs.extract u v).toList)(hs:SL K ((xs.extract lo u).toList++(m++(xs.extract v hi).toList))):RG K xs ys lo hi:=by
 have h:m.length=v-u:=by rw[p.length_eq];simp;omega
 have q:xs.toList.take u=xs.toList.take lo++(xs.extract lo u).toList:=gh h1 (by omega);have r:xs.toList.drop v=(xs.extract v hi).toList++xs.toList.drop hi:=by have:=jB (a:=xs) (i:=v) (k:=hi-v) (by omega);rwa[show v+(hi-v)=hi by omega]at this
 have e:ys.toList=xs.toList.take lo++(((xs.extract lo u).toList++(m++(xs.extract v hi).toList))++xs.toList.drop hi):=by rw[o,q,r];simp
 have f:(xs.toList.take lo).length=lo:=by simp;omega
 have c:((xs.extract lo u).toList++(m++(xs.extract v hi).toList)).length=hi-lo:=by simp[h];omega
 refine⟨?_,?_,?_,vC e f (by omega) hs⟩;.have t:=three g (show v<=xs.size by omega);rw[o];refine List.Perm.trans (List.Perm.append_left _ (List.Perm.append_right _ p)) (.of_eq t.symm)
 .rw[e,List.take_append_of_le_length (by omega),take_of_length_le (by omega)]
 .rw[e,<-append_assoc,List.drop_append,List.drop_eq_nil_of_le (Nat.le_of_eq (by rw[length_append,f,c,Nat.add_sub_cancel' (le_trans h1 (le_trans g l))])),nil_append,length_append,f,c,Nat.add_sub_cancel' (le_trans h1 (le_trans g l)),Nat.sub_self];rfl
end
section
variable{M:Model}{A:Around}{E:Value->Shared->Prop}{s:Shared}{κ:SortKind}{ok:Keyed->Prop}{K:Keyed->Int}
theorem O5{st:SortSt}{Q:PUnit->SortSt->Prop}(h:Q ⟨⟩ st'):wpS M A E s (set st':SM PUnit) Q st:=by unfold wpS;rw[StateT.run_set];exact wpAny_pure ⟨rfl,h⟩
theorem jr(hi:i<=n)(h:n<=a.size)(c:x∈(a.extract i n).toList):∃j,i<=j/\j<n/\x=it a j:=o8 hi h c
theorem Ny{arr merged:Array Keyed}{sa sb v:Nat}(h1:sa<=u)(o:u<=sb)(p:sb<=v)(l:v<=hi)(h:hi<=arr.size)(t:u<sb)(w:sb<v)(s1:Seg K arr sa sb)(s2:Seg K arr sb hi)(f:Fin K (arr.extract u sb) (arr.extract sb v) merged)(m:∀j,sa<=j->j<u->K (it arr j)<=K (it arr sb))(q:∀j,v<=j->j<hi->K (it arr (sb-1))<=K (it arr j)):SL K ((arr.extract sa u).toList++(merged.toList++(arr.extract v hi).toList)):=by
 have Lw:∀z∈merged.toList,(∃j,u<=j/\j<sb/\z=it arr j)\/∃j,sb<=j/\j<v/\z=it arr j:=λz hz=>(f.mem hz).imp (jr o (by omega)) (jr p (by omega));refine bT.mpr ⟨DR (by omega) λi j a b c=>s1 i j a b (by omega),bT.mpr ⟨f.m9,DR h λi j a b c=>s2 i j (by omega) b c,λz hz y hy=>?_⟩,λx r y hy=>?_⟩
 . obtain⟨j,e,g,rfl⟩:=jr l h hy;rcases Lw z hz with⟨i,i1,i2,rfl⟩|⟨i,i1,i2,rfl⟩;.exact Int.le_trans (s1 i (sb-1) (by omega) (by omega) (by omega)) (q j e g)
   .exact s2 i j (by omega) (by omega) (by omega)
 . obtain⟨i,i1,i2,rfl⟩:=jr h1 (by omega) r;rcases mem_append.mp hy with hy|hy
   . rcases Lw y hy with⟨j,e,g,rfl⟩|⟨j,e,g,rfl⟩;.exact s1 i j (by omega) (by omega) (by omega)
     .exact Int.le_trans (m i i1 i2) (s2 sb j (by omega) (by omega) (by omega))
   .obtain⟨j,e,g,rfl⟩:=jr l h hy;exact Int.le_trans (m i i1 i2) (s2 sb j (by omega) (by omega) (by omega))
set_option maxHeartbeats 1000000 in
theorem Ow(R:Rk M A E s κ ok K){sa pw sb e:Nat}{Q:Bool->SortSt->Prop}{st:SortSt}(hs:kindOf st=κ)(ho:∀x∈(arrOf st).toList,ok x)(g:failedOf st=none)(hi:(pendingOf st)[i]?=some (sa,na,pw))(h:(pendingOf st)[i+1]?=some (sb,nb,e))(B:sb=sa+na)(n1:1<=na)(m1:1<=nb)(hz:sb+nb<=(arrOf st).size)(s1:Seg K (arrOf st) sa sb)(s2:Seg K (arrOf st) sb (sb+nb))(q:∀st',kindOf st'=κ->failedOf st'=none->pendingOf st'=((pendingOf st).setIfInBounds i (sa,na+nb,pw)).eraseIdxIfInBounds (i+1)->RG K (arrOf st) (arrOf st') sa (sb+nb)->Q true st'):wpS M A E s (mergeAt' i) Q st:=by
 obtain⟨N,arr,pend,gm,fl⟩:=st;replace hs:N=κ:=hs;replace ho:∀x∈arr.toList,ok x:=ho;replace g:fl=none:=g;replace hi:pend[i]?=some (sa,na,pw):=hi;replace h:pend[i+1]?=some (sb,nb,e):=h;replace hz:sb+nb<=arr.size:=hz;replace s1:Seg K arr sa sb:=s1;replace s2:Seg K arr sb (sb+nb):=s2;replace q:∀st',kindOf st'=κ->failedOf st'=none->pendingOf st'=(pend.setIfInBounds i (sa,na+nb,pw)).eraseIdxIfInBounds (i+1)->RG K arr (arrOf st') sa (sb+nb)->Q true st':=q;show wpS M A E s (get>>=_) Q _;refine wpS_bind (wpS_get ?_);dsimp only;rw[hi,h];try dsimp only
 refine wpS_bind (O5 ?_);refine wpS_bind (aQ (by omega) ?_);refine wpS_bind (lD R (ho _ (cL (by omega))) ho (by omega) (by omega) hs (yz (by rw[<-B];exact s1)) λk k1 k2 k3=>?_);have l:∀j,sa<=j->j<sa+k->K (it arr j)<=K (it arr sb):=λj h1 O=>by have:=k2 (j-sa) (by omega);rw[show sa+(j-sa)=j by omega]at this;simp[bb]at this;omega
 try dsimp only
 by_cases c1:na-k=0
 . rw[if_pos (by simpa using c1)];refine wpS_pure (q _ hs g rfl (vg λu v o r t=>?_));by_cases C:v<sb;.exact s1 u v o r C
   . by_cases hu:u<sb;.exact Int.le_trans (l u o (by omega)) (s2 sb v (by omega) (by omega) t)
     .exact s2 u v (by omega) r t
 rw[if_neg (by simpa using c1)];rw[show sa+k+(na-k)-1=sb-1 by omega];refine wpS_bind (aQ (by show sb-1<arr.size;omega) ?_);refine wpS_bind (lD R (ho _ (cL (by omega))) ho (by omega) (by omega) hs (yz s2) λm ae m2 m3=>?_);have G:∀j,sb<=j->j<sb+m->K (it arr j)<K (it arr (sb-1)):=λj h1 O=>by have:=m2 (j-sb) (by omega);rw[show sb+(j-sb)=j by omega]at this;simpa[bb]using this
 have w:∀j,sb+m<=j->j<sb+nb->K (it arr (sb-1))<=K (it arr j):=λj h1 O=>by have:=m3 (j-sb) (by omega) (by omega);rw[show sb+(j-sb)=j by omega]at this;simp[bb]at this;omega
 have SN:K (it arr sb)<=K (it arr (sa+k)):=by have:=k3 k (bN) (by omega);simp[bb]at this;omega
 try dsimp only
 by_cases c2:m=0
 . rw[if_pos (by simpa using c2)];refine wpS_pure (q _ hs g rfl (vg λu v o r t=>?_));by_cases C:v<sb;.exact s1 u v o r C
   . by_cases hu:u<sb;.exact Int.le_trans (s1 u (sb-1) o (by omega) (by omega)) (w v (by omega) t)
     .exact s2 u v (by omega) r t
 rw[if_neg (by simpa using c2)];have H:(arr.extract (sa+k) sb).size=sb-(sa+k):=by simp;omega
 have I:(arr.extract sb (sb+m)).size=m:=by simp;omega
 have U:tY K (arr.extract (sa+k) sb):=tE (by omega) λu v a b c=>s1 u v (by omega) b c;have W:tY K (arr.extract sb (sb+m)):=tE (by omega) λu v a b c=>s2 u v a b (by omega);have X:∀x∈(arr.extract (sa+k) sb).toList,ok x:=λx J=>by obtain⟨j,j1,j2,rfl⟩:=jr (by omega) (by omega) J;exact ho _ (cL (by omega))
 have Y:∀x∈(arr.extract sb (sb+m)).toList,ok x:=λx J=>by obtain⟨j,j1,j2,rfl⟩:=jr (by omega) (by omega) J;exact ho _ (cL (by omega))
 have y:K (it (arr.extract sb (sb+m)) 0)<=K (it (arr.extract (sa+k) sb) 0):=by rw[lr (by omega) (by omega),lr (by omega) (by omega)];exact SN
 have z:∀j,j<(arr.extract sb (sb+m)).size->K (it (arr.extract sb (sb+m)) j)<=K (it (arr.extract (sa+k) sb) ((arr.extract (sa+k) sb).size-1)):=λj h=>by rw[I]at h;rw[H,lr (by omega) (by omega),lr (by omega) (by omega),show sa+k+(sb-(sa+k)-1)=sb-1 by omega];exact Int.le_of_lt (G _ (by omega) (by omega))
 have fin:∀(merged:Array Keyed)(st':SortSt),Fin K (arr.extract (sa+k) sb) (arr.extract sb (sb+m)) merged->pH (SortSt.mk' N arr ((pend.setIfInBounds i (sa,na+nb,pw)).eraseIdxIfInBounds (i+1)) gm fl) st'->wpS M A E s ((modify λs=>setArr s (foldl (λa x=>match x with|(p,j)=>a.setIfInBounds (sa+k+j) p) (arrOf s) merged.toList.zipIdx))>>=λ_=>get>>=λs=>pure (failedOf s).isNone) Q st':=λmerged st' f sm=>by
  refine wpS_bind (wpS_modify (wpS_bind (wpS_get (wpS_pure ?_))));have e1:arrOf st'=arr:=sm.arr;have Z:failedOf st'=none:=sm.fail.trans g;have L:merged.toList.length=sb+m-(sa+k):=by rw[f.perm.length_eq];simp;omega
  show Q (failedOf st').isNone _;rw[Z];refine q _ (sm.kind.trans hs) Z sm.pend ?_;show RG K arr (foldl _ (arrOf st') merged.toList.zipIdx) sa (sb+nb);rw[e1];have hy:=uq merged.toList arr (sa+k) 0 (by omega);rw[Nat.add_zero,L,show sa+k+(sb+m-(sa+k))=sb+m by omega]at hy;have he:arr.extract (sa+k) (sb+m)=arr.extract (sa+k) sb++arr.extract sb (sb+m):=by simp[Array.extract_append_extract];congr 1<;>omega
  refine Qm (u:=sa+k) (v:=sb+m) (by omega) (by omega) (by omega) hz hy (f.perm.trans (.of_eq ?_)) (Ny (by omega) (by omega) (by omega) (by omega) hz (by omega) (by omega) s1 s2 f l w);rw[he,Array.toList_append]
 try dsimp only
 split;.exact wpS_bind (Nu R X Y hs U W (by omega) (by omega) y z λmerged st' f sm=>fin merged st' f sm)
 .exact wpS_bind (PL R X Y hs U W (by omega) (by omega) y z λmerged st' f sm=>fin merged st' f sm)
end
section
variable{K:Keyed->Int}
theorem uD:it xs i=(xs[i]?).getD (Value.none,Value.none):=by unfold it;by_cases h:i<xs.size<;>simp[Array.getD,h]
theorem jy(c:j<=xs.size)(k:Nat):it (mirror xs i j ((j-i)/2)) k=if i<=k/\k<j then it xs (i+j-1-k)else it xs k:=by rw[uD,getElem?_mirror_all c];split<;>rw[uD]
theorem wU{d:Nat}(hs:u<xs.size)(hd:d<=u)(k:Nat):it (bubble xs u d) k=if k=u-d then it xs u else if u-d<k/\k<=u then it xs (k-1)else it xs k:=by
 rw[uD,getElem?_bubble hs d hd];by_cases h1:k=u-d;.rw[if_pos h1,if_pos h1,uD]
 .rw[if_neg h1,if_neg h1];split<;>rw[uD]
structure mV(xs ys:Array Keyed)(lo:Nat):Prop where
 perm:ys.toList.Perm xs.toList
 pre:∀i,i<lo->it ys i=it xs i
theorem mV.refl(xs:Array Keyed)(lo:Nat):mV xs xs lo:=⟨.refl _,λ_ _=>rfl⟩
theorem mV.trans{xs ys c:Array Keyed}{lo:Nat}(a:mV xs ys lo)(b:mV ys c lo):mV xs c lo:=⟨b.perm.trans a.perm,λi h=>(b.pre i h).trans (a.pre i h)⟩
theorem mV.size{xs ys:Array Keyed}{lo:Nat}(h:mV xs ys lo):ys.size=xs.size:=by simpa using h.perm.length_eq
theorem iI(h:lo<=i)(c:j<=xs.size):mV xs (mirror xs i j ((j-i)/2)) lo:=⟨Array.perm_iff_toList_perm.mp (mirror_perm ..),λk e=>by rw[jy c,if_neg (by omega)]⟩
theorem Hk{d:Nat}(hs:u<xs.size)(hd:d<=u)(h:lo<=u-d):mV xs (bubble xs u d) lo:=⟨Array.perm_iff_toList_perm.mp (bubble_perm ..),λk c=>by rw[wU hs hd,if_neg (by omega),if_neg (by omega)]⟩
def Jk(K:Keyed->Int)(xs:Array Keyed)(lo hi:Nat):Prop:=∀i j,lo<=i->i<=j->j<hi->K (it xs j)<=K (it xs i)
end
section
variable{M:Model}{A:Around}{E:Value->Shared->Prop}{s:Shared}{κ:SortKind}{ok:Keyed->Prop}{K:Keyed->Int}
structure Sx(κ:SortKind)(ok:Keyed->Prop)(st:SortSt)(xs:Array Keyed)(st':SortSt):Prop where
 kind:kindOf st'=κ
 arr:arrOf st'=xs
 pend:pendingOf st'=pendingOf st
 fail:failedOf st'=none
 ok:∀x∈xs.toList,ok x
theorem Sx.set{st:SortSt}(h:Sx κ ok st xs st')(c:mV xs ys lo):Sx κ ok st ys (setArr st' ys):=⟨h.kind,rfl,h.pend,h.fail,λx e=>h.ok x (c.perm.mem_iff.mp e)⟩
theorem jQ(R:Rk M A E s κ ok K){st:SortSt}{Q:Option Bool->SortSt->Prop}(h:Sx κ ok st xs st')(hi:i<xs.size)(c:j<xs.size)(q:Q (some (decide (K (it xs i)<K (it xs j)))) st'):wpS M A E s (ltAt' i j) Q st':=by rw[ltAt'_eq];refine wpS_bind (wpS_get ?_);show wpS M A E s (elem' (arrOf st') i>>=λx=>elem' (arrOf st') j>>=λy=>lt' x y) Q st';rw[h.arr];exact wpS_bind (aQ hi (wpS_bind (aQ c (R.lt (h.ok _ (cL hi)) (h.ok _ (cL c)) h.kind q))))
theorem nZ{st:SortSt}{Q:Unit->SortSt->Prop}(h:Sx κ ok st xs st')(e:lo<=i)(f:j<=xs.size)(q:∀c,Sx κ ok st (mirror xs i j ((j-i)/2)) c->Q () c):wpS M A E s (reverseSlice' i j) Q st':=by rw[reverseSlice'_eq];refine wpS_modify ?_;rw[h.arr];exact q _ (h.set (iI e f))
theorem xJ(R:Rk M A E s κ ok K){st:SortSt}{a:Nat}{Q:Option (Option Nat)×Nat->SortSt->Prop}(h:Sx κ ok st xs st')(t:lo+n<=xs.size)(v:1<=a)(l:a<=n)(hs:Seg K xs lo (lo+a))(q:∀m,a<=m->m<=n->Seg K xs lo (lo+m)->(m=n\/K (it xs (lo+m))<K (it xs (lo+m-1)))->Q (none,m) st'):wpS M A E s (forIn [a:n] ((none,a):Option (Option Nat)×Nat) λ_ c=>ltAt' (lo+c.2) (lo+c.2-1)>>=λo=>match o with|some b=>if b=true then pure (.done (none,c.2))else pure (.yield (none,c.2+1))|_=>pure (.done (some none,c.2))) Q st':=by
 refine wpS_forRange (I:=λx c g=>g=st'/\c=(none,x)/\Seg K xs lo (lo+x)) ?_ ?_ ⟨rfl,rfl,hs⟩
 . rintro x c g h1 w⟨rfl,rfl,f⟩;try dsimp only
   refine wpS_bind (jQ R h (by omega) (by omega) ?_);by_cases c:K (it xs (lo+x))<K (it xs (lo+x-1))
   . rw[decide_eq_true c];try dsimp only
     rw[if_pos rfl];exact wpS_pure (q x h1 (by omega) f (.inr c))
   . rw[decide_eq_false c];try dsimp only
     rw[if_neg (by simp)];refine wpS_pure ⟨rfl,rfl,λi j i1 p y=>?_⟩;by_cases r:j<lo+x;.exact f i j i1 p r
     . have:j=lo+x:=by omega
       subst this;by_cases e:i=lo+x;.rw[e];exact Int.le_refl _
       .have:=f i (lo+x-1) i1 (by omega) (by omega);omega
 .rintro c g⟨rfl,rfl,f⟩;rw[show max a n=n by omega]at f ⊢;exact q n l (bN) f (.inl rfl)
theorem Je(R:Rk M A E s κ ok K){st:SortSt}{a:Nat}{Q:Option (Option Nat)×Nat×Nat->SortSt->Prop}(h:Sx κ ok st xs st')(H:lo+n<=xs.size)(J:1<=a)(r:a<=n)(hs:Jk K xs lo (lo+a))(q:∀ys f m e,mV xs ys lo->Sx κ ok st ys f->a<=m->m<=n->Jk K ys lo (lo+m)->e+1<=m->(∀i,lo+m-(e+1)<=i->i<lo+m->K (it ys i)=K (it ys (lo+m-1)))->Q (none,m,e) f):wpS M A E s (forIn [a:n] ((none,a,0):Option (Option Nat)×Nat×Nat) λ_ c=>ltAt' (lo+c.2.1) (lo+c.2.1-1)>>=λo=>match o with
  |some b=>if b=true then(if c.2.2>0 then reverseSlice' (lo+c.2.1-(c.2.2+1)) (lo+c.2.1)>>=λ_=>pure (.yield (none,c.2.1+1,0))else pure (.yield (none,c.2.1+1,0)))else ltAt' (lo+c.2.1-1) (lo+c.2.1)>>=λo=>match o with|some b=>if b=true then pure (.done (none,c.2.1,c.2.2))else pure (.yield (none,c.2.1+1,c.2.2+1))|_=>pure (.done (some none,c.2.1,c.2.2))
  |_=>pure (.done (some none,c.2.1,c.2.2))) Q st':=by
 refine wpS_forRange (I:=λx c f=>∃ys e,c=(none,x,e)/\mV xs ys lo/\Sx κ ok st ys f/\Jk K ys lo (lo+x)/\e+1<=x/\∀i,lo+x-(e+1)<=i->i<lo+x->K (it ys i)=K (it ys (lo+x-1))) ?_ ?_ ⟨xs,0,rfl,.refl _ _,h,hs,by omega,λi h1 t=>by rw[show i=lo+a-1 by omega]⟩
 . rintro x c f h1 t⟨ys,e,rfl,hc,g,hd,he,l⟩;have hsz:=hc.size;try dsimp only
   refine wpS_bind (jQ R g (by omega) (by omega) ?_);by_cases c:K (it ys (lo+x))<K (it ys (lo+x-1))
   . rw[decide_eq_true c];try dsimp only
     rw[if_pos rfl];have more:∀v:Array Keyed,(∀i,K (it v i)=K (it ys i))->Jk K v lo (lo+(x+1)):=λv hz i j i1 w z=>by
      rw[hz,hz];by_cases y:j<lo+x;.exact hd i j i1 w y
      . have:j=lo+x:=by omega
        subst this;by_cases e:i=lo+x;.rw[e];exact Int.le_refl _
        .have:=hd i (lo+x-1) i1 (by omega) (by omega);omega
     by_cases c2:e>0
     . rw[if_pos c2];refine wpS_bind (nZ (lo:=lo) g (by omega) (by omega) λB C=>wpS_pure ⟨_,0,rfl,hc.trans (iI (by omega) (by omega)),C,more _ λi=>?_,by omega,λi h1 t=>by rw[show i=lo+(x+1)-1 by omega]⟩);rw[jy (by omega)];split;.rw[l _ (by omega) (by omega),l i (by omega) (by omega)]
       .rfl
     .rw[if_neg c2];exact wpS_pure ⟨ys,0,rfl,hc,g,more ys λ_=>rfl,by omega,λi h1 t=>by rw[show i=lo+(x+1)-1 by omega]⟩
   . rw[decide_eq_false c];try dsimp only
     rw[if_neg (by simp)];refine wpS_bind (jQ R g (by omega) (by omega) ?_);by_cases c2:K (it ys (lo+x-1))<K (it ys (lo+x))
     . rw[decide_eq_true c2];try dsimp only
       rw[if_pos rfl];exact wpS_pure (q ys f x e hc g h1 (by omega) hd he l)
     . rw[decide_eq_false c2];try dsimp only
       rw[if_neg (by simp)];have p:K (it ys (lo+x))=K (it ys (lo+x-1)):=by omega
       refine wpS_pure ⟨ys,e+1,rfl,hc,g,λi j i1 w z=>?_,by omega,λi i1 i2=>?_⟩
       . by_cases y:j<lo+x;.exact hd i j i1 w y
         . have:j=lo+x:=by omega
           subst this;by_cases e:i=lo+x;.rw[e];exact Int.le_refl _
           .rw[p];exact hd i (lo+x-1) i1 (by omega) (by omega)
       . rw[show lo+(x+1)-1=lo+x by omega];by_cases G:i=lo+x;.rw[G]
         .rw[p];exact l i (by omega) (by omega)
 .rintro c f⟨ys,e,rfl,hc,g,hd,he,l⟩;rw[show max a n=n by omega]at*;exact q ys f n e hc g r (bN) hd he l
end
section
variable{M:Model}{A:Around}{E:Value->Shared->Prop}{s:Shared}{κ:SortKind}{ok:Keyed->Prop}{K:Keyed->Int}
theorem CV(c:lo+n<=xs.size)(h:Jk K xs lo (lo+n)):Seg K (mirror xs lo (lo+n) ((lo+n-lo)/2)) lo (lo+n):=λi j i1 e f=>by rw[jy c,jy c,if_pos (by omega),if_pos (by omega)];exact h _ _ (by omega) (by omega) (by omega)
theorem Fv(R:Rk M A E s κ ok K){st:SortSt}{Q:Option Nat->SortSt->Prop}(h:Sx κ ok st xs st')(hn:lo+n<=xs.size)(h1:1<=n)(q:∀ys f m,mV xs ys lo->Sx κ ok st ys f->1<=m->m<=n->Seg K ys lo (lo+m)->Q (some m) f):wpS M A E s (countRun' lo n) Q st':=by
 have one:∀ys:Array Keyed,Seg K ys lo (lo+1):=λys i j i1 w y=>by rw[show i=j by omega];exact Int.le_refl _
 show wpS M A E s (_>>=_) Q st';refine wpS_bind (xJ (a:=1) (n:=n) R h hn (le_refl 1) h1 (one xs) λm m1 U sm B=>?_);dsimp only;by_cases c1:m=n;.rw[if_pos (by simpa using c1)];exact wpS_pure (q xs st' m (.refl _ _) h m1 U sm)
 rw[if_neg (by simpa using c1)];have C:=B.resolve_left c1;by_cases c2:m>1;rw[if_pos c2];refine wpS_bind (jQ R h (by omega) (by omega) ?_);by_cases c3:K (it xs lo)<K (it xs (lo+m-1))
 . rw[decide_eq_true c3];try dsimp only
   rw[if_pos rfl];exact wpS_pure (q xs st' m (.refl _ _) h m1 U sm)
 rw[decide_eq_false c3];try dsimp only
 rw[if_neg (by simp)];have o:∀k,lo<=k->k<lo+m->K (it xs k)=K (it xs (lo+m-1)):=λk G W=>by have a1:=sm lo k (bN) G W;have a2:=sm k (lo+m-1) G (by omega) (by omega);omega
 refine wpS_bind (nZ (lo:=lo) h (bN) (by omega) λf H=>?_);have hc:mV xs (mirror xs lo (lo+m) ((lo+m-lo)/2)) lo:=iI (bN) (by omega);have hd:Jk K (mirror xs lo (lo+m) ((lo+m-lo)/2)) lo (lo+(m+1)):=λi j i1 w y=>by
  have e:∀k,lo<=k->k<lo+m->K (it (mirror xs lo (lo+m) ((lo+m-lo)/2)) k)=K (it xs (lo+m-1)):=λk G W=>by rw[jy (by omega),if_pos (by omega)];exact o _ (by omega) (by omega)
  by_cases hj:j<lo+m;.rw[e i i1 (by omega),e j (by omega) hj];exact Int.le_refl _
  . have:j=lo+m:=by omega
    subst this;by_cases e':i=lo+m;.rw[e'];exact Int.le_refl _
    .rw[e i i1 (by omega),jy (by omega),if_neg (by omega)];omega
 generalize mirror xs lo (lo+m) ((lo+m-lo)/2)=ys at H hc hd;rotate_left;rw[if_neg c2];have I:Jk K xs lo (lo+(m+1)):=λi j i1 w y=>by
  by_cases e:i=j;.rw[e];exact Int.le_refl _
  . have e1:i=lo:=by omega
    have e2:j=lo+m:=by omega
    rw[e1,e2];rw[show lo+m-1=lo by omega]at C;omega
 obtain⟨ys,hc,H,hd⟩:∃ys,mV xs ys lo/\Sx κ ok st ys st'/\Jk K ys lo (lo+(m+1)):=⟨xs,.refl _ _,h,I⟩;all_goals
  have hsz:=hc.size;refine wpS_bind (wp_rule ?_);refine wpS_bind (Je (a:=m+1) R H (by omega) (by omega) (by omega) hd λg af p e z X p1 Y r he Z=>?_);have ae:=z.size;dsimp only;by_cases ce:e>0
  . rw[if_pos ce];refine wpS_bind (nZ (lo:=lo) X (by omega) (by omega) λHb h4=>?_);have l:mV xs (mirror g (lo+p-(e+1)) (lo+p) ((lo+p-(lo+p-(e+1)))/2)) lo:=hc.trans (z.trans (iI (by omega) (by omega)));have t:Jk K (mirror g (lo+p-(e+1)) (lo+p) ((lo+p-(lo+p-(e+1)))/2)) lo (lo+p):=λi j i1 w y=>by
     have ez:∀k,K (it (mirror g (lo+p-(e+1)) (lo+p) ((lo+p-(lo+p-(e+1)))/2)) k)=K (it g k):=λk=>by
      rw[jy (by omega)];split;.rw[Z _ (by omega) (by omega),Z k (by omega) (by omega)]
      .rfl
     rw[ez,ez];exact r i j i1 w y
    generalize mirror g (lo+p-(e+1)) (lo+p) ((lo+p-(lo+p-(e+1)))/2)=us at h4 l t;have J:=l.size;have c:mV us (mirror us lo (lo+p) ((lo+p-lo)/2)) lo:=iI (bN) (by omega);refine wpS_bind (nZ (lo:=lo) h4 (bN) (by omega) λL v=>?_);refine wpS_bind (xJ R v (by rw[c.size];omega) (by omega) Y (CV (by omega) t) λu u1 N O _=>?_);exact wpS_pure (q _ L u (l.trans c) v (by omega) N O)
  .rw[if_neg ce];have J:=(hc.trans z).size;have c:mV g (mirror g lo (lo+p) ((lo+p-lo)/2)) lo:=iI (bN) (by omega);refine wpS_bind (nZ (lo:=lo) X (bN) (by omega) λL v=>?_);refine wpS_bind (xJ R v (by rw[c.size];omega) (by omega) Y (CV (by omega) r) λu u1 N O _=>?_);exact wpS_pure (q _ L u ((hc.trans z).trans c) v (by omega) N O)
theorem Pr(R:Rk M A E s κ ok K){st:SortSt}{o:Nat}{Q:Bool->SortSt->Prop}(h:Sx κ ok st xs st')(H:lo+n<=xs.size)(ho:o<=n)(hs:Seg K xs lo (lo+o))(q:∀ys f,mV xs ys lo->Sx κ ok st ys f->Seg K ys lo (lo+n)->Q true f):wpS M A E s (binarySort' lo n o) Q st':=by
 show wpS M A E s (_>>=_) Q st';refine wpS_bind (wpS_mono (wpS_forRange (I:=λk c f=>∃ys,c=(none,())/\mV xs ys lo/\Sx κ ok st ys f/\Seg K ys lo (lo+min k n)) (Q:=λc f=>∃ys,c=(none,())/\mV xs ys lo/\Sx κ ok st ys f/\Seg K ys lo (lo+n)) ?_ ?_ ?_) ?_)
 . rintro k c f J L⟨ys,rfl,hc,m,sg⟩;rw[show min k n=k by omega]at sg;have hsz:=hc.size;refine wpS_bind (wpS_mono (wpS_forRange (I:=λx c g=>g=f/\∃l r,c=(none,l,r)/\l<=r/\r<=k/\r-l<=k-x/\(∀i,lo<=i->i<lo+l->K (it ys i)<=K (it ys (lo+k)))/\∀i,lo+r<=i->i<lo+k->K (it ys (lo+k))<K (it ys i)) (Q:=λc g=>g=f/\∃l r,c=(none,l,r)/\l<=k/\(∀i,lo<=i->i<lo+l->K (it ys i)<=K (it ys (lo+k)))/\∀i,lo+l<=i->i<lo+k->K (it ys (lo+k))<K (it ys i)) ?_ ?_ ⟨rfl,0,k,rfl,by omega,by omega,by omega,λi a b=>by omega,λi a b=>by omega⟩) ?_)
   . rintro x c g _ N⟨rfl,l,r,rfl,C,v,G,p,t⟩;dsimp only;by_cases e:l ≥ r
     . rw[if_pos e];have:l=r:=by omega
       subst this;exact wpS_pure ⟨rfl,l,l,rfl,v,p,t⟩
     . rw[if_neg e];refine wpS_bind (jQ R m (by omega) (by omega) ?_);by_cases c:K (it ys (lo+k))<K (it ys (lo+(l+r)/2));.rw[decide_eq_true c];dsimp only;rw[if_pos rfl];exact wpS_pure ⟨rfl,_,_,rfl,by omega,by omega,by omega,p,λi i1 i2=>Int.lt_of_lt_of_le c (sg _ _ (by omega) i1 i2)⟩
       .rw[decide_eq_false c];dsimp only;rw[if_neg (by simp)];exact wpS_pure ⟨rfl,_,_,rfl,by omega,v,by omega,λi i1 i2=>Int.le_trans (sg i (lo+(l+r)/2) i1 (by omega) (by omega)) (Int.not_lt.mp c),t⟩
   . rintro c g⟨rfl,l,r,rfl,C,v,G,p,t⟩;have:l=r:=by omega
     subst this;exact⟨rfl,l,l,rfl,v,p,t⟩
   . rintro c g⟨rfl,l,r,rfl,v,p,t⟩;show wpS M A E s (moveDown' (lo+k) (lo+l)>>=λ_=>pure (ForInStep.yield (none,()))) _ _;rw[moveDown'_eq];refine wpS_bind (wpS_modify (wpS_pure ?_));rw[m.arr];have y:mV ys (bubble ys (lo+k) (lo+k-(lo+l))) lo:=Hk (by omega) (by omega) (by omega);refine⟨_,rfl,hc.trans y,m.set y,λi j i1 z B=>?_⟩;rw[show min (k+1) n=k+1 by omega]at B;rw[wU (by omega) (by omega),wU (by omega) (by omega),show lo+k-(lo+k-(lo+l))=lo+l by omega];repeat' split
     all_goals first|(exfalso;omega)|exact Int.le_refl _|exact p _ (by omega) (by omega)|exact Int.le_of_lt (t _ (by omega) (by omega))|exact sg _ _ (by omega) (by omega) (by omega)
 .rintro c f⟨ys,w,hc,m,sg⟩;rw[show min (max (max o 1) n) n=n by omega]at sg;exact⟨ys,w,hc,m,sg⟩
 . refine⟨xs,rfl,.refl _ _,h,λi j i1 z B=>?_⟩;by_cases e:i=j;.rw[e];exact Int.le_refl _
   .exact hs i j i1 z (by omega)
 .rintro c f⟨ys,rfl,hc,m,sg⟩;exact wpS_pure (q ys f hc m sg)
end
noncomputable abbrev Rn:=Nat×Nat×Nat
variable{l:List Rn}
section
variable{K:Keyed->Int}{xs ys:Array Keyed}
def Af(K:Keyed->Int)(xs:Array Keyed):Nat->List Rn->Nat->Prop|a,[],b=>a=b|a,r::l,b=>r.1=a/\1<=r.2.1/\Seg K xs a (a+r.2.1)/\Af K xs (a+r.2.1) l b
theorem eY:∀{l k:List Rn}{a b:Nat},Af K xs a (l++k) b↔∃m,Af K xs a l m/\Af K xs m k b
 |[],k,a,b=>⟨λh=>⟨a,rfl,h⟩,λ⟨m,h1,c⟩=>by cases(show a=m from h1);exact c⟩|r::l,k,a,b=>by
   rw[cons_append];constructor;.rintro⟨h1,c,e,f⟩;obtain⟨m,g,o⟩:=eY.mp f;exact⟨m,⟨h1,c,e,g⟩,o⟩
   .rintro⟨m,⟨h1,c,e,f⟩,g⟩;exact⟨h1,c,e,eY.mpr ⟨m,f,g⟩⟩
theorem oR:∀{l:List Rn}{a b:Nat},Af K xs a l b->a+l.length<=b|[],a,b,h=>by cases(show a=b from h);simp|r::l,a,b,⟨_,e,_,c⟩=>by have:=oR c;simp only[length_cons];omega
theorem uI(h:∀i,lo<=i->i<hi->it ys i=it xs i)(s:Seg K xs lo hi):Seg K ys lo hi:=λi j i1 e c=>by rw[h i i1 (by omega),h j (by omega) c];exact s i j i1 e c
theorem jR:∀{l:List Rn}{a b:Nat},(∀i,a<=i->i<b->it ys i=it xs i)->Af K xs a l b->Af K ys a l b|[],_,_,_,h=>h|r::l,a,b,e,⟨h1,f,g,c⟩=>by have:=oR c;exact⟨h1,f,uI (λi i1 i2=>e i i1 (by omega)) g,jR (λi i1 i2=>e i (by omega) i2) c⟩
theorem Ji{r r':Rn}{a b:Nat}(h1:r'.1=r.1)(c:r'.2.1=r.2.1)(h:Af K xs a (l++[r]) b):Af K xs a (l++[r']) b:=by obtain⟨m,e,f,p,g,o⟩:=eY.mp h;exact eY.mpr ⟨m,e,h1.trans f,by omega,by rw[c];exact g,by rw[c];exact o⟩
theorem HX(h:ys.toList.take lo=xs.toList.take lo)(i:Nat)(hi:i<lo):it ys i=it xs i:=by rw[fY,fY,getD_eq_getElem?_getD,getD_eq_getElem?_getD];have e:=congrArg (λl=>l[i]?) h;simp only[getElem?_take,hi,if_true]at e;rw[e]
theorem zy(h:ys.toList.drop hi=xs.toList.drop hi)(i:Nat)(h1:hi<=i):it ys i=it xs i:=by rw[fY,fY,getD_eq_getElem?_getD,getD_eq_getElem?_getD];have e:=congrArg (λl=>l[i-hi]?) h;simp only[List.getElem?_drop,show hi+(i-hi)=i by omega]at e;rw[e]
theorem JH{f l2:List Rn}{a b:Nat}{r1 c:Rn}{p:Nat}(h:Af K xs a (f++r1::c::l2) b)(g:RG K xs ys r1.1 (c.1+c.2.1)):Af K ys a (f++(r1.1,r1.2.1+c.2.1,p)::l2) b:=by
 obtain⟨m,r,s,t,v,o,w,y,q⟩:=eY.mp h;subst s;have e:=oR q;refine eY.mpr ⟨r1.1,jR (λi i1 i2=>HX g.pre i i2) r,rfl,by show 1<=r1.2.1+c.2.1;omega,?_,?_⟩;.show Seg K ys r1.1 (r1.1+(r1.2.1+c.2.1));have:=g.seg;rw[o]at this;rwa[<-Nat.add_assoc]
 .show Af K ys (r1.1+(r1.2.1+c.2.1)) l2 b;rw[<-Nat.add_assoc];exact jR (λi i1 i2=>zy g.post i (by rw[o];exact i1)) q
theorem Fo(h:i+1<l.length):∃c r1 e l2,l=c++r1::e::l2/\c.length=i:=by refine⟨l.take i,l[i],l[i+1],l.drop (i+2),?_,by simp;omega⟩;rw[<-drop_eq_getElem_cons (by omega),<-drop_eq_getElem_cons (by omega),List.take_append_drop]
theorem nY:∀{l:List Rn},l≠[]->∃k r,l=k++[r]|[],h=>absurd rfl h|[r],_=>⟨[],r,rfl⟩|r::x::l,_=>by obtain⟨k,q,e⟩:=nY (l:=x::l) (by simp);exact⟨r::k,q,by rw[e];rfl⟩
theorem zH(x r1 e:Rn)(l2:List Rn):∀c:List Rn,((c++r1::e::l2).set c.length x).eraseIdx (c.length+1)=c++x::l2|[]=>rfl|r::c=>by show r::((c++r1::e::l2).set c.length x).eraseIdx (c.length+1)=r::(c++x::l2);rw[zH x r1 e l2 c]
end
section
variable{M:Model}{A:Around}{E:Value->Shared->Prop}{s:Shared}{κ:SortKind}{ok:Keyed->Prop}{K:Keyed->Int}
structure SR(κ:SortKind)(ok:Keyed->Prop)(K:Keyed->Int)(x0 ys:Array Keyed)(l:List Rn)(lo:Nat)(st:SortSt):Prop where
 kind:kindOf st=κ
 arr:arrOf st=ys
 fail:failedOf st=none
 pend:(pendingOf st).toList=l
 perm:ys.toList.Perm x0.toList
 ok:∀x∈ys.toList,ok x
 S6:Af K ys 0 l lo
 le:lo<=ys.size
theorem SR.sx{st:SortSt}(h:SR κ ok K x0 ys l lo st):Sx κ ok st ys st:=⟨h.kind,h.arr,rfl,h.fail,h.ok⟩
theorem yw(R:Rk M A E s κ ok K){st:SortSt}{Q:Bool->SortSt->Prop}(h:SR κ ok K x0 ys l lo st)(hi:i+1<l.length)(q:∀v k c,SR κ ok K x0 v k lo c->k.length+1=l.length->(∀j,lo<=j->it v j=it ys j)->Q true c):wpS M A E s (mergeAt' i) Q st:=by
 obtain⟨y,r1,g,l2,e,o⟩:=Fo hi;have hr:=h.S6;rw[e]at hr;obtain⟨m,Y,z,B,C,w,G,H,I⟩:=eY.mp hr;have J:=oR I;have hz:=h.le;have r:=h.pend;have L:(pendingOf st)[i]?=some (r1.1,r1.2.1,r1.2.2):=by rw[<-Array.getElem?_toList,r,e,<-o];simp
 have N:(pendingOf st)[i+1]?=some (g.1,g.2.1,g.2.2):=by rw[<-Array.getElem?_toList,r,e,<-o];simp
 refine Ow R h.kind (by rw[h.arr];exact h.ok) h.fail L N (by omega) B G (by rw[h.arr];omega) (by rw[h.arr,z,w];exact C) (by rw[h.arr,w];exact H) λc O U W f=>?_;rw[h.arr]at f;have t:=JH (p:=r1.2.2) hr f;refine q (arrOf c) (y++(r1.1,r1.2.1+g.2.1,r1.2.2)::l2) c ⟨O,rfl,U,?_,f.perm.trans h.perm,λx X=>h.ok x (f.perm.mem_iff.mp X),t,?_⟩ (by rw[e];simp only[length_append,length_cons];omega) λj Z=>zy f.post j (by omega);.rw[W];rw[Array.toList_eraseIdxIfInBounds,Array.toList_setIfInBounds,r,e,<-o];exact zH _ _ _ _ _
 .have:=f.perm.length_eq;simp only[length_toList]at this;omega
end
section
variable{M:Model}{A:Around}{E:Value->Shared->Prop}{s:Shared}{κ:SortKind}{ok:Keyed->Prop}{K:Keyed->Int}
theorem SR.move{f:Array Keyed}{st e:SortSt}(h:SR κ ok K x0 ys l lo st)(c:mV ys f lo)(x:Sx κ ok st f e):SR κ ok K x0 f l lo e:=⟨x.kind,x.arr,x.fail,by rw[x.pend];exact h.pend,c.perm.trans h.perm,x.ok,jR (λi _ i2=>c.pre i i2) h.S6,by rw[c.size];exact h.le⟩
theorem uh{r:Rn}{f:Rn->Rn}:∀k:List Rn,(k++[r]).modify (k.length+1-1) f=k++[f r]|[]=>rfl|x::k=>by show x::(k++[r]).modify k.length f=x::(k++[f r]);rw[<-uh k];rfl
theorem nQ{p:Array Rn}{k:List Rn}{r:Rn}{f:Rn->Rn}(h:p.toList=k++[r]):(p.modify (p.size-1) f).toList=k++[f r]:=by
 have hz:p.size=k.length+1:=by rw[<-length_toList,h];simp
 rw[Array.toList_modify,h,hz];exact uh k
theorem SR.push{x0 ys:Array Keyed}{l:List Rn}{lo n:Nat}{st:SortSt}(h:SR κ ok K x0 ys l lo st)(h1:1<=n)(c:lo+n<=ys.size)(hs:Seg K ys lo (lo+n)):SR κ ok K x0 ys (l++[(lo,n,0)]) (lo+n) (setPending st ((pendingOf st).push (lo,n,0))):=⟨h.kind,h.arr,h.fail,by show((pendingOf st).push (lo,n,0)).toList=_;rw[toList_push,h.pend],h.perm,h.ok,eY.mpr ⟨lo,h.S6,rfl,h1,hs,rfl⟩,c⟩
theorem SR.pow{pw:Nat}{st:SortSt}(h:SR κ ok K x0 ys l lo st)(f:l≠[]):∃k,k≠[]/\SR κ ok K x0 ys k lo (setPending st ((pendingOf st).modify ((pendingOf st).size-1) λ(a,b,_)=>(a,b,pw))):=by obtain⟨k,r,e⟩:=nY f;have hr:=h.S6;have c:=h.pend;rw[e]at hr c;exact⟨k++[(r.1,r.2.1,pw)],by simp,h.kind,h.arr,h.fail,nQ c,h.perm,h.ok,Ji (r:=r) (r':=(r.1,r.2.1,pw)) rfl rfl hr,h.le⟩
theorem QC{p:Prop}[Decidable p]{a:Nat}(h:a+1<n):(if p then a-1 else a)+1<n:=by split<;>omega
theorem Jc(R:Rk M A E s κ ok K){Q:Unit->SortSt->Prop}{st:SortSt}(h:SR κ ok K x0 x0 [] 0 st)(q:∀ys st',arrOf st'=ys->failedOf st'=none->ys.toList.Perm x0.toList->Seg K ys 0 ys.size->Q () st'):wpS M A E s sortRuns' Q st:=by
 rw[sortRuns'_eq];refine wpS_bind (wpS_get ?_);dsimp only;simp only[h.arr];have big:∀{ys l lo st},SR κ ok K x0 ys l lo st->ys.size=x0.size:=λh=>by simpa using h.perm.length_eq
 generalize minRun' x0.size x0.size 0=L;refine wpS_bind (wpS_mono (wpS_forRange (I:=λx c st'=>∃ys l lo,c=(none,lo)/\SR κ ok K x0 ys l lo st'/\x<=lo) (Q:=λc st'=>∃ys l,c=(none,x0.size)/\SR κ ok K x0 ys l x0.size st') ?_ ?_ ⟨x0,[],0,rfl,h,bN⟩) ?_)
 . rintro x c N _ hx⟨ys,l,lo,rfl,o,Y⟩;have hz:=big o;have av:=o.le;dsimp only;by_cases c1:lo ≥ x0.size
   . rw[if_pos c1];have:lo=x0.size:=by omega
     subst this;exact wpS_pure ⟨ys,l,rfl,o⟩
   rw[if_neg c1];refine wpS_bind (Fv R o.sx (lo:=lo) (n:=x0.size-lo) (by omega) (by omega) λZ f m ch O m1 m2 sg=>?_);have p:=o.move ch O;have ae:=big p;dsimp only;by_cases c2:m<L;case' pos=>
    rw[if_pos c2];refine wpS_bind (wpS_lift (wpAny_rule ⟨rfl,?_⟩));refine wpS_bind (Pr R O (lo:=lo) (n:=min (x0.size-lo) L) (by omega) (by omega) sg λw t af ag z=>?_);simp only[Bool.not_true,false_eq_true,if_false];replace p:=o.move (ch.trans af) ag;replace ae:=big p;replace m1:1<=min (x0.size-lo) L:=by omega
    replace m2:min (x0.size-lo) L<=x0.size-lo:=by omega
    generalize min (x0.size-lo) L=n at*
   case' neg=>rw[if_neg c2];clear ch;obtain⟨w,ah⟩:∃w,w=Z:=⟨_,rfl⟩;obtain⟨t,hst⟩:∃t,t=f:=⟨_,rfl⟩;obtain⟨n,hn⟩:∃n,n=m:=⟨_,rfl⟩;subst ah hst hn;have z:=sg
   all_goals refine wpS_bind (wpS_get ?_);cases hb:(pendingOf t).back? with|none=>dsimp only;exact wpS_bind (wpS_modify (wpS_pure ⟨w,_,lo+n,rfl,p.push m1 (by omega) z,by omega⟩))|some r=>
      obtain⟨s1,n1,p1⟩:=r;dsimp only;have ai:l≠[]:=by rintro rfl;have:pendingOf t=#[]:=Array.toList_inj.mp p.pend;rw[this]at hb;exact nomatch hb
      generalize power' x0.size (2*s1+n1) (2*s1+n1+n1+n) x0.size=pw;refine wpS_bind (wpS_mono (wpS_forRange (I:=λ_ c st'=>∃ys k,c=(none,())/\k≠[]/\SR κ ok K x0 ys k lo st'/\∀j,lo<=j->it ys j=it w j) (Q:=λc st'=>∃ys k,c=(none,())/\k≠[]/\SR κ ok K x0 ys k lo st'/\∀j,lo<=j->it ys j=it w j) ?_ (λ_ _ h=>h) ⟨w,l,rfl,ai,p,λ_ _=>rfl⟩) ?_)
      . rintro y c U _ _⟨B,k,rfl,C,J,sm⟩;refine wpS_bind (wpS_get ?_);try dsimp only
        have stop:∃ys k,((none,()):Option Unit×Unit)=(none,())/\k≠[]/\SR κ ok K x0 ys k lo U/\∀j,lo<=j->it ys j=it w j:=⟨B,k,rfl,C,J,sm⟩;split
        . rename_i al ho;split;.exact wpS_pure stop
          . have aw:(pendingOf U).size>1:=by
             by_cases hh:(pendingOf U).size>1;.exact hh
             .rw[if_neg hh]at ho;exact nomatch ho
            have am:k.length=(pendingOf U).size:=by rw[<-J.pend];simp
            refine wpS_bind (yw R J (by omega) λG X JV H W S8=>?_);simp only[Bool.not_true,false_eq_true,if_false];exact wpS_pure ⟨G,X,rfl,by rintro rfl;simp at W;omega,H,λj hj=>(S8 j hj).trans (sm j hj)⟩
        .exact wpS_pure stop
      .rintro c U⟨B,k,rfl,C,J,sm⟩;dsimp only;obtain⟨X,_,ap⟩:=J.pow (pw:=pw) C;refine wpS_bind (wpS_modify ?_);have ax:=big J;exact wpS_bind (wpS_modify (wpS_pure ⟨B,_,lo+n,rfl,ap.push m1 (by omega) (uI (λi i1 _=>sm i i1) z),by omega⟩))
 . rintro c N⟨ys,l,lo,rfl,o,Y⟩;have:=o.le;have:=big o;have:lo=x0.size:=by omega
   subst this;exact⟨ys,l,rfl,o⟩
 . rintro c N⟨ys,l,rfl,o⟩;dsimp only;have hl:=oR o.S6;refine wpS_bind (wpS_mono (wpS_forRange (I:=λx c st'=>∃ys l,c=(none,())/\SR κ ok K x0 ys l x0.size st'/\l.length<=max 1 (x0.size-x)) (Q:=λc st'=>∃ys l,c=(none,())/\SR κ ok K x0 ys l x0.size st'/\l.length<=1) ?_ ?_ ⟨ys,l,rfl,o,by omega⟩) ?_)
   . rintro x c f _ hx⟨G,k,rfl,v,C⟩;refine wpS_bind (wpS_get ?_);try dsimp only
     have am:k.length=(pendingOf f).size:=by rw[<-v.pend];simp
     by_cases c1:(pendingOf f).size<=1;.rw[if_pos c1];exact wpS_pure ⟨G,k,rfl,v,by omega⟩
     rw[if_neg c1];refine wpS_bind (yw R v (QC (by omega)) λar X JV H W _=>?_);simp only[Bool.not_true,false_eq_true,if_false];exact wpS_pure ⟨ar,X,rfl,H,by omega⟩
   .rintro c f⟨G,k,rfl,v,C⟩;exact⟨G,k,rfl,v,by omega⟩
   .rintro c f⟨G,k,rfl,v,C⟩;dsimp only;have hz:=big v;refine wpS_pure (q G f v.arr v.fail v.perm ?_);match k,C,v.S6 with|[],_,e=>have e:0=x0.size:=e;intro i j _ _ _;omega|[r],_,⟨_,_,g,e⟩=>have e:0+r.2.1=x0.size:=e;rw[e]at g;rwa[hz]
end
end HH
end
section
namespace HH
open PySem PySem.W PyProof.Rows PySem.Calls L2 PySem.Spec
theorem Aq{i o:Type}{f:i->o}{p m:List o}(h:p.Perm m):∀{l:List i},m=l.map f->∃k:List i,k.Perm l/\k.map f=p:=by induction h with
 |nil=>intro l e;cases l with|nil=>exact⟨[],.refl _,rfl⟩|cons _ _=>cases e
 |cons x h r=>intro l e;cases l with|nil=>cases e|cons a l=>obtain⟨c,g⟩:=List.cons.inj e;obtain⟨k,h1,q⟩:=r g;exact⟨a::k,h1.cons a,by rw[map_cons,q,c]⟩
 |swap x y z=>intro l e;match l,e with|a::b::l,e=>obtain⟨c,g⟩:=List.cons.inj e;obtain⟨s,t⟩:=List.cons.inj g;exact⟨b::a::l,.swap ..,by rw[map_cons,map_cons,c,s,t]⟩
 |trans h1 q j n=>intro l e;obtain⟨k,u,c⟩:=n e;obtain⟨v,w,g⟩:=j c.symm;exact⟨v,w.trans u,g⟩
theorem Jy(a:List Int):aN a a=false:=by cases h:aN a a with|false=>rfl|true=>rw[jM _ _ h]at h;cases h
theorem Ek{a b x:List Int}(h:aN b a=false)(c:aN x a=true):aN x b=true:=by cases e:aN x b with|true=>rfl|false=>rw[xN _ _ _ h e]at c;cases c
theorem qM{a:Type}{p q:a->Bool}(h:∀x,p x=true->q x=true):∀{l:List a},(∃x,x∈l/\q x=true/\p x=false)->l.countP p<l.countP q
 |[],⟨x,hx,_⟩=>by cases hx|y::l,⟨x,hx,h1,b⟩=>by
   rw[List.countP_cons,List.countP_cons];have m:=List.countP_mono_left (l:=l) (p:=p) (q:=q) λx _=>h x;rcases mem_cons.mp hx with rfl|hx;.rw[h1,b,if_pos rfl,if_neg (by simp)];omega
   .have:=qM h ⟨x,hx,h1,b⟩;cases hp:p y with|true=>rw[h y hp];omega|false=>rw[if_neg (by simp)];omega
noncomputable def M9(a:List D)(d:D):Nat:=a.countP λe=>aN (bR e) (bR d)
theorem Gi{a:List D}{d e:D}(hd:d∈a):decide ((M9 a d:Int)<M9 a e)=aN (bR d) (bR e):=by cases h:aN (bR d) (bR e)with|true=>have:=qM (l:=a) (p:=λx=>aN (bR x) (bR d)) (q:=λx=>aN (bR x) (bR e)) (λx b=>Ek (jM _ _ h) b) ⟨d,hd,h,Jy _⟩;rw[decide_eq_true_iff];unfold M9;omega|false=>have:=List.countP_mono_left (l:=a) (p:=λx=>aN (bR x) (bR e)) (q:=λx=>aN (bR x) (bR d)) λx _ b=>Ek h b;rw[decide_eq_false_iff_not];unfold M9;omega
open Classical in
noncomputable def Zo(P:Value->D->Prop)(a:List D)(x:Keyed):Int:=if h:∃d,d∈a/\P x.1 d then(M9 a h.choose:Int)else 0
theorem yF{P:Value->D->Prop}{a:List D}{x:Keyed}{d:D}(fn:∀u d e,P u d->P u e->bR d=bR e)(hd:d∈a)(b:P x.1 d):Zo P a x=M9 a d:=by have h:∃d,d∈a/\P x.1 d:=⟨d,hd,b⟩;unfold Zo;rw[dif_pos h];unfold M9;rw[fn _ _ _ h.choose_spec.2 b]
noncomputable def pick{a:Type}(d:a)(p:List Nat)(l:List a):List a:=p.map λi=>l.getD i d
theorem n8{a:Type}(d:a)(l:List a):pick d (List.range l.length) l=l:=by refine ext_getElem (by simp[pick]) λi h1 b=>?_;simp[pick,b]
theorem ni{a:Type}{d:a}{p:List Nat}{l:List a}{n:Nat}(h:p.Perm (List.range n)):(pick d p l).length=n:=by rw[pick,length_map,h.length_eq,length_range]
theorem iK{P:Value->D->Prop}:∀{b:List Value}{a:List D},Paired P b a->∀i,i<b.length->P (b.getD i .none) (a.getD i .non)/\a.getD i .non∈a|_,_,.cons r _,0,_=>⟨by simpa using r,by simp⟩|_,_,.cons _ t,i+1,hi=>by have:=iK t i (by simpa using hi);exact⟨by simpa using this.1,by simpa using Or.inr this.2⟩
section
variable{prog:Program}{w:World}{A:Around}{E:Value->Shared->Prop}{s:Shared}{vs:List Value}{κ:SortKind}{P:Value->D->Prop}{ds:List D}
theorem Bm{a:Addr}{n:Nat}{O:PySem.Fin->Shared->Prop}(ho:s.heap.get? a=some (seqObj "list" vs.toArray n))(so:sortable ds=true)(hz:vs.length<=16777216)(L:Paired P vs ds)(fn:∀u d e,P u d->P u e->bR d=bR e)(m:∀h',(∀b o,b≠a->s.heap.get? b=some o->h'.get? b=some o)->∀C:SortKind->Shared->Prop,C κ {s with heap:=h'}->2<=vs.length->wpAny (model prog w) A (keyKind' vs.toArray) C (λ_ _=>False) {s with heap:=h'})(hl:∀h',(∀b o,b≠a->s.heap.get? b=some o->h'.get? b=some o)->∀u v d e,P u d->P v e->∀C:Bool->Shared->Prop,C (aN (bR d) (bR e)) {s with heap:=h'}->wpAny (model prog w) A (keyLt' κ u v) C (λ_ _=>False) {s with heap:=h'})(h:∀h' c p,(∀b o,b≠a->s.heap.get? b=some o->h'.get? b=some o)->p.Perm (List.range vs.length)->pick .non p ds=m9 ds->h'.get? a=some (seqObj "list" (pick .none p vs).toArray c)->O (.done (.ret .none)) {s with heap:=h'}):wpAny (model prog w) A (Builtin.«list.sort» ⟨[.ref a],[]⟩) O E s:=by
 have ha:a<s.heap.objs.size:=lt_size ho;have z:vs.length=ds.length:=Paired.length L;obtain⟨r,B⟩:∃r,(s.heap.update a (Obj.mapSeq λ_=>(#[]:Array Value))).get? a=some (seqObj "list" #[] r):=⟨_,get?_update_seq ho λ_=>#[]⟩;rw[list_sort_plain];refine wpAny_bind (listItems_at ho rfl ?_);refine wpAny_bind (listUpdate_at ho rfl ?_ (by rw[size_toArray,sizeLine_eq];omega) (pG));refine wpAny_bind (seqEpoch_at B rfl ?_);refine wpAny_bind (wpAny_newTuple ?_ (by show vs.length<=_;rw[sizeLine_eq];omega));refine wpAny_bind (wpAny_newList ?_ (pG));refine wpAny_holding ?_;generalize hH:(((s.heap.update a (Obj.mapSeq λ_=>(#[]:Array Value))).push {cls:=.type "tuple",data:=.seq vs.toArray}).push {cls:=.type "list",data:=.seq #[]}:Heap)=g;have G:g.get? a=some (seqObj "list" #[] r):=by rw[<-hH];exact fH (fH B)
 have keep:∀b o,b≠a->s.heap.get? b=some o->g.get? b=some o:=λb o M e=>by rw[<-hH];exact fH (fH ((get?_update_other _ _ (Ne.symm M)).trans e))
 have fin:∀p:List Nat,p.Perm (List.range vs.length)->pick .non p ds=m9 ds->O (.done (.ret .none)) {s with heap:=g.update a (Obj.mapSeq λ_=>toArray (pick .none p vs))}:=by intro p h1 f;obtain⟨c2,U⟩:∃c2,(g.update a (Obj.mapSeq λ_=>toArray (pick Value.none p vs))).get? a=some (seqObj "list" (pick Value.none p vs).toArray c2):=⟨_,get?_update_seq G λ_=>toArray (pick Value.none p vs)⟩;exact h _ c2 p (λb o M e=>(get?_update_other _ _ (Ne.symm M)).trans (keep b o M e)) h1 f U
 show wpAny (model prog w) A _ O E {s with heap:=g};dsimp only;by_cases f:vs.toArray.size<2
 . rw[if_pos f,if_pos f];refine wpAny_bind (wpAny_pure ?_);rw[StateT.run_pure];refine wpAny_bind (wpAny_pure ?_);dsimp only;have eo:(arrOf (SortSt.mk' general' (vs.toArray.zip vs.toArray) #[] 7 none)).map (·.2)=toArray (pick Value.none (List.range vs.length) vs):=by rw[n8];apply Array.toList_inj.mp;show((vs.toArray.zip vs.toArray).map (·.2)).toList=vs;simp[List.map_snd_zip]
   rw[eo];refine wpAny_bind (seqEpoch_at G rfl ?_);refine wpAny_bind (listUpdate_at G rfl ?_ (pG) (by rw[size_toArray,ni (.refl _),sizeLine_eq];omega));simp only[bne_self_eq_false,false_eq_true,if_false];refine wpAny_pure (fin _ (.refl _) ?_);rw[z,n8];refine nG so (.refl _) ?_;match ds,(show ds.length<2 by simp at f;omega)with|[],_=>exact .nil|[_],_=>exact List.pairwise_singleton ..|_::_::_,f=>simp at f;omega
 . rw[if_neg f,if_neg f];have W:2<=vs.length:=by simpa using f
   refine wpAny_bind (m g keep _ ?_ W|>λq=>wpAny_mono q (λ_ _ x=>x) λ_ _ x=>x.elim);have H:(vs.toArray.zip vs.toArray).toList=(List.range vs.length).map λi=>(vs.getD i Value.none,vs.getD i Value.none):=by
    refine ext_getElem (by simp) λi h1 f=>?_;have:i<vs.length:=by simpa using f
    simp[this]
   have X:∀x∈(vs.toArray.zip vs.toArray).toList,∃d,d∈ds/\P x.1 d:=λx hx=>by rw[H]at hx;obtain⟨i,hi,rfl⟩:=mem_map.mp hx;have:=iK L i (mem_range.mp hi);exact⟨_,this.2,this.1⟩
   have R:Rk (model prog w) A E {s with heap:=g} κ (λx=>∃d,d∈ds/\P x.1 d) (Zo P ds):=⟨by rintro x y Q st⟨d,d1,d2⟩⟨e,r,N⟩Y hq;rw[yF fn d1 d2,yF fn r N,Gi d1]at hq;rw[lt'_eq];refine wpS_bind (wpS_get ?_);rw[Y];refine wpS_bind (wpS_lift (wpAny_attempt (wpAny_mono (hl g keep x.1 y.1 d e d2 N (λb Z=>Z={s with heap:=g}/\b=aN (bR d) (bR e)) ⟨rfl,rfl⟩) ?_ λ_ _ h=>h.elim)));rintro b Z⟨rfl,rfl⟩;exact⟨rfl,wpS_pure hq⟩⟩;have run:=Jc R (x0:=vs.toArray.zip vs.toArray) (st:=SortSt.mk' κ (vs.toArray.zip vs.toArray) #[] 7 none) (Q:=λ_ l=>∃p:List Nat,p.Perm (List.range vs.length)/\pick .non p ds=m9 ds/\(arrOf l).map (·.2)=(pick Value.none p vs).toArray/\failedOf l=none) ⟨rfl,rfl,rfl,rfl,.refl _,X,rfl,pG⟩ λys l r N e3 e4=>by
     rw[H]at e3;obtain⟨p,t,I⟩:=Aq e3 rfl;have hpl:p.length=vs.length:=by rw[t.length_eq,length_range]
     have ae:ys.size=vs.length:=by rw[<-length_toList,<-I,length_map,hpl]
     refine⟨p,t,nG so ?_ ?_,?_,N⟩;.have:=t.map λi=>ds.getD i .non;rw[z]at this;exact this.trans (.of_eq (n8 D.non ds))
     . rw[List.pairwise_iff_getElem];intro i j hi hj af;simp only[pick,length_map]at hi hj;have sg:=e4 i j (pG) (by omega) (by omega);have at':∀k(m:k<p.length),it ys k=(vs.getD p[k] .none,vs.getD p[k] .none):=λk m=>by rw[fY,<-I];simp[m]
       have inn:∀k(m:k<p.length),p[k]<vs.length:=λk m=>mem_range.mp (t.mem_iff.mp (getElem_mem m));rw[at' i hi,at' j hj]at sg;have a1:=iK L p[i] (inn i hi);have a2:=iK L p[j] (inn j hj);rw[yF fn a1.2 a1.1,yF fn a2.2 a2.1]at sg;simp only[pick,List.getElem_map,mz,not_eq_true'];rw[<-Gi a2.2,decide_eq_false_iff_not];omega
     .apply Array.toList_inj.mp;rw[r,Array.toList_map,<-I,map_map];rfl
   refine wpAny_bind (wpAny_mono run ?_ λ_ _ e=>e);rintro⟨⟨⟩,l⟩Z⟨rfl,p,t,I,J,hf⟩;dsimp only;rw[J];refine wpAny_bind (seqEpoch_at G rfl ?_);refine wpAny_bind (listUpdate_at G rfl ?_ (pG) (by rw[size_toArray,ni t,sizeLine_eq];omega));rw[hf];simp only[bne_self_eq_false,false_eq_true,if_false];exact wpAny_pure (fin _ t I)
end
end HH
end
section
namespace HH
open PySem L2 PySem.Spec PyProof.Rows PySem.Calls PySem.W
section
variable{prog:Program}{w:World}{A:Around}{E:Value->Shared->Prop}{s:Shared}{vs:List Value}{κ:SortKind}{P:Value->D->Prop}{ds:List D}
theorem lN{b fin:Bool}{Q:Bool->Shared->Prop}:∀{xs ys:List Value}{is js:List Int}{i:Nat},IntsAre xs is->IntsAre ys js->fin=decide (is.length<js.length)->Q (aN is js) s->KatLex prog w A b fin Q (xs.zip ys) i s
 |_,_,_,_,_,.nil,.nil,e,h=>by subst e;exact kat_nil (by simpa[aN]using h)|_,_,_,_,_,.nil,.cons _ _ _,e,h=>by subst e;exact kat_nil (by simpa[aN]using h)|_,_,_,_,_,.cons _ _ _,.nil,e,h=>by subst e;exact kat_nil (by simpa[aN]using h)|_,_,_,_,i,.cons (ns:=is) x t r,.cons (ns:=js) y u r',e,h=>by
   refine kat_cons (wpAny_eqBool_int ?_);by_cases q:x=y;.subst q;rw[beq_self_eq_true];refine kat_yes (lN r r' (by rw[e];simp) ?_);simpa[aN]using h
   . rw[beq_eq_false_iff_ne.mpr q];refine kat_no ?_;have a:Q (decide (x<y)) s:=by simpa[aN,q]using h
     cases(b&&i==0)with|true=>exact oneLt_int a|false=>exact kat_one _ _ (wpAny_lt_int a)
def lZ(h:Heap)(u:Value)(d:D):Prop:=∃a b is,u=.ref a/\IsTup h a (toArray b)/\IntsAre b is/\is≠[]/\bR d=is
theorem lL{h h':Heap}(k:∀b o,h.get? b=some o->h'.get? b=some o){u:Value}{d:D}(t:lZ h u d):lZ h' u d:=by obtain⟨a,c,is,e,⟨o,h1,f⟩,g⟩:=t;exact⟨a,c,is,e,⟨o,k _ _ h1,f⟩,g⟩
theorem qw{h h':Heap}(k:∀b o,h.get? b=some o->h'.get? b=some o):∀{a:List Value}{ds:List D},Paired (lZ h) a ds->Paired (lZ h') a ds|_,_,.nil=>.nil|_,_,.cons r t=>.cons (lL k r) (qw k t)
theorem lW{h:Heap}:∀{b:List Value}{ds:List D},Paired (lZ h) b ds->∃fs,KatTups h b fs/\fs.length=b.length/\∀f∈fs,∃n t,f=Value.int n t|_,_,.nil=>⟨[],trivial,rfl,by simp⟩|_,_,.cons r t=>by obtain⟨fs,h1,e,g⟩:=lW t;obtain⟨a,i,is,rfl,⟨o,j,k,n,l⟩,hi,c,_⟩:=r;cases hi with|nil=>exact absurd rfl c|cons x m r'=>
     refine⟨.int x m::fs,KatTups.cons j k l (by simp) h1,by simp[e],λf hf=>?_⟩;rcases mem_cons.mp hf with rfl|hf;.exact⟨_,_,rfl⟩
     .exact g f hf
theorem Bj{ds:List D}(t:Paired (lZ s.heap) vs ds)(e:2<=vs.length){C:SortKind->Shared->Prop}(a:C (tuples' (Value.type "int"!=Value.type "tuple")) s):wpAny (model prog w) A (keyKind' vs.toArray) C E s:=by obtain⟨fs,h1,f,b⟩:=lW t;refine kat_kind (T:=.type "int") h1 (by omega) (λv c=>?_) rfl a;obtain⟨n,t,rfl⟩:=b v c;exact Looks.now
theorem Jz{x y:Value}{d e:D}(h:lZ s.heap x d)(i:lZ s.heap y e){b:Bool}{C:Bool->Shared->Prop}(c:C (aN (bR d) (bR e)) s):wpAny (model prog w) A (keyLt' (tuples' b) x y) C E s:=by obtain⟨a,j,is,rfl,⟨o,k,u,n,l⟩,hi,m,p⟩:=h;obtain⟨v,its',js,rfl,⟨z,q,B,G,r⟩,f,g,t⟩:=i;refine kat_lt k l q r ?_;rw[p,t]at c;refine lN (is:=is) (js:=js) (by simpa using hi) (by simpa using f) ?_ c;rw[size_toArray,size_toArray,IntsAre.length hi,IntsAre.length f]
end
theorem Ar{xs:List V}{a:List Value}(h:Vals xs a)(i:Nat):RelV (xs.getD i .non) (a.getD i .none):=by
 have f:=h.length;by_cases hi:i<xs.length
 . obtain⟨u,e,r⟩:=h.get (i:=i) (x:=xs[i]) (List.getElem?_eq_getElem hi);have b:xs.getD i .non=xs[i]:=by simp[hi]
   have c:a.getD i .none=u:=by simp[e]
   rw[b,c];exact r
 . have b:xs.getD i .non=.non:=by simp[Nat.le_of_not_lt hi]
   have c:a.getD i .none=.none:=by simp[show a.length<=i by omega]
   rw[b,c];rfl
theorem uB{f:Nat->V}{g:Nat->Value}(h:∀i,RelV (f i) (g i)):∀l:List Nat,Vals (l.map f) (l.map g)|[]=>.nil|i::l=>.cons (h i) (uB h l)
theorem Gr{p:List Nat}{xs:List V}{a:List Value}(h:Vals xs a):Vals (pick .non p xs) (pick .none p a):=uB (Ar h) _
theorem uW{K:PySem.W.Frag}{F:Hp}{f:Nat->V}{g:Nat->D}(h:∀i,Rep K F (f i) (g i)):∀l:List Nat,au K F (l.map f) (l.map g)|[]=>.nil|i::l=>.cons (h i) (uW h l)
theorem Dg{K:PySem.W.Frag}{F:Hp}{p:List Nat}{xs:List V}{a:List D}(h:au K F xs a):au K F (pick .non p xs) (pick .non p a):=uW (λi=>by
 have f:=h.length;by_cases hi:i<a.length
 . obtain⟨u,e,r⟩:=h.get (i:=i) (d:=a[i]) (List.getElem?_eq_getElem hi);have b:a.getD i .non=a[i]:=by simp[hi]
   have c:xs.getD i .non=u:=by simp[e]
   rw[b,c];exact r
 . have b:a.getD i .non=.non:=by simp[Nat.le_of_not_lt hi]
   have c:xs.getD i .non=.non:=by simp[show xs.length<=i by omega]
   rw[b,c,Rep]) _
theorem Fw{a:List Value}:∀{ns b:List Int},IntsAre a ns->IntsAre a b->ns=b:=by induction a with|nil=>intro ns b h1 c;cases h1;cases c;rfl|cons u a e=>intro ns b h1 c;cases h1 with|cons n t r=>cases c with|cons m t' r'=>rw[e r r']
theorem Hl{h:Heap}(u:Value)(d e:D):lZ h u d->lZ h u e->bR d=bR e:=λ⟨a,i,is,h1,⟨o,j,t,n,k⟩,l,_,p⟩⟨b,q,js,c,⟨v,f,w,m,g⟩,r,_,s⟩=>by rw[h1]at c;cases c;rw[j]at f;cases f;rw[k]at g;cases g;rw[p,s,Fw l r]
theorem all_ints:∀{a:List D},a.all eX=true->a=(a.map pO).map D.int
 |[],_=>rfl|d::a,h=>by
   simp only[all_cons,and_eq_true]at h;cases d<;>first|(have q:=h.1;simp[eX]at q;done)|skip
   rw[map_cons,map_cons,<-all_ints h.2];rfl
theorem intsAre_of:∀{ns:List Int}{a:List Value},Vals (ns.map V.int) a->IntsAre a ns|[],_,.nil=>.nil|n::ns,_,.cons r t=>by obtain⟨b,rfl⟩:=r;exact .cons n b (intsAre_of t)
section
variable{X:Cx}{c:Call}{a:Expr}{pa:P}{pos:Pos}
theorem boot_sorted:bootBuiltins "sorted"=some (.builtin "sorted"):=by decide+kernel
end
end HH
end
section
namespace HH
open PySem L2 PySem.Spec PyProof.Rows PySem.Calls
theorem wK(l b:Addr)(items a:List Value)(n H:Nat)(I o:Option Addr)(sl r:Array (Option Value))(is js:List Int)(hi:IntsAre items is)(G:IntsAre a js):Meets (Builtin.«tuple.__lt__» ⟨[.ref l,.ref b],[]⟩) (λA R s=>s.heap.get? l=some {cls:=.type "tuple",dict:=I,data:=.seq items.toArray n,slots:=sl}/\s.heap.get? b=some {cls:=.type "tuple",dict:=o,data:=.seq a.toArray H,slots:=r}/\R (.ok (.ret (.bool (aN is js)))) s):=.of_wp λprog w A R s h=>by
  obtain⟨v,g,d,z,os⟩:=s;obtain⟨J,L,h⟩:=h;have f2:=AutoSeq1.sub_tuple_tuple;wp_walk using wpAny_loadPart' J,wpAny_loadPart' L,wpAny_forIn_list _ (λf b B=>b.1=none/\B=⟨v,g,d,z,os⟩/\∃xs ys c j,f=xs.zip ys/\IntsAre xs c/\IntsAre ys j/\decide (items.length<a.length)=decide (c.length<j.length)/\R (.ok (.ret (.bool (aN c j)))) ⟨v,g,d,z,os⟩) _;case turn=>rintro⟨y,x⟩f b B⟨i,rfl,xs,ys,c,j,hz,h1,k,C,m⟩;cases h1 with|nil=>cases hz|cons p t h1=>cases k with|nil=>cases hz|cons q u k=>
       injection hz with hyx hrest;cases hyx;refine wpAny_bind (wpAny_eqBool_int ?_);by_cases e:p=q;.subst e;rw[beq_self_eq_true];wp_walk;exact⟨rfl,rfl,_,_,_,_,hrest,h1,k,by rw[C];simp,by simpa[aN]using m⟩
       . rw[beq_eq_false_iff_ne.mpr e];have E:R (.ok (.ret (.bool (decide (p<q))))) ⟨v,g,d,z,os⟩:=by simpa[aN,e]using m
         simp only[Bool.not_false,if_true];refine wpAny_bind (wpAny_rule ?_);refine wpAny_bind (show wpAny (model prog w) A.in1 (compareOp .Lt (Value.int p t) (Value.int q u)) _ _ _ from wpAny_lt_int ?_);refine wpAny_bind (wpAny_pure ?_);exact wpAny_pure (wpAny_pure ⟨_,rfl,E⟩)
  case fin=>
   rintro⟨b1,b2⟩B⟨i,rfl,xs,ys,c,j,hz,h1,k,C,m⟩;simp only at i;subst i;have e:aN c j=decide (items.length<a.length):=by rw[C];cases h1 with|nil=>cases k<;>simp[aN]|cons _ _ _=>cases k with|nil=>simp[aN]|cons _ _ _=>cases hz
   rw[e]at m;wp_walk;exact⟨_,rfl,by simpa[Builtin.Tuple.tupleCompareSizes]using m⟩
  case h=>exact⟨rfl,rfl,items,a,is,js,by simp,hi,G,by rw[IntsAre.length hi,IntsAre.length G],h⟩
section
variable{X:Cx}
theorem Pu(hu:X.A.units+8<cLine):gD X (compareOp .Lt) (rD X.K (Bf .lt)):=by rintro f s σ H x y v u Q I G J⟨F,d,e,r,sm,L,M,he,k⟩;obtain⟨t,c,q⟩:=map_some (show(Ud d e).map _=some r from he);subst q;cases d with
 |int i=>cases e with|int j=>exact O7 f s σ H x y v u Q I G J ⟨F,.int i,.int j,_,sm,L,M,by have q:G7 (λi j=>decide (i<j)) (.int i) (.int j)=some t:=c;simp only[q];rfl,k⟩|_=>cases c
 |tup xs=>cases e with|tup ys=>obtain⟨hc,c⟩:=aW (show(if(xs.all eX&&ys.all eX)=true then some (aN (xs.map pO) (ys.map pO))else none)=some t from c);rw[and_eq_true]at hc;obtain⟨a,vs,rfl,h1,N,_⟩:=L.tup sm;obtain⟨b,ws,rfl,Y,O,_⟩:=M.tup sm;cases G;cases J;obtain⟨z,U,it,_⟩:=I.tuple h1;obtain⟨g,h,B,_⟩:=I.tuple Y;rw[all_ints hc.1]at N;rw[all_ints hc.2]at O;rw[iC N]at U;rw[iC O]at h;have i1:=intsAre_of U;have i2:=intsAre_of h;obtain⟨⟨cls,Z,data,sl⟩,ho,l,n,hd⟩:=it;obtain⟨⟨W,C,data2,E⟩,m,o,n2,p⟩:=B;simp only at l hd o p;subst l hd o p;refine(show wpAny (model X.prog X.w) X.A (richCompare .Lt (.ref a) (.ref b)) _ _ s from richCompare_meets_room (op:=.Lt) ⟨_,ho,rfl⟩ ⟨_,m,rfl⟩ PySem.F.slot_tuple_lt PySem.F.entry_tuple_lt (PySem.F.args_tuple_lt_2 _ _) (wK a b z g n n2 Z C sl E _ _ i1 i2) ⟨ho,m,show Value.bool _≠Value.notImplemented/\_ from⟨(λx=>nomatch x),⟨.bl t,H,I,by rw[<-c];rfl,bH.bZ sm (gB _) k⟩⟩⟩ (by omega))|_=>cases c
 |_=>cases c
end
end HH
end
section
namespace L2
open PySem PySem.Spec PyProof.Rows
variable{y:V}{w:World}{H:Hp}{Q:Value->Shared->Prop}{pos:Pos}{X:Cx}
section
variable{κ:Type}[DecidableEq κ]
noncomputable def gF(kvs:List (κ×V))(k:κ):Option V:=(kvs.find? λa=>decide (a.1=k)).map (·.2)
noncomputable def putK(kvs:List (κ×V))(k:κ)(v:V):List (κ×V):=if(kvs.any λa=>decide (a.1=k))=true then kvs.map (λa=>if a.1=k then(a.1,v)else a)else kvs++[(k,v)]
theorem jK{p:κ×V}{r:List (κ×V)}{k:κ}(e:p.1=k):gF (p::r) k=some p.2:=by simp[gF,find?_cons,e]
theorem jN{p:κ×V}{r:List (κ×V)}{k:κ}(e:¬ p.1=k):gF (p::r) k=gF r k:=by simp[gF,find?_cons,e]
theorem nU(k:κ):∀kvs:List (κ×V),(kvs.any λa=>decide (a.1=k))=(gF kvs k).isSome
 |[]=>rfl|p::r=>by
   rw[any_cons];by_cases e:p.1=k;.simp only[jK e,decide_eq_true e,Bool.true_or,Option.isSome_some]
   .rw[jN e,decide_eq_false e,Bool.false_or];exact nU k r
theorem ig(kvs:List (κ×V))(k:κ)(v:V):(putK kvs k v).length<=kvs.length+1:=by
 unfold putK;split;.rw[length_map];omega
 .rw[length_append,length_cons,length_nil];omega
theorem mj.fL{o:Option V}{u:Option Value}(r:mj o u):o.isSome=u.isSome:=by cases o with
 |none=>cases u with|none=>rfl|some _=>exact(show False from r).elim
 |some _=>cases u with|none=>exact(show False from r).elim|some _=>rfl
theorem mj.getD{o:Option V}{u:Option Value}{d:V}{d':Value}(r:mj o u)(a:RelV d d'):RelV (o.getD d) (u.getD d'):=by cases o with
 |none=>cases u with|none=>exact a|some _=>exact(show False from r).elim
 |some _=>cases u with|none=>exact(show False from r).elim|some _=>exact r
theorem KV.val{kvs:List (κ×V)}{vs:List (κ×Value)}(r:KV kvs vs)(k:κ):mj (gF kvs k) (valueAt vs k):=by unfold KV at r;induction r with|nil=>exact True.intro|@cons p q ps a h t f=>
   obtain⟨h1,g⟩:=h;by_cases e:p.1=k
   . have c:q.1=k:=h1.symm.trans e;have b:valueAt (q::a) k=some q.2:=by simp[valueAt,find?_cons,c]
     rw[jK e,b];exact g
   . have c:¬ q.1=k:=λz=>e (h1.trans z);have b:valueAt (q::a) k=valueAt a k:=by simp[valueAt,find?_cons,c]
     rw[jN e,b];exact f
theorem KV.any{kvs:List (κ×V)}{vs:List (κ×Value)}(r:KV kvs vs)(k:κ):(kvs.any λa=>decide (a.1=k))=vs.any λa=>decide (a.1=k):=by unfold KV at r;induction r with|nil=>rfl|cons h t b=>rw[any_cons,any_cons,b,h.1]
theorem KV.repl{kvs:List (κ×V)}{vs:List (κ×Value)}(r:KV kvs vs)(k:κ){u:Value}(b:RelV y u):KV (kvs.map λa=>if a.1=k then(a.1,y)else a) (vs.map λa=>if a.1=k then(a.1,u)else a):=by unfold KV at r ⊢;induction r with|nil=>exact .nil|@cons p q ps g h t c=>
   rw[map_cons,map_cons];refine .cons ?_ c;obtain⟨h1,f⟩:=h;by_cases e:p.1=k;.rw[if_pos e,if_pos (h1.symm.trans e)];exact⟨h1,b⟩
   .rw[if_neg e,if_neg (λz=>e (h1.trans z))];exact⟨h1,f⟩
theorem KV.put{kvs:List (κ×V)}{vs:List (κ×Value)}(r:KV kvs vs)(k:κ){u:Value}(a:RelV y u):KV (putK kvs k y) (stored vs k u):=by
 unfold putK stored;rw[r.any k];by_cases e:(vs.any λb=>decide (b.1=k))=true;.rw[if_pos e,if_pos e];exact r.repl k a
 .rw[if_neg e,if_neg e];exact Paired.snoc r ⟨rfl,a⟩
theorem KV.length{kvs:List (κ×V)}{vs:List (κ×Value)}(r:KV kvs vs):kvs.length=vs.length:=Paired.length r
end
theorem oE{P:Program}{k:Key}{u:Value}(r:RelV (kV k) u):(aL P w).is k u=true:=by cases k with|inl i=>obtain⟨t,e⟩:=(show ∃t,u=Value.int i t from r);subst e;exact vK P w i t|inr x=>obtain⟨t,e⟩:=(show ∃t,u=Value.str x t from r);subst e;exact vG P w x t
theorem qu{P:Program}{w:World}:∀{ks:List Key}{a:List Value},Vals (ks.map kV) a->ItemsAre (aL P w) ks a|[],_,r=>by rw[map_nil]at r;cases r;exact .nil|k::ks,_,r=>by rw[map_cons]at r;cases r with|cons h t=>exact .cons (oE h) (qu t)
abbrev KT(H:Hp):List (List Key×V)->List (List Key×Addr×Value)->Prop:=Paired λp q=>p.1=q.1/\H q.2.1=some (.tup (p.1.map kV))/\RelV p.2 q.2.2
theorem KT.val{kvs:List (List Key×V)}{xs:List (List Key×Addr×Value)}(r:KT H kvs xs)(k:List Key):mj (gF kvs k) ((atKey xs k).map (·.2)):=by induction r with|nil=>exact True.intro|@cons p q ps a h t f=>
   obtain⟨h1,_,g⟩:=h;by_cases e:p.1=k
   . have c:q.1=k:=h1.symm.trans e;have b:atKey (q::a) k=some q.2:=by simp[atKey,find?_cons,c]
     rw[jK e,b];exact g
   . have c:¬ q.1=k:=λz=>e (h1.trans z);have b:atKey (q::a) k=atKey a k:=by simp[atKey,find?_cons,c]
     rw[jN e,b];exact f
theorem KT.repl{kvs:List (List Key×V)}{xs:List (List Key×Addr×Value)}(r:KT H kvs xs)(k:List Key){u:Value}(c:RelV y u):KT H (kvs.map λa=>if a.1=k then(a.1,y)else a) (xs.map (putAt k u)):=by induction r with|nil=>exact .nil|@cons p q ps i h t f=>
   rw[map_cons,map_cons];refine .cons ?_ f;obtain⟨h1,b,g⟩:=h;unfold putAt;by_cases e:p.1=k;.rw[if_pos e,if_pos (h1.symm.trans e)];exact⟨h1,b,c⟩
   .rw[if_neg e,if_neg (λz=>e (h1.trans z))];exact⟨h1,b,g⟩
theorem KT.put{kvs:List (List Key×V)}{xs:List (List Key×Addr×Value)}(r:KT H kvs xs)(k:List Key){b:Addr}{u:Value}(c:H b=some (.tup (k.map kV)))(a:RelV y u):KT H (putK kvs k y) (storedH xs k b u):=by
 have e:(kvs.any λf=>decide (f.1=k))=(atKey xs k).isSome:=by rw[nU,(r.val k).fL,isSome_map]
 unfold putK storedH;rw[e];by_cases q:(atKey xs k).isSome=true;.rw[if_pos q,if_pos q];exact r.repl k a
 .rw[if_neg q,if_neg q];exact Paired.snoc r ⟨rfl,c,a⟩
theorem KT.keeps{a:Hp}{kvs:List (List Key×V)}{xs:List (List Key×Addr×Value)}(r:KT H kvs xs)(ht:∀b ys,H b=some (.tup ys)->a b=some (.tup ys)):KT a kvs xs:=Paired.LQ r λ_ _ z=>⟨z.1,ht _ _ z.2.1,z.2.2⟩
section
variable{P:Program}{w:World}{H:Hp}{h:Heap}{a:Addr}
theorem KY{u:HO}(ok:kW P w H h)(e:Rd H a u):aX P w H h a u:=e.ok ok
theorem nR{kvs:List (Key×V)}(ok:kW P w H h)(e:Rd H a (.dK kvs)):kvs.length<=sizeLine/\(a==sysModules)=false/\∃vs,KV kvs vs/\h.DictOf (aL P w) a vs:=show aX P w H h a (.dK kvs)from KY ok e
theorem Km{kvs:List (Key×V)}(ok:kW P w H h)(e:H a=some (.dK kvs)):kvs.length<=sizeLine/\(a==sysModules)=false/\∃vs,KV kvs vs/\h.DictOf (aL P w) a vs:=nR ok (.inl e)
theorem lE{ks:List Key}(ok:kW P w H h)(e:H a=some (.tup (ks.map kV))):(tupleKind (aL P w)).is h ks a:=by obtain⟨_,b,r,o,h1,c,n,f⟩:=(show aX P w H h a (.tup (ks.map kV))from ok a _ e);exact⟨o,b.toArray,n,h1,c,f,by simpa using qu r⟩
theorem oh{kvs:List (List Key×V)}(ok:kW P w H h)(e:Rd H a (.dT kvs)):kvs.length<=sizeLine/\(a==sysModules)=false/\∃xs,KT H kvs xs/\h.DictOfH (tupleKind (aL P w)) a xs:=by
 obtain⟨z,y,xs,r,o,es,ep,h1,c,f,g,i⟩:=(show aX P w H h a (.dT kvs)from KY ok e);refine⟨z,y,xs,r,o,es,ep,h1,c,f,g,λx hx=>?_,i⟩;have all:∀{l:List (List Key×V)}{m:List (List Key×Addr×Value)},KT H l m->∀x∈m,(tupleKind (aL P w)).is h x.1 x.2.1:=by intro l m q;induction q with|nil=>intro x hx;exact nomatch hx|@cons p q ps k b t j=>
    intro x hx;rcases mem_cons.mp hx with e|hx;.subst e;exact lE ok (by rw[<-b.1];exact b.2.1)
    .exact j x hx
 exact all r x hx
theorem UG{kvs:List (List Key×V)}(ok:kW P w H h)(e:H a=some (.dT kvs)):kvs.length<=sizeLine/\(a==sysModules)=false/\∃xs,KT H kvs xs/\h.DictOfH (tupleKind (aL P w)) a xs:=oh ok (.inl e)
end
def lA(H:Hp)(a:Addr)(y:V)(r:Option V):Prop:=(∃kvs k,Rd H a (.dK kvs)/\y=kV k/\r=gF kvs k)\/∃kvs k b,Rd H a (.dT kvs)/\y=.ref b/\H b=some (.tup (k.map kV))/\r=gF kvs k
def Vp(H:Hp)(a:Addr)(y v:V)(c:Hp):Prop:=(∃kvs k,H a=some (.dK kvs)/\y=kV k/\kvs.length<sizeLine/\c=upd H a (.dK (putK kvs k v)))\/∃kvs k b,H a=some (.dT kvs)/\y=.ref b/\H b=some (.tup (k.map kV))/\kvs.length<sizeLine/\c=upd H a (.dT (putK kvs k v))
section
variable{X:Cx}{pins:List (Addr×Obj)}{σ:St}{H:Hp}{s:Shared}{a:Addr}{y v:V}{u r:Value}{o:Option V}{A:Around}{E:Value->Shared->Prop}
theorem Inv.big(I:Inv X pins σ H s):sysModules<s.heap.objs.size:=by have h:mainGlobals<s.heap.objs.size:=(I.mod.glob.keeps I.bk).lt;exact Nat.lt_trans (by decide) h
theorem lC(B:A.units+1<cLine)(I:Inv X pins σ H s)(g:lA H a y (some v))(t:RelV y u)(h:∀f x,Inv X pins σ H x->RelV v f->Q f x):wpAny (model X.prog X.w) A (getItem (.ref a) u) Q E s:=by
 rcases g with⟨kvs,k,e,i,l⟩|⟨kvs,k,b,e,i,C,l⟩;.subst i;obtain⟨z,hd,vs,c,j⟩:=nR I.hok e;obtain⟨f,m,n⟩:=mj.some_of (v:=v) (o:=valueAt vs k) (by rw[l];exact c.val k);exact wpAny_getItem_of (oE t) j.mapOf m (h f _ (I.tok _) n)
 .subst i;cases(show u=Value.ref b from t);obtain⟨z,hd,xs,c,j⟩:=oh I.hok e;obtain⟨f,m,n⟩:=mj.some_of (v:=v) (o:=(atKey xs k).map (·.2)) (by rw[l];exact c.val k);obtain⟨p,G,q⟩:=map_eq_some_iff.mp m;refine wpAny_getItem_heap (tupleKind_room_in1 B) (lE I.hok C) j G ?_;rw[q];exact h f _ (I.tok _) n
theorem VM(n:A.units+1<cLine)(I:Inv X pins σ H s)(g:lA H a y o)(j:RelV y u)(h:∀m,Inv X pins σ H m->Q (.bool o.isSome) m):wpAny (model X.prog X.w) A (compareOp .In u (.ref a)) Q E s:=by
 rcases g with⟨kvs,k,e,f,l⟩|⟨kvs,k,b,e,f,p,l⟩;.subst f;obtain⟨z,hd,vs,c,i⟩:=nR I.hok e;refine wpAny_in_of (oE j) hd i.mapOf ?_;rw[<-(c.val k).fL,<-l];exact h _ (I.tok _)
 .subst f;cases(show u=Value.ref b from j);obtain⟨z,hd,xs,c,i⟩:=oh I.hok e;refine wpAny_in_heap (tupleKind_room_in1 n) (lE I.hok p) hd i ?_;have q:=(c.val k).fL;rw[isSome_map]at q;rw[<-q,<-l];exact h _ (I.tok _)
theorem yM(n:A.units+1<cLine)(I:Inv X pins σ H s)(g:lA H a y o)(j:RelV y u)(h:∀m,Inv X pins σ H m->Q (.bool (!o.isSome)) m):wpAny (model X.prog X.w) A (compareOp .NotIn u (.ref a)) Q E s:=by
 rcases g with⟨kvs,k,e,f,l⟩|⟨kvs,k,b,e,f,p,l⟩;.subst f;obtain⟨z,hd,vs,c,i⟩:=nR I.hok e;refine wpAny_notIn_of (oE j) hd i.mapOf ?_;rw[<-(c.val k).fL,<-l];exact h _ (I.tok _)
 .subst f;cases(show u=Value.ref b from j);obtain⟨z,hd,xs,c,i⟩:=oh I.hok e;refine wpAny_notIn_heap (tupleKind_room_in1 n) (lE I.hok p) hd i ?_;have q:=(c.val k).fL;rw[isSome_map]at q;rw[<-q,<-l];exact h _ (I.tok _)
theorem rJ{h':Heap}{t':Nat}{c:HO}(I:Inv X pins σ H s)(g:TF (H a))(hs:SameBut a s.heap h')(he:∃q,h'.get? a=some q)(f:aX X.prog X.w (upd H a c) h' a c):Inv X pins σ (upd H a c) {s with heap:=h',toks:=t'}:=I.write (x:=a) (e:=a) g (.inl rfl) (λb q h z=>(hs.2 b h).trans z) he f
theorem Gn{P:Program}{c:Hp}{h':Heap}{kvs:List (Key×V)}{vs:List (Key×Value)}(z:kvs.length<=sizeLine)(hd:(a==sysModules)=false)(b:KV kvs vs)(e:h'.DictOf (aL P w) a vs):aX P w c h' a (.dK kvs):=⟨z,hd,vs,b,e⟩
theorem Bq{x:Hp}{Q:Unit->Shared->Prop}(M:A.units+1<cLine)(I:Inv X pins σ H s)(g:Vp H a y v x)(B:RelV y u)(C:RelV v r)(h:∀G,Inv X pins σ x G->Q () G):wpAny (model X.prog X.w) A (setItem (.ref a) u r) Q E s:=by
 rcases g with⟨kvs,k,e,m,l,n⟩|⟨kvs,k,b,e,m,J,l,n⟩
 . subst m n;obtain⟨z,hd,vs,f,p⟩:=Km I.hok e;have hz:vs.length<=sizeLine:=by rw[<-f.length];exact z
   have t:(putK kvs k v).length<=sizeLine:=by have:=ig kvs k v;omega
   refine wpAny_setItem_pairs (hsz:=hz) (oE B) p λh' i hs=>h _ ?_;have he:∃q,h'.get? a=some q:=let⟨q,_,_,j,_⟩:=i;⟨q,j⟩;exact rJ I (by rw[e];exact True.intro) hs he (Gn t hd (f.put k C) i)
 . subst m n;cases(show u=Value.ref b from B);obtain⟨z,hd,xs,f,p⟩:=UG I.hok e;have hz:xs.length<=sizeLine:=by rw[<-Paired.length f];exact z
   have t:(putK kvs k v).length<=sizeLine:=by have:=ig kvs k v;omega
   refine wpAny_setItem_heap (hsz:=hz) (tupleKind_room_in1 M) (lE I.hok J) p λh' i hs=>h _ ?_;obtain⟨q,es,ep,j,N,O,U,_,W⟩:=i;refine rJ I (by rw[e];exact True.intro) hs ⟨q,j⟩ ⟨t,hd,_,(f.put k J C).keeps λc ys L=>?_,q,es,ep,j,N,O,U,W⟩;rw[ao (Uc L e (λz=>nomatch z))];exact L
end
def JK(i:Expr):Prop:=∀a iv,subscripted i false a iv=operate [a,iv] (getItem a iv)
theorem yE{prog:Program}{A:Around}{E:Value->Shared->Prop}{s:Shared}{env:Env}{a slice:Expr}{T id:String}(l:typeLookup (.type T) "__getitem__"=pure (some (.builtin id)))(hs:JK slice)(h:wpAny (model prog w) A (eval a env) (λo e=>wpAny (model prog w) A (eval slice env) (λi b=>b.TypeIs o T/\wpAny (model prog w) A (getItem o i) Q E b) E e) E s):wpAny (model prog w) A (eval (.Subscript a slice pos) env) Q E s:=by
 refine Subscript_ (wpAny_mono h (λo e g=>wpAny_mono g (λi b c=>?_) λ_ _ x=>x) λ_ _ x=>x);obtain⟨k,c⟩:=c;unfold subscriptTail;refine wpAny_bind ?_;rw[getitemInPython_of_ne k.not_modules];refine wpAny_bind (wpAny_specialOf k l ?_);have fin:wpAny (model prog w) A (subscripted slice false o i) (λr f=>wpAny (model prog w) A (letTemporaryGo a o r>>=λ_=>pure r) Q E f) E b:=by rw[hs o i];exact wpAny_operating (wpAny_mono c (λr f j=>wpAny_bind (wpAny_letTemporaryGo (wpAny_pure j))) λ_ _ x=>x)
 first|exact wpAny_pure (wpAny_bind fin)|exact wpAny_bind (wpAny_pure (wpAny_bind fin))|exact wpAny_bind fin
theorem il{c:List (Addr×Obj)}{σ:St}{s:Shared}{a:Addr}{o:Option V}(I:Inv X c σ H s)(g:lA H a y o):s.TypeIs (.ref a) "dict":=by
 rcases g with⟨kvs,k,e,_,_⟩|⟨kvs,k,b,e,_,_,_⟩;.obtain⟨_,_,vs,_,f⟩:=nR I.hok e;exact f.typeIs
 .obtain⟨_,_,xs,_,f⟩:=oh I.hok e;exact f.typeIs
def Ub(c ty:TE):TE:=λσ H Q=>c σ H λx e=>ty σ e λy b=>∃a v,x=.ref a/\lA b a y (some v)/\Q v b
def aaS(ty c:TE):TE:=λσ H Q=>ty σ H λy e=>c σ e λx b=>∃a o,x=.ref a/\lA b a y o/\Q (.bl o.isSome) b
def Hn(ty c:TE):TE:=λσ H Q=>ty σ H λy e=>c σ e λx b=>∃a o,x=.ref a/\lA b a y o/\Q (.bl (!o.isSome)) b
def UW(c ty e:TE):TS:=λD σ H=>e σ H λv f=>c σ f λx g=>ty σ g λy h=>∃a b,x=.ref a/\Vp h a y v b/\D.nx σ b
section
variable{X:Cx}{o i e value:Expr}{pos pos' tpos:Pos}{td ty tv:TE}
theorem Jq(c:X.A.units+1<cLine)(ho:PE X o td)(hi:PE X i ty)(hs:JK i):PE X (.Subscript o i pos) (Ub td ty):=by intro b s σ H Q I h;refine yE PySem.F.slot_dict_getitem.lookup hs (bB (ho b s σ H _ I h) λu s1⟨x,H1,I1,rx,q1⟩=>bB (hi b s1 σ H1 _ I1 q1) λiv s2⟨y,H2,I2,ry,a,v,ex,g,q2⟩=>?_);subst ex;obtain rfl:u=Value.ref a:=rx;exact⟨il I2 g,lC c I2 g ry λk s3 f j=>⟨v,H2,f,j,q2⟩⟩
theorem Mj(c:X.A.units+1<cLine)(hi:PE X i ty)(ho:PE X o td):PC X .In i o (aaS ty td):=by intro b s σ H Q I h;refine bB (hi b s σ H _ I h) λiv s1⟨y,H1,I1,ry,q1⟩=>bB (ho b s1 σ H1 _ I1 q1) λu s2⟨x,H2,I2,rx,a,ov,ex,g,q2⟩=>?_;subst ex;obtain rfl:u=Value.ref a:=rx;exact VM c I2 g ry λs3 f=>⟨.bl ov.isSome,H2,f,rfl,q2⟩
theorem Bc(c:X.A.units+1<cLine)(hi:PE X i ty)(ho:PE X o td):PC X .NotIn i o (Hn ty td):=by intro b s σ H Q I h;refine bB (hi b s σ H _ I h) λiv s1⟨y,H1,I1,ry,q1⟩=>bB (ho b s1 σ H1 _ I1 q1) λu s2⟨x,H2,I2,rx,a,ov,ex,g,q2⟩=>?_;subst ex;obtain rfl:u=Value.ref a:=rx;exact yM c I2 g ry λs3 f=>⟨.bl (!ov.isSome),H2,f,rfl,q2⟩
theorem zE(c:X.A.units+1<cLine)(ho:PE X o td)(hi:PE X i ty)(f:PE X value tv)(hs:swapsWith value (some (.Subscript o i pos')) pos.line X.env=pure false):PS X (.Assign [.Subscript o i pos'] value pos) (UW td ty tv):=by intro b s σ H D I h;refine wpAny_Assign_Subscript (bB (f b s σ H _ I h) λr s1⟨v,H1,I1,rv,q1⟩=>bB (ho b s1 σ H1 _ I1 q1) λu s2⟨x,H2,I2,rx,q2⟩=>bB (hi b s2 σ H2 _ I2 q2) λiv s3⟨y,H3,I3,ry,a,H4,ex,g,q3⟩=>?_) hs;subst ex;obtain rfl:u=Value.ref a:=rx;exact Bq c I3 g ry rv λs4 j=>⟨σ,H4,j,q3⟩
end
theorem uE{P:Program}(h:Heap)(a:sysModules<h.objs.size):aX P w H (h.push {cls:=.type "dict",data:=.dict #[]}) h.objs.size (.dK []):=⟨pG,beq_eq_false_iff_ne.mpr (Ne.symm (ne_of_lt a)),[],.nil,Heap.DictOf.new h⟩
def Nv:TE:=λ_ H Q=>∀p,H p=none->Q (.ref p) (upd H p (.dK []))
section
variable{X:Cx}{pos:Pos}
theorem vJ:PE X (.Dict [] [] pos) Nv:=λb s σ H Q I h=>wpAny_Dict_empty ⟨.ref s.heap.objs.size,_,I.laid (a:=s.heap.objs.size) (o:=.dK []) (t':=s.toks) (λ_ _ q=>fH q) (bN) (uE s.heap I.big),rfl,h _ (I.hok.fresh (bN))⟩
end
def xV:List (TE×TE)->St->Hp->(List (V×V)->Hp->Prop)->Prop|[],_,H,Q=>Q [] H|(a,b)::r,σ,H,Q=>a σ H λx c=>b σ c λy e=>xV r σ e λps f=>Q ((x,y)::ps) f
abbrev VV:List (V×V)->List (Value×Value)->Prop:=Paired λp q=>RelV p.1 q.1/\RelV p.2 q.2
def WW(X:Cx)(pos:Pos)(keys:List (Option Expr))(a:List Expr)(e:List (TE×TE)):Prop:=∀(b:List (Addr × Obj))(s:Shared)(σ:St)(H:Hp)(Q:List (V × V)->Hp->Prop),Inv X b σ H s->xV e σ H Q->wpAny (model X.prog X.w) X.A (evalPairs (pairTrees keys a X.env pos)) (λvs f=>∃ps c,Inv X b σ c f/\VV ps vs/\Q ps c) X.xe s
theorem Iv:WW X pos [] [] []:=λa s σ H Q I h=>pairTrees_nil_walk ⟨[],H,I,.nil,h⟩
theorem CT{k v:Expr}{ks:List (Option Expr)}{vs:List Expr}{b c:TE}{e:List (TE×TE)}(f:PE X k b)(g:PE X v c)(hr:WW X pos ks vs e):WW X pos (some k::ks) (v::vs) ((b,c)::e):=λa s σ H Q I h=>pairTrees_cons_walk (bB (f a s σ H _ I h) λu s1⟨x,H1,I1,rx,q1⟩=>bB (g a s1 σ H1 _ I1 q1) λi s2⟨y,H2,I2,ry,q2⟩=>bB (hr a s2 σ H2 _ I2 q2) λws s3⟨ps,H3,I3,rel,q3⟩=>⟨(x,y)::ps,H3,I3,.cons ⟨rx,ry⟩ rel,q3⟩)
noncomputable def kY(kvs more:List (Key×V)):List (Key×V):=more.foldl (λa b=>putK a b.1 b.2) kvs
theorem KV.merge:∀{more:List (Key×V)}{a:List (Key×Value)}{kvs:List (Key×V)}{vs:List (Key×Value)},KV more a->KV kvs vs->KV (kY kvs more) (merged vs a):=by intro more a kvs vs r;unfold KV at r;induction r generalizing kvs vs with|nil=>intro q;exact q|@cons p q ps c h t b=>
   intro r0;have e:KV (putK kvs p.1 p.2) (stored vs q.1 q.2):=by have:=r0.put p.1 h.2;rw[<-h.1];exact this
   exact b e
theorem jj:∀(more kvs:List (Key×V)),(kY kvs more).length<=kvs.length+more.length|[],kvs=>by show kvs.length<=kvs.length+0;omega|p::r,kvs=>by have h1:=jj r (putK kvs p.1 p.2);have a:=ig kvs p.1 p.2;show(kY (putK kvs p.1 p.2) r).length<=_;rw[length_cons];omega
theorem oG{P:Program}{w:World}:∀{kvs:List (Key×V)}{ws:List (Value×Value)},VV (kvs.map λf=>(kV f.1,f.2)) ws->∃e,Carries (aL P w) ws e/\KV kvs e|[],_,r=>by rw[map_nil]at r;cases r;exact⟨[],True.intro,.nil⟩|p::kvs,_,r=>by rw[map_cons]at r;cases r with|@cons a b as bs h t=>obtain⟨e,c,q⟩:=oG (P:=P) (w:=w) t;obtain⟨b1,b2⟩:=b;exact⟨(p.1,b2)::e,⟨oE h.1,rfl,c⟩,.cons ⟨rfl,h.2⟩ q⟩
def Vc(c:List (TE×TE)):TE:=λσ H Q=>∀p,H p=none->xV c σ (upd H p (.dK [])) λps a=>a p=some (.dK [])/\∃kvs:List (Key×V),ps=kvs.map (λb=>(kV b.1,b.2))/\kvs.length<=15/\Q (.ref p) (upd a p (.dK (kY [] kvs)))
theorem Hf{keys:List (Option Expr)}{b:List Expr}{j:List (TE×TE)}(h:WW X pos keys b j)(f:keys.all (·.isSome)=true)(l:keys.length=b.length)(h0:keys≠[])(i:keys.length<=15):PE X (.Dict keys b pos) (Vc j):=by
 intro g s σ H Q I q;have m:=I.hok.fresh (le_refl s.heap.objs.size);have n:=I.laid (a:=s.heap.objs.size) (o:=.dK []) (h':=s.heap.push {cls:=.type "dict",data:=.dict #[]}) (t':=s.toks) (λ_ _ q=>fH q) (bN) (uE s.heap I.big);refine wpAny_Dict_walk (knd:=aL X.prog X.w) f l h0 i (bB (h g _ σ _ _ n (q _ m)) λws s2⟨ps,H2,I2,rel,e,kvs,ep,lk,q2⟩=>?_);subst ep;obtain⟨p,c,r⟩:=oG (P:=X.prog) (w:=X.w) rel;obtain⟨z,hd,t,r0,u⟩:=Km I2.hok e;cases r0;refine⟨p,c,u,λh' k hs=>⟨.ref s.heap.objs.size,_,?_,rfl,q2⟩⟩;have hz:(kY [] kvs).length<=sizeLine:=by have h1:=jj kvs [];rw[length_nil]at h1;rw[sizeLine_eq];omega
 have he:∃q,h'.get? s.heap.objs.size=some q:=let⟨q,_,_,hq,_⟩:=k;⟨q,hq⟩;exact rJ I2 (by rw[e];exact True.intro) hs he (Gn hz hd (r.merge .nil) k)
structure M2(X:Cx)(o:Expr)(m:Str)(apos:Pos)(e f:Expr)(cpos:Pos):Prop where
 base:attributeBase o m X.env (eval o X.env)=eval o X.env
 few:((backTo cpos (starEach [e,f] X.env)).all (λx=>!x.1)&&(backToKw cpos (keywordEach [] X.env)).all (λx=>x.1.isSome)&&decide (([e,f]:List Expr).length+([]:List Keyword).length+(if([]:List Keyword).isEmpty then 0 else 1)<30))=true
 line:(apos.endLine==cpos.line)=true
 trees:backTo cpos (starEach [e,f] X.env)=[(false,eval e X.env),(false,eval f X.env)]
def IsD(H:Hp)(a:Addr):Prop:=(∃kvs,Rd H a (.dK kvs))\/∃kvs,Rd H a (.dT kvs)
theorem Ol{f:List (Addr×Obj)}{σ:St}{s:Shared}{a:Addr}(I:Inv X f σ H s)(d:IsD H a):s.TypeIs (.ref a) "dict"/\(∀b,Value.ref a=.ref b->∃c,s.heap.get? b=some c/\c.dict=none)/\(a==sysModules)=false:=by
 rcases d with⟨kvs,e⟩|⟨kvs,e⟩;.obtain⟨_,hd,vs,_,g⟩:=nR I.hok e;refine⟨g.typeIs,λb q=>?_,hd⟩;cases q;obtain⟨c,_,_,h1,h,_⟩:=g;exact⟨c,h1,h.2.1⟩
 .obtain⟨_,hd,xs,_,g⟩:=oh I.hok e;refine⟨g.typeIs,λb q=>?_,hd⟩;cases q;obtain⟨c,_,_,h1,h,_⟩:=g;exact⟨c,h1,h.2.1⟩
section
variable{X:Cx}{pins:List (Addr×Obj)}{σ:St}{H:Hp}{s:Shared}{a:Addr}{y d:V}{u r:Value}{o:Option V}{A:Around}{E:Value->Shared->Prop}
theorem Ox(q:A.units+1<cLine)(I:Inv X pins σ H s)(g:lA H a y o)(j:RelV y u)(m:RelV d r)(h:∀n p,Inv X pins σ H p->RelV (o.getD d) n->Q n p):wpAny (model X.prog X.w) A (call (.builtin "dict.get") [.ref a,u,r]) Q E s:=by
 rcases g with⟨kvs,k,e,i,l⟩|⟨kvs,k,b,e,i,t,l⟩;.subst i;obtain⟨z,hd,vs,c,f⟩:=nR I.hok e;refine call_meetsIn slot_dict_get f.typeIs PySem.F.entry_dict_get (PySem.F.args_dict_get_3 _ _ _) (meets_dict_get_default (aL X.prog X.w) a (oE j) hd r) ⟨_,f.mapOf,h _ _ (I.tok _) ?_⟩;rw[l];exact(c.val k).getD m
 .subst i;cases(show u=Value.ref b from j);obtain⟨z,hd,xs,c,f⟩:=oh I.hok e;refine call_meetsIn slot_dict_get f.typeIs PySem.F.entry_dict_get (PySem.F.args_dict_get_3 _ _ _) (meetsH_dict_get_default (tupleKind (aL X.prog X.w)) a b hd r) ⟨tupleKind_room_in1 q,k,xs,lE I.hok t,f,h _ _ (I.tok _) ?_⟩;rw[l];exact(c.val k).getD m
end
def Mp(e ty f:TE):TE:=λσ H Q=>e σ H λx b=>∃a,x=.ref a/\IsD b a/\ty σ b λy g=>f σ g λz c=>∃o,lA c a y o/\Q (o.getD z) c
section
variable{X:Cx}{o e f:Expr}{apos cpos:Pos}{td ty tx:TE}
theorem Ff(c:X.A.units+1<cLine)(ho:PE X o td)(he:PE X e ty)(i:PE X f tx)(m:M2 X o "get" apos e f cpos):PE X (.Call (.Attribute o "get" apos) [e,f] [] cpos) (Mp td ty tx):=by intro b s σ H Q I h;refine wpAny_Call_method m.base m.few m.line PySem.F.plainAttrs_dict slot_dict_get PySem.F.type_dict_get (bB (ho b s σ H _ I h) λu s1⟨x,H1,I1,rx,a,ex,d,q1⟩=>?_);subst ex;obtain rfl:u=Value.ref a:=rx;obtain⟨t1,j,_⟩:=Ol I1 d;refine⟨t1,j,?_⟩;rw[m.trees];refine Calls.callWith_builtin rfl (Calls.evalArgs_plain (Calls.spliced_cons (bB (he b s1 σ H1 _ I1 q1) λiv s2⟨y,H2,I2,ry,q2⟩=>Calls.spliced_cons (bB (i b s2 σ H2 _ I2 q2) λn s3⟨z,H3,I3,rz,ov,g,q3⟩=>Calls.spliced_nil ?_))));exact Ox c I3 g ry rz λp s4 k l=>⟨_,H3,k,l,q3⟩
end
end L2
namespace Yw
open PySem PySem.W PySem.Calls PyProof.Rows
end Yw
namespace L2
open PySem PySem.Spec PyProof.Rows
end L2
end
section
namespace HH
open PySem L2 PySem.Spec PyProof.Rows
variable{kvs:List (Int×D)}{es:List (Key×V)}{k:Int}{i:Nat}
inductive KR(K:PySem.W.Frag)(F:Hp):List (Int×D)->List (Key×V)->Prop where|nil:KR K F [] []|cons{k:Int}{d:D}{v:V}{kvs:List (Int×D)}{es:List (Key×V)}(h:Rep K F v d)(t:KR K F kvs es):KR K F ((k,d)::kvs) ((Sum.inl k,v)::es)
section
variable{K:PySem.W.Frag}{F F':Hp}
noncomputable def ent(ks:List Int)(vs:List V):List (Key×V):=(ks.zip vs).map λp=>(Sum.inl p.1,p.2)
theorem KR.of:∀{kvs:List (Int×D)}{vs:List V},au K F vs (kvs.map (·.2))->KR K F kvs (ent (kvs.map (·.1)) vs)|[],vs,h=>by rw[map_nil]at h;rw[h.dX];exact .nil|(k,d)::kvs,vs,h=>by obtain⟨v,r,rfl,h1,a⟩:=h.bK;exact .cons h1 (KR.of a)
theorem KR.to(h:KR K F kvs es):∃vs,es=ent (kvs.map (·.1)) vs/\au K F vs (kvs.map (·.2)):=by induction h with|nil=>exact⟨[],rfl,.nil⟩|@cons k d v kvs es h t a=>obtain⟨vs,rfl,r⟩:=a;exact⟨v::vs,rfl,.cons h r⟩
theorem KR.oc(h:KR K F kvs es):jh K F (.dK es) (.v kvs):=by obtain⟨vs,rfl,r⟩:=h.to;exact⟨vs,rfl,r⟩
theorem KR.Oo{o:HO}(h:jh K F o (.v kvs)):∃es,o=.dK es/\KR K F kvs es:=by obtain⟨vs,rfl,r⟩:=h;exact⟨_,rfl,.of r⟩
theorem KR.len(h:KR K F kvs es):es.length=kvs.length:=by induction h with|nil=>rfl|cons h t a=>simp[a]
theorem KR.get{d:D}(h:KR K F kvs es)(e:ju kvs k=some d):∃v,gF es (Sum.inl k:Key)=some v/\Rep K F v d:=by induction h with|nil=>cases e|@cons j d' v kvs es h t a=>
   unfold ju at e a;rw[find?_cons]at e;by_cases c:j=k;.simp[c]at e;subst e;exact⟨v,jK (by rw[c]),h⟩
   .simp[c]at e;obtain⟨b,h1,f⟩:=a (by simpa using e);exact⟨b,by rw[jN (by simpa using c)];exact h1,f⟩
theorem KR.any{kvs:List (Int×D)}{es:List (Key×V)}(k:Int)(h:KR K F kvs es):(es.any λa=>decide (a.1=(Sum.inl k:Key)))=kvs.any λp=>decide (p.1=k):=by induction h with|nil=>rfl|cons h t b=>simp[b]
theorem KR.has(k:Int)(h:KR K F kvs es):(gF es (Sum.inl k:Key)).isSome=(kvs.map (·.1)).contains k:=by rw[<-nU,h.any k];induction h with|nil=>rfl|@cons j d v kvs es h t a=>rw[any_cons,a,map_cons,List.contains_cons];congr 1;exact Bool.eq_iff_iff.mpr ⟨λz=>by simp at z ⊢;exact z.symm,λz=>by simp at z ⊢;exact z.symm⟩
theorem KR.repl{d:D}{v:V}(r:Rep K F v d)(h:KR K F kvs es):KR K F (kvs.map λp=>if p.1=k then(p.1,d)else p) (es.map λa=>if a.1=(Sum.inl k:Key)then(a.1,v)else a):=by induction h with|nil=>exact .nil|@cons j d' e kvs es h t b=>
   by_cases c:j=k;.subst c;simp;exact .cons r b
   . have:¬(Sum.inl j:Key)=Sum.inl k:=by simpa using c
     simp[c,this];exact .cons h b
theorem KR.snoc{d:D}{v:V}(r:Rep K F v d)(h:KR K F kvs es):KR K F (kvs++[(k,d)]) (es++[(Sum.inl k,v)]):=by induction h with|nil=>exact .cons r .nil|cons h t a=>exact .cons h a
theorem KR.put{d:D}{v:V}(r:Rep K F v d)(h:KR K F kvs es):KR K F (eU kvs k d) (putK es (Sum.inl k:Key) v):=by
 unfold eU putK;rw[h.any k];split;.exact h.repl r
 .exact h.snoc r
theorem KR.zip{ks:List Int}{a:List D}{vs:List V}(h:au K F vs a)(b:ks.length=a.length):KR K F (ks.zip a) (ent ks vs):=by induction a generalizing ks vs with
 |nil=>rw[h.dX];cases ks with|nil=>exact .nil|cons _ _=>simp at b
 |cons d a c=>obtain⟨v,r,rfl,h1,e⟩:=h.bK;cases ks with|nil=>simp at b|cons k ks=>exact .cons h1 (c e (by simpa using b))
end
section
variable{K:PySem.W.Frag}{F F1 H H1:Hp}{ρ ρ1 ρ2:List Sl}{σ σ1:L2.St}
theorem GS.aaN{x:Nat}{m p:Dc}{a:Addr}(g:GS K F ρ σ H)(e:ρ[x]?=some (.eO m))(r:σ[x]?=some (some (.ref a))):aq K F ρ σ H F (ρ.set x (.eO p)) σ (upd H a p.ho):=by
 have hi:x<ρ.length:=(dj e).1;have v:aH ρ σ x a:=⟨⟨_,_,e,rfl⟩,r⟩;obtain⟨I,J,h1,L,w,M⟩:=g.own x _ _ e rfl;rw[r]at h1;cases h1;have f:∀{j:Nat}{c:Addr},aH (ρ.set x (.eO p)) σ j c->aH ρ σ j c:=λ{j c}⟨⟨t,dt,h,s⟩,q3⟩=>by
  by_cases b:j=x;.subst b;exact⟨⟨_,_,e,rfl⟩,q3⟩
  .rw[di b]at h;exact⟨⟨t,dt,h,s⟩,q3⟩
 refine⟨⟨λc o q=>?_,by simp[g.len],λj z d q=>?_,λj t dt q u=>?_,λj k c h s=>g.dis j k c (f h) (f s)⟩,.refl _,λc n A=>absurd n A,λc o q n=>?_,λc⟨j,q⟩=>.inl ⟨j,f q⟩,by simp,λj t q l=>⟨rfl,?_⟩⟩
 . have:c≠a:=by rintro rfl;rw[w]at q;cases q
   rw[ao this];exact g.sub c o q
 . by_cases b:j=x;.subst b;rw[getElem?_set_self hi]at q;cases q
   .rw[di b]at q;exact g.val j z d q
 . by_cases b:j=x;.subst b;rw[getElem?_set_self hi]at q;cases q;cases u;exact⟨a,_,r,aF,w,rfl⟩
   . rw[di b]at q;obtain⟨c,B,y,C,E,G⟩:=g.own j t dt q u;have:c≠a:=by rintro rfl;exact b (g.dis j x c ⟨⟨t,dt,q,u⟩,y⟩ v)
     exact⟨c,B,y,by rw[ao this];exact C,E,G⟩
 . have:c≠a:=by rintro rfl;exact n ⟨x,v⟩
   rw[ao this];exact q
 . by_cases b:j=x;.subst b;rw[e]at q;cases q;cases l
   .exact⟨t,by rw[di b];exact q,.refl t⟩
theorem GS.newD{m:Dc}{a:Addr}(g:GS K F ρ σ H)(e:ρ[i]?=some .aP)(s:H a=none):aq K F ρ σ H F (ρ.set i (.eO m)) (σ.set i (some (.ref a))) (upd H a m.ho):=by
 have hi:i<ρ.length:=(dj e).1;have u:i<σ.length:=by rw[<-g.len];exact hi
 have x:F a=none:=by cases q:F a with|none=>rfl|some o=>rw[g.sub a o q]at s;cases s
 have f:∀{j:Nat}{c:Addr},j≠i->aH (ρ.set i (.eO m)) (σ.set i (some (.ref a))) j c->aH ρ σ j c:=λ{j c}b⟨⟨t,ds,e1,e2⟩,e3⟩=>by rw[di b]at e1 e3;exact⟨⟨t,ds,e1,e2⟩,e3⟩
 have h:∀{c:Addr},aH (ρ.set i (.eO m)) (σ.set i (some (.ref a))) i c->c=a:=λ{c}⟨_,e3⟩=>by rw[getElem?_set_self u]at e3;cases e3;rfl
 have no:∀{j:Nat},¬ aH ρ σ j a:=λ{j}⟨⟨t,ds,e1,e2⟩,e3⟩=>by obtain⟨c,o,p,r,_⟩:=g.own j t ds e1 e2;rw[e3]at p;cases p;rw[s]at r;cases r
 refine⟨⟨λc o q=>?_,by simp[g.len],λj z d q=>?_,λj t dt q y=>?_,λj k c p r=>?_⟩,.refl _,λc n A=>absurd n A,λc o q n=>?_,λc⟨j,q⟩=>?_,by simp,λj t q l=>?_⟩
 . have:c≠a:=by rintro rfl;rw[x]at q;cases q
   rw[ao this];exact g.sub c o q
 . by_cases b:j=i;.subst b;rw[getElem?_set_self hi]at q;cases q
   .rw[di b]at q ⊢;exact g.val j z d q
 . by_cases b:j=i;.subst b;rw[getElem?_set_self hi]at q;cases q;cases y;exact⟨a,_,getElem?_set_self u,aF,x,rfl⟩
   . rw[di b]at q ⊢;obtain⟨c,o,B,w,C,E⟩:=g.own j t dt q y;have:c≠a:=by rintro rfl;rw[s]at w;cases w
     exact⟨c,o,B,by rw[ao this];exact w,C,E⟩
 . by_cases b:j=i
   . by_cases v:k=i;.rw[b,v]
     .subst b;rw[h p]at r;exact absurd (f v r) no
   . by_cases v:k=i;.subst v;rw[h r]at p;exact absurd (f b p) no
     .exact g.dis j k c (f b p) (f v r)
 . have:c≠a:=by rintro rfl;rw[s]at q;cases q
   rw[ao this];exact q
 . by_cases b:j=i;.subst b;rw[h q];exact .inr s
   .exact .inl ⟨j,f b q⟩
 . have b:j≠i:=by rintro rfl;rw[e]at q;cases q;cases l
   exact⟨by rw[di b],t,by rw[di b];exact q,.refl t⟩
end
noncomputable def pK(p:Int×Int):Key×V:=(Sum.inl p.1,V.int p.2)
theorem Gv(i:Int):∀kvs:List (Int×Int),gF (kvs.map pK) (Sum.inl i:Key)=((kvs.find? λb=>decide (b.1=i)).map (·.2)).map V.int
 |[]=>rfl|p::kvs=>by
   have a:=Gv i kvs;unfold gF at a ⊢;rw[map_cons,find?_cons,find?_cons];by_cases h:p.1=i
   . have e:decide ((pK p).1=(Sum.inl i:Key))=true:=by simp[pK,h]
     rw[e];simp[h,pK]
   . have e:decide ((pK p).1=(Sum.inl i:Key))=false:=by simp[pK,h]
     rw[e];simp only[h,decide_false];exact a
theorem O1(i v:Int)(kvs:List (Int×Int)):putK (kvs.map pK) (Sum.inl i:Key) (V.int v)=(putD kvs i v).map pK:=by
 have e:((kvs.map pK).any λa=>decide (a.1=(Sum.inl i:Key)))=kvs.any λa=>decide (a.1=i):=by rw[List.any_map];congr 1;funext p;simp[pK]
 unfold putK putD;rw[e];split
 . rw[map_map,map_map];refine map_congr_left λp _=>?_;by_cases h:p.1=i;.simp[pK,h]
   .simp[pK,h]
 .rw[map_append];rfl
section
variable{X:Cx}{c:Call}{n:Nat}{a b e:Expr}{pa pb p:P}{pos:Pos}
theorem Dd{H:Hp}{q:Addr}{m:Dc}{i:Int}{o:Option Int}(h:Rd H q m.ho)(e:m.get (.int i)=some o):lA H q (.int i) (o.map V.int):=by cases m with|k kvs=>cases e;exact .inl ⟨kvs.map pK,Sum.inl i,h,rfl,(Gv i kvs).symm⟩|t kvs=>cases e
theorem sJ(hu:X.A.units+8<cLine)(M:SX X c a pa)(N:SX X c b pb)(hs:JK b):SX X c (.Subscript a b pos) (.bin .Bt pa pb):=by refine wM (f:=yV) (λh1 O=>?_) M N (λρ=>rfl) rfl;intro l s σ H Q I h;refine yE PySem.F.slot_dict_getitem.lookup hs (bB (h1 l s σ H _ I h) λu s1⟨x,H1,I1,rx,q1⟩=>bB (O l s1 σ H1 _ I1 q1) λiv s2⟨y,H2,I2,ry,q2⟩=>?_);obtain⟨F,d,e,r,sm,G,J,he,k⟩:=q2;cases d with
 |cH m=>have U:=bJ (show(m.get e).bind (λo=>o.map λv=>R.val (.int v))=some r from he);clear he;obtain⟨o,w,he⟩:=U;cases o with|none=>cases he|some v=>
     cases he;obtain⟨i,rfl⟩:∃i,e=.int i:=by cases m with|t kvs=>cases e<;>cases w|k kvs=>cases e<;>first|exact⟨_,rfl⟩|cases w
     obtain⟨q,z,rfl,B⟩:=G.cH sm;rw[J.int]at ry;obtain rfl:u=Value.ref q:=rx;have g:=Dd (.inr ⟨z,B⟩) w;exact⟨il I2 g,lC (by omega) I2 g ry λW s3 C E=>⟨.int v,H2,C,E,bH.bZ sm (bA _) k⟩⟩
 |dv ks Y=>cases e with|int j=>obtain⟨d',Z,he⟩:=map_some (show(ju (ks.zip Y) j).map R.val=some r from he);subst he;obtain⟨q,z,vs,rfl,B,rs,hl⟩:=G.dv sm;obtain⟨L,g1,g2⟩:=(KR.zip rs hl).get Z;rw[J.int]at ry;obtain rfl:u=Value.ref q:=rx;have g:lA H2 q (.int j) (some L):=.inl ⟨_,Sum.inl j,.inr ⟨z,B⟩,rfl,g1.symm⟩;exact⟨il I2 g,lC (by omega) I2 g ry λW s3 C E=>⟨L,H2,C,E,bH.bZ sm g2 k⟩⟩|_=>cases he
 |_=>cases he
theorem zB{x:Str}{f h:Pos}(j:X.N.Nodup)(hi:X.N[i]?=some x)(l:Loc X.env.scope x)(hs:swapsWith (.Dict [] [] h) (some (.Name x f)) pos.line X.env=pure false:=by rfl)(o:X.fn x=true\/X.env.scope.names.lookup x=some .local:=by first|exact .inl rfl|exact .inr rfl|assumption):SS X c n (.Assign [.Name x f] (.Dict [] [] h) pos) (.Bw i false):=by
 refine cW (wz j hi l vJ hs o) ?_;rintro D σ H⟨F,ρ,fl,r,g,e,k⟩;rw[HH.X16]at e;split at e;.rename_i q;cases e;exact λa s=>k F _ _ (g.newD (m:=.k []) q s)
 .cases e
theorem Dw{x:Str}{C f l:Pos}{pk E:P}(hu:X.A.units+8<cLine)(Y:X.N[i]?=some x)(Z:uC X.env.scope x)(ha:SX X c a pk)(hb:SX X c b E)(m:M2 X (.Name x C) "get" f a b l)(hd:(x==("__debug__":Str))=false:=by decide)(u:(x==("__classdict__":Str))=false:=by decide):SX X c (.Call (.Attribute (.Name x C) "get" f) [a,b] [] l) (.QH i pk E):=by
 obtain⟨ta,h1,h2⟩:=ha.bF;obtain⟨tb,h3,h4⟩:=hb.bF;refine⟨cY (Ff (by omega) (dh Y Z hd u) h1 h3 m) ?_,λi h=>by cases h⟩;rintro σ H Q⟨F,ρ,r,ae,g,e,k⟩;rw[HH.E21]at e;split at e
 . rename_i m0 q;obtain⟨y,af,e1,G⟩:=aa e;clear e;obtain⟨dd,ag,e2,s⟩:=aa G;clear G;obtain⟨I,o0,J,L,w3,w4⟩:=g.own i _ _ q rfl;refine⟨.ref I,J,I,rfl,?_,?_⟩;.cases(show o0=m0.ho from w4);cases m0 with|k kvs=>exact .inl ⟨_,.inl L⟩|t kvs=>exact .inr ⟨_,.inl L⟩
   . refine h2 g e1 λv F1 H1 s1 pv=>h4 s1.gs e2 λz M H2 s2 O=>?_;split at s
     . rename_i m1 q1;obtain⟨U,e3⟩:=az s;clear s;subst e3;obtain⟨o,B,eD⟩:=bJ U;clear U;obtain⟨w,e5,e6⟩:=map_some eD;subst e6;obtain⟨a1,o1,W,y2,y3,y4⟩:=s2.gs.own i _ _ q1 rfl;rw[J]at W;cases W;cases(show o1=m1.ho from y4);obtain⟨j,rfl⟩:∃j,y=.int j:=by cases m1 with|t kvs=>cases y<;>cases B|k kvs=>cases y<;>first|exact⟨_,rfl⟩|cases B
       rw[bO e5]at O;rw[pv.int,O.int];refine⟨o.map V.int,Dd (.inl y2) B,?_⟩;have:(o.map V.int).getD (V.int w)=V.int (o.getD w):=by cases o<;>rfl
       rw[this];exact k _ M H2 (s1.trans s2) (show Rep X.K M _ _ from bA _)
     .cases s
 .cases e
theorem yt{x:Str}{C f:Pos}{pk:P}(hu:X.A.units+8<cLine)(J:X.N[i]?=some x)(L:uC X.env.scope x)(M:SX X c a pk)(he:SX X c e p)(hs:swapsWith e (some (.Subscript (.Name x C) a f)) pos.line X.env=pure false:=by rfl)(hd:(x==("__debug__":Str))=false:=by decide)(s:(x==("__classdict__":Str))=false:=by decide):SS X c n (.Assign [.Subscript (.Name x C) a f] e pos) (.dput i pk p):=by
 obtain⟨ta,h1,O⟩:=M.bF;refine cW (zE (by omega) (dh J L hd s) h1 he.ev hs) ?_;rintro D σ H⟨F,ρ,fl,Q,g,e,k⟩;rw[HH.X17]at e;obtain⟨r,u,U,o⟩:=aa e;clear e;refine⟨F,ρ,r,u,g,U,λv F1 H1 s1 W=>?_⟩;split at o
 . rename_i m0 Y;obtain⟨E,Z,e2,h⟩:=aa o;clear o;obtain⟨z,o0,B,w2,w3,w4⟩:=s1.gs.own i _ _ Y rfl;refine⟨.ref z,B,O s1.gs e2 λy F2 H2 s2 py=>?_⟩;split at h
   . rename_i m w q;split at h;.rename_i G l;cases h;obtain⟨a1,o1,I,y2,y3,y4⟩:=s2.gs.own i _ _ q rfl;rw[B]at I;cases I;cases(show o1=m.ho from y4);cases(show v=.int w by have:Rep X.K F1 v (.int w):=W;rwa[Rep]at this);refine⟨z,upd H2 z G.ho,rfl,?_,k F2 σ _ ((s1.trans s2).trans (s2.gs.aaN q B))⟩;cases m with|t kvs=>cases E<;>cases l|k kvs=>cases E with|int j=>obtain⟨hl,l⟩:=aW (show(if kvs.length<lim then some (Dc.k (putD kvs j w))else none)=some G from l);subst l;rw[py.int];refine .inl ⟨kvs.map pK,Sum.inl j,y2,rfl,by rw[length_map,sizeLine_eq];exact hl,?_⟩;rw[O1];rfl|_=>cases l
     .cases h
   .cases h
 .cases o
end
end HH
end
section
namespace L2
open PySem PySem.Spec PyProof.Rows
noncomputable def Itk(a:Addr)(b:Obj)(kvs:List (Key×V)):It:=⟨λi H=>H a=some (.cz b (.dK kvs))/\i<kvs.length,λi H x c=>c=H/\∃p,kvs[i]?=some p/\x=kV p.1,λi H=>H a=some (.cz b (.dK kvs))/\kvs.length<=i⟩
theorem KV.get:∀{κ:Type}{kvs:List (κ×V)}{vs:List (κ×Value)}{i:Nat}{p:κ×V},KV kvs vs->kvs[i]?=some p->∃v,vs[i]?=some (p.1,v)|_,_,_,_,_,.nil,e=>by simp at e|_,_,_,0,_,.cons r _,e=>by simp at e;subst e;exact⟨_,by rw[List.getElem?_cons_zero,r.1]⟩|_,_,_,i+1,p,.cons _ t,e=>by obtain⟨v,h⟩:=KV.get (i:=i) (p:=p) t (by simpa using e);exact⟨v,by simpa using h⟩
theorem qi{X:Cx}{b:List (Addr×Obj)}{σ:St}{H:Hp}{s:Shared}{a:Addr}{c:Obj}{kvs:List (Key×V)}{es:Array DictEntry}{ep:Nat}(I:Inv X b σ H s)(h:H a=some (.cz c (.dK kvs)))(hd:c.data=.dict es ep):(a==sysModules)=false/\∃vs,KV kvs vs/\s.heap.DictAt (aL X.prog X.w) a vs ep:=by obtain⟨ho,hz,f,vs,r,g⟩:=(show aX X.prog X.w H s.heap a (.cz c (.dK kvs))from I.hok a _ h);obtain⟨o,i,j,h1,k,e,l⟩:=g;rw[ho]at h1;cases h1;rw[hd]at e;cases e;exact⟨f,vs,r,⟨c,es,ho,k,hd,l⟩⟩
theorem N8{P:Program}{w:World}{k:Key}{u:Value}(h:(aL P w).is k u=true):RelV (kV k) u:=by
 rcases aR h with⟨i,t,rfl,rfl⟩|⟨x,t,rfl,rfl⟩;.exact⟨t,rfl⟩
 .exact⟨t,rfl⟩
theorem Bo{P:Program}{w:World}{K:PySem.W.Frag}{C:Expr}(a it:Addr)(B:Obj)(kvs:List (Key×V))(es:Array DictEntry)(ep:Nat)(hd:B.data=.dict es ep):Turn P w K C (Itk a B kvs) [it] it (λi h=>h.IsKeyIter it a i kvs.length ep)where
 mem:=by simp
 obj:=λi h st b g=>by
  have e:b=it:=by simpa using g
  subst e;obtain⟨o,e,c,d⟩:=st;exact⟨o,e,λv z=>by rw[d]at z;cases z⟩
 keep:=λi h h' st k=>st.at λo e=>k it (by simp) o e;item:=by intro X n p q hc i f s σ H E I m st t;subst n p q;obtain⟨x,hi⟩:=t;obtain⟨G,vs,r,y⟩:=qi I x hd;have l:vs.length=kvs.length:=(Paired.length r).symm;obtain⟨v,J⟩:=KV.get r (show kvs[i]?=some kvs[i]by simp[hi]);obtain⟨f0,f1,f2,f3,f4,f5⟩:=m it (by simp);refine wpAny_pyNext_dict_item (by rw[l];exact st) y J λu h' L j sb=>?_;have M:Inv X f σ H {s with heap:=h'}:=I.turned (t':=s.toks) (λb o g e=>(sb.2 b g).trans e) f0 f1 f3 f4 f5;rw[l]at j;obtain⟨o,e,c,d⟩:=id j;exact⟨u,rfl,zm (s:={s with heap:=h'}) e c d (by decide) ⟨_,H,M,N8 L,⟨rfl,_,by simp[hi],rfl⟩,j,λb g=>(m b g).1⟩⟩
 done:=by intro X n p q hc i f s σ H E I m st t;subst n p q;obtain⟨x,hi⟩:=t;obtain⟨G,vs,r,y⟩:=qi I x hd;have l:vs.length=kvs.length:=(Paired.length r).symm;obtain⟨f0,f1,f2,f3,f4,f5⟩:=m it (by simp);refine wpAny_pyNext_dict_end (I.ok.hd hc) (by rw[l];exact st) y (by simp[l,hi]) λh' he=>⟨rfl,?_⟩;exact I.turned (t':=s.toks) (λb o g e=>he b o g e) f0 f1 f3 f4 f5
 self:=λA i s Q E st N=>wpAny_pyIter_keyiter st N
section
variable{X:Cx}{tg:Expr}
theorem Jx{l:Expr}{k:TE}(n:PE X l k):PI X tg l (λσ H R=>k σ H λx f=>∃a c kvs,x=.ref a/\f a=some (.cz c (.dK kvs))/\R (Itk a c kvs) f):=by
 intro g s σ H R I h;refine bB (n g s σ H _ I h) ?_;rintro v s1⟨x,f,j,r1,a,c,kvs,e,p,q⟩;subst e;cases r1;obtain⟨ho,hz,t,vs,r,u⟩:=(show aX X.prog X.w f s1.heap a (.cz c (.dK kvs))from j.hok a _ p);obtain⟨o,es,ep,h1,y,m,z⟩:=id u;rw[ho]at h1;cases h1;have i:vs.length=kvs.length:=(Paired.length r).symm;refine wpAny_pyIter_dict (knd:=aL X.prog X.w) (kvs:=vs) (ep:=ep) t ⟨c,es,ho,y,m,z⟩ ?_;refine⟨s1.heap.objs.size,[s1.heap.objs.size],_,_,f,rfl,j.kept (t':=s1.toks) λb o e=>fH e,Bo a _ c kvs es ep m,⟨_,get?_push_size _ rfl,rfl,by rw[i];rfl⟩,λb A=>?_,q⟩;have e:b=s1.heap.objs.size:=by simpa using A
 subst e;exact j.Gd (bN) (j.hok.fresh (bN))
end
end L2
namespace HH
open PySem L2 PySem.Spec PyProof.Rows
section
variable{X:Cx}{c:Call}{tg e:Expr}{p:P}
theorem Iu{ks:List Int}{es:List (Key×V)}{j:Nat}{p:Key×V}{i:Int}(h:es.map (·.1)=ks.map (Sum.inl:Int->Key))(a:es[j]?=some p)(b:ks[j]?=some i):p.1=Sum.inl i:=by
 have:(es.map (·.1))[j]?=(ks.map (Sum.inl:Int->Key))[j]?:=by rw[h]
 rw[getElem?_map,getElem?_map,a,b]at this;exact Option.some.inj this
theorem oY:∀{ks:List Int}{vs:List V},ks.length=vs.length->(ent ks vs).map (·.1)=ks.map (Sum.inl:Int->Key)|[],[],_=>rfl|k::ks,v::vs,h=>by have:=oY (ks:=ks) (vs:=vs) (by simpa using h);unfold ent at this ⊢;simpa using this|[],_::_,h=>by simp at h|_::_,[],h=>by simp at h
theorem Ig(h:SX X c e p):SI X c tg e (.blt .keys [p]):=by
 unfold SI;obtain⟨ta,h1,W⟩:=h.bF;refine oA (Jx h1) ?_;rintro σ H R⟨F,ρ,A,B,g,Y,k⟩;obtain⟨r,o,I,Z⟩:=aa (show((HH.ev c (.blt .keys [p]) ρ).bind λr ρ=>lift (items r.d) ρ)=.ok A B from Y);obtain⟨J,e3⟩:=az Z;subst e3;rw[HH.E15]at I;obtain⟨d,ae,e1,eE⟩:=aa I;obtain⟨y,e4⟩:=az eE;subst e4;refine W g e1 λv F' L s M=>?_;have hd:∃(ks:List Int)(es:List (Key×V))(a:Addr)(b:Obj),A=ks.map D.int/\v=.ref a/\L a=some (.cz b (.dK es))/\es.map (·.1)=ks.map (Sum.inl:Int->Key):=by cases d with
  |cH m=>cases m with|k kvs=>cases y;cases J;obtain⟨a,b,rfl,f⟩:=M.cH s.gs.sub;exact⟨kvs.map (·.1),kvs.map pK,a,b,by rw[map_map];rfl,rfl,f,by rw[map_map,map_map];rfl⟩|t kvs=>cases y
  |dv ks af=>cases y;cases J;obtain⟨a,b,vs,rfl,f,rs,hl⟩:=M.dv s.gs.sub;exact⟨ks,ent ks vs,a,b,rfl,rfl,f,oY (by rw[rs.length];exact hl)⟩|_=>cases y
 obtain⟨ks,es,a,b,rfl,rfl,f,u⟩:=hd;have C:es.length=ks.length:=by have:=congrArg List.length u;simpa using this
 refine⟨a,b,es,rfl,f,k _ F' L ⟨s.gs,λn j N o E H2 s2=>?_,λN o E H2 s2=>⟨s.trans s2,λv r rr=>rr.later s⟩⟩⟩;have gm:=s.gs.more (n:=n) (τ:=replicate n none) (by simp);have w:=s2.keep a _ f λ⟨j,⟨t,dt,q1,q2⟩,q3⟩=>by obtain⟨a',o',O,Q,z3,G⟩:=gm.own j t dt q1 q2;rw[q3]at O;cases O;rw[f]at Q;cases Q;cases dt with|l A=>obtain⟨xs,z,_⟩:=G;cases z|d m=>cases m<;>cases G|v kvs=>obtain⟨xs,z,_⟩:=G;cases z
 refine⟨λd hd=>?_,λU=>⟨w,by rw[C];simpa using U⟩⟩;have U:j<ks.length:=by have:=(dj hd).1;simpa using this
 refine⟨⟨w,by omega⟩,λx tV⟨e5,q,e6,e7⟩=>?_⟩;subst e5;refine⟨N,.refl s2.gs.sub,?_⟩;rw[getElem?_map]at hd;obtain⟨i,e8,e9⟩:=map_some hd;rw[e7,Iu u e6 e8,<-e9];exact bA _
end
end HH
end
section
namespace HH
open PySem L2 PySem.Spec PyProof.Rows PySem.Calls PySem.W
section
variable{X:Cx}{c:Call}{a:Expr}{pa:P}{pos:Pos}
theorem jX:∀{ns:List Int}{b:List Value},IntsAre b ns->Vals (ns.map V.int) b|_,_,.nil=>.nil|_,_,.cons n t r=>.cons ⟨t,rfl⟩ (jX r)
theorem qF{K:PySem.W.Frag}{F:Hp}:∀ns:List Int,au K F (ns.map V.int) (ns.map D.int)|[]=>.nil|n::ns=>.cons (bA n) (qF ns)
end
end HH
end
section
namespace HH
open PySem L2 PySem.Spec PyProof.Rows
theorem Inv.ZR{X:Cx}{c:List (Addr×Obj)}{σ:L2.St}{H:Hp}{s:Shared}{a:Addr}{kvs:List (List Key×V)}(I:L2.Inv X c σ H s)(h:H a=some (.dT kvs)):∃o,L2.Inv X c σ (upd H a (.cz o (.dT kvs))) s:=by obtain⟨z,y,xs,r,o,es,ep,h1,f,g,i,j⟩:=(show aX X.prog X.w H s.heap a (.dT kvs)from I.hok a _ h);refine⟨o,I.write (h':=s.heap) (t':=s.toks) (by rw[h];exact trivial) (.inl rfl) (λb u _ e=>e) ⟨o,h1⟩ ⟨h1,z,y,xs,KT.keeps r λb ys q=>?_,o,es,ep,h1,f,g,i,j⟩⟩;rw[ao (by rintro rfl;rw[h]at q;cases q)];exact q
section
variable{X:Cx}{c:Call}{n:Nat}{a b e:Expr}{p pa pb:P}{pos:Pos}{es:List Expr}{ps:List P}{x1:Nat}{tpos:Pos}
theorem Ep{i:Nat}{x:Str}{A:Pos}(B:X.N[i]?=some x)(C:uC X.env.scope x)(hd:(x==("__debug__":Str))=false:=by decide)(w:(x==("__classdict__":Str))=false:=by decide):SX X c (.Name x A) (.vw i):=by
 have h:=dh (X:=X) (pos:=A) B C hd w;refine⟨?_,λi h=>by cases h⟩;rintro f s σ H Q I⟨F,ρ,r,E,g,e,k⟩;rw[HH.E22]at e;split at e
 . rename_i m q;cases e;obtain⟨a,h1,j,l⟩:=g.yI q;refine bB (h f s σ H (λv y=>v=.ref a/\y=H) I ⟨.ref a,h1,rfl,rfl⟩) λu s1⟨v,H1,I1,r1,e1,e2⟩=>?_;subst e1 e2;have G:∃o,L2.Inv X f σ (upd H1 a (.cz o m.ho)) s1:=by cases m with|k kvs=>exact Inv.Dh I1 j|t kvs=>exact Inv.ZR I1 j
   obtain⟨o,z⟩:=G;exact⟨.ref a,_,z,r1,k _ _ _ (l o).1 (l o).2⟩
 .rename_i kvs q;cases e;obtain⟨a,vs,h1,j,l⟩:=g.zQ q;refine bB (h f s σ H (λv y=>v=.ref a/\y=H) I ⟨.ref a,h1,rfl,rfl⟩) λu s1⟨v,H1,I1,r1,e1,e2⟩=>?_;subst e1 e2;obtain⟨o,z⟩:=Inv.Dh I1 j;exact⟨.ref a,_,z,r1,k _ _ _ (l o).1 (l o).2⟩
 .rename_i b L q;cases e;obtain⟨v,J,h1,j,l⟩:=g.freeze q;exact h f s σ H Q I ⟨v,h1,k v J H j l⟩
 .rename_i b d q;cases e;obtain⟨v,h1,j⟩:=g.val i b d q;exact h f s σ H Q I ⟨v,h1,k v F H (.refl g) j⟩
 .cases e
end
end HH
end
section
namespace HH
open PySem L2 PySem.Spec PyProof.Rows
section
variable{K:PySem.W.Frag}{F H F' H':Hp}{ρ ρ':List Sl}{σ σ':L2.St}
def Kp(ρ:List Sl)(σ:L2.St)(H:Hp)(a:Addr)(o:HO):Prop:=H a=some o/\¬ Own ρ σ a
theorem Kp.stp{a:Addr}{o:HO}(h:Kp ρ σ H a o)(s:aq K F ρ σ H F' ρ' σ' H'):Kp ρ' σ' H' a o:=⟨s.keep a o h.1 h.2,λz=>(s.tZ a z).elim h.2 λe=>by rw[h.1]at e;cases e⟩
structure Wt(K:PySem.W.Frag)(F:Hp)(ρ:List Sl)(σ:L2.St)(H:Hp)(a:Addr)(ds:List D):Prop where
 ex:∃xs,Kp ρ σ H a (.lst xs)/\au K F xs ds
 fr:F a=none
theorem Wt.stp{a:Addr}{b:List D}(h:Wt K F ρ σ H a b)(s:aq K F ρ σ H F' ρ' σ' H'):Wt K F' ρ' σ' H' a b:=by obtain⟨⟨xs,h1,c⟩,e⟩:=h;refine⟨⟨xs,h1.stp s,c.mono s.cu⟩,?_⟩;cases q:F' a with|none=>rfl|some o=>
   rcases s.vO a e (by rw[q];simp)with z|z;.exact absurd z h1.2
   .rw[h1.1]at z;cases z
end
end HH
end
section
namespace HH
open PySem L2 PySem.Spec PyProof.Rows PySem.Calls PySem.W
noncomputable def vZ(nw:Addr->Option HO)(H:Hp):Hp:=λa=>match nw a with|some o=>some o|none=>H a
theorem rT{nw:Addr->Option HO}{H:Hp}{a:Addr}{o:HO}(h:nw a=some o):vZ nw H a=some o:=by unfold vZ;rw[h]
theorem fc{nw:Addr->Option HO}{H:Hp}{a:Addr}(h:nw a=none):vZ nw H a=H a:=by unfold vZ;rw[h]
theorem VN{X:Cx}{g:List (Addr×Obj)}{σ:L2.St}{H:Hp}{s:Shared}{h':Heap}{t':Nat}{nw:Addr->Option HO}(I:L2.Inv X g σ H s)(k:∀b u,s.heap.get? b=some u->h'.get? b=some u)(i:∀a o,nw a=some o->s.heap.objs.size<=a)(h:∀a o,nw a=some o->aX X.prog X.w (vZ nw H) h' a o):L2.Inv X g σ (vZ nw H) {s with heap:=h',toks:=t'}:=by
 have no:∀a,a<s.heap.objs.size->nw a=none:=λa j=>by cases q:nw a with|none=>rfl|some o=>exact absurd (i a o q) (Nat.not_le_of_lt j)
 have f:∀a o,H a=some o->vZ nw H a=some o:=λa o e=>by rw[fc (no a (I.hok.lt e))];exact e
 refine I.un ⟨λb u q _ _ _=>k b u q,λb u q _ _ _=>⟨u.slots,k b u q⟩,λb u q n _=>?_,λb u q _=>⟨u,k b u q⟩,λb xs q=>f b _ q,λb u xs q=>f b _ q,λb ps q=>⟨#[],by rw[f b _ q];simp⟩⟩ λb u e=>?_;.rw[fc (no b (lt_size q))];exact n
 .cases q:nw b with|some o=>rw[rT q]at e;cases e;exact h b _ q|none=>rw[fc q]at e;exact(I.hok b u e).stay (λc v _ z=>k c v z) (λc z=>f c _ z) λc xs z=>f c _ z
def iv(l d:Addr):Heap->Prop:=λh=>h.IsItemsView l d
def Gw:V->List V->Hp->VK->Prop:=λx xs H Q=>∃q a kvs,x=.ref q/\xs=[]/\H q=some (.cz a (.dK (map pK kvs)))/\∀l,H l=none->Q (.ref l) (upd H l (.ext (iv l q)))
theorem uc{P:Program}{w:World}{h:Heap}:∀{kvs:List (Int×Int)}{vs:List (Key×Value)}{as:List Addr},KV (kvs.map pK) vs->as.length=vs.length->(∀(j:Nat)(a:Addr),as[j]?=some a->∃key k x,vs[j]?=some (k,x)/\(aL P w).is k key=true/\h.get? a=some {cls:=.type "tuple",data:=.seq #[key,x]})->∀(j:Nat)(a:Addr),as[j]?=some a->∃p,kvs[j]?=some p/\∃t u,h.get? a=some {cls:=.type "tuple",data:=.seq #[Value.int p.1 t,Value.int p.2 u]}
 |[],_,as,.nil,f,_,j,a,e=>by cases as with|nil=>cases e|cons _ _=>simp at f
 |p::kvs,_,as,.cons (b:=q) r t,f,hk,j,a,e=>by cases as with|nil=>cases e|cons b as=>cases j with
     |zero=>
       obtain⟨key,k,x,g,m,n⟩:=hk 0 a e;simp at g;have o:k=Sum.inl p.1:=by have z:=r.1;rw[g]at z;exact z.symm
       have s:∃u,x=Value.int p.2 u:=by have z:=r.2;rw[g]at z;exact z
       subst o;obtain⟨u,rfl⟩:=s;obtain⟨i,v,l,rfl⟩|⟨_,_,l,_⟩:=aR (show lQ (Sum.inl p.1) key=true from m);.cases l;exact⟨p,rfl,v,u,n⟩
       .cases l|succ j=>exact uc t (by simpa using f) (λi c z=>by simpa using hk (i+1) c (by simpa using z)) j a (by simpa using e)
noncomputable def W7(p:Int×Int):HO:=.tup [.int p.1,.int p.2]
noncomputable def mH:List Addr->List (Int×Int)->Addr->Option HO|a::as,p::ps,b=>if b=a then some (W7 p)else mH as ps b|_,_,_=>none
theorem m6:∀{as:List Addr}{ps:List (Int×Int)}{b:Addr}{o:HO},mH as ps b=some o->∃(j:Nat)(p:Int×Int),as[j]?=some b/\ps[j]?=some p/\o=W7 p
 |a::as,p::ps,b,o,h=>by
   unfold mH at h;split at h;.rename_i e;cases h;subst e;exact⟨0,p,rfl,rfl,rfl⟩
   .obtain⟨j,q,h1,c,f⟩:=m6 h;exact⟨j+1,q,by simpa using h1,by simpa using c,f⟩|[],_,_,_,h=>by simp[mH]at h|_::_,[],_,_,h=>by simp[mH]at h
theorem yg:∀{as:List Addr}{ps:List (Int×Int)},as.Pairwise (·<·)->∀{j:Nat}{b:Addr}{p:Int×Int},as[j]?=some b->ps[j]?=some p->mH as ps b=some (W7 p)|[],_,_,_,_,_,h,_=>by simp at h|_::_,[],_,_,_,_,_,h=>by simp at h|a::as,q::ps,c,j,b,p,h1,f=>by unfold mH;cases j with|zero=>cases h1;cases f;rw[if_pos rfl]|succ j=>
     have h1:as[j]?=some b:=by simpa using h1
     have:=(List.pairwise_cons.mp c).1 b (mem_of_getElem? h1);rw[if_neg (λe=>by rw[e]at this;exact lt_irrefl _ this)];exact yg (List.pairwise_cons.mp c).2 h1 (by simpa using f)
theorem o9:∀as:List Addr,Vals (as.map V.ref) (as.map Value.ref)|[]=>.nil|_::as=>.cons rfl (o9 as)
theorem yh{K:PySem.W.Frag}{F:Hp}:∀{as:List Addr}{ps:List (Int×Int)},as.length=ps.length->(∀(j:Nat)(b:Addr)(p:Int×Int),as[j]?=some b->ps[j]?=some p->F b=some (W7 p))->au K F (as.map V.ref) (ps.map cQ)|[],[],_,_=>.nil|a::as,p::ps,c,h=>.cons (by have:=h 0 a p rfl rfl;rw[show cQ p=.tup [.int p.1,.int p.2]from rfl,Rep];refine⟨a,_,rfl,.inl (.inl this),.cons (by rw[Rep]) (.cons (by rw[Rep]) .nil)⟩) (yh (by simpa using c) λj b q h1 e=>h (j+1) b q (by simpa using h1) (by simpa using e))|[],_::_,c,_=>by simp at c|_::_,[],c,_=>by simp at c
theorem zc{h:Heap}:∀{as:List Addr}{ps:List (Int×Int)},as.length=ps.length->(∀(j:Nat)(b:Addr),as[j]?=some b->∃p,ps[j]?=some p/\∃t u,h.get? b=some {cls:=.type "tuple",data:=.seq #[Value.int p.1 t,Value.int p.2 u]})->Paired (lZ h) (as.map Value.ref) (ps.map cQ)|[],[],_,_=>.nil|a::as,p::ps,c,h=>.cons (by obtain⟨q,e,t,u,g⟩:=h 0 a rfl;cases e;exact⟨a,[Value.int p.1 t,Value.int p.2 u],[p.1,p.2],rfl,⟨_,g,rfl,0,rfl⟩,.cons _ _ (.cons _ _ .nil),by simp,rfl⟩) (zc (by simpa using c) λj b h1=>by simpa using h (j+1) b (by simpa using h1))|[],_::_,c,_=>by simp at c|_::_,[],c,_=>by simp at c
theorem vL{prog:Program}{w:World}{A:Around}{E:Value->Shared->Prop}{s:Shared}{v d:Addr}{kvs:List (Key×Value)}{ep:Nat}{Q:List Value->Shared->Prop}(n:A.handled=none)(i:s.heap.IsItemsView v d)(j:s.heap.DictAt (aL prog w) d kvs ep)(p:kvs.length<=sizeLine)(t:∀(h':Heap)(f:Nat)(as:List Addr),(∀b o,s.heap.get? b=some o->h'.get? b=some o)->s.heap.objs.size<h'.objs.size->as.length=kvs.length->KdxG (aL prog w) kvs s.heap.objs.size h' as->Q (as.map Value.ref) {s with heap:=h',toks:=f}):wpAny (model prog w) A (collect (.ref v)) Q E s:=by
 have g:v<s.heap.objs.size:=let⟨_,h1,_⟩:=i;lt_size h1;have h:d<s.heap.objs.size:=j.lt_size;unfold collect;refine wpAny_bind (wpAny_runValue (codeAny_builtin F.entry_proto_collect ?_));rw[Around.under_plainId F.plain_proto_collect _];show wpAny _ A.in1 (newList []>>=λl=>again (.builtin "list.__iadd__" ⟨[l,.ref v],[]⟩)) _ _ s;refine wpAny_bind (wpAny_newObj_type (wpAny_pure ⟨plainId_quiet F.plain_list_iadd _,codeAny_builtin F.entry_list_iadd ?_⟩));rw[Around.under_plainId F.plain_list_iadd _];show wpAny _ A.in1 (listExtendWith (.ref s.heap.objs.size) (.ref v) (.ref s.heap.objs.size)) _ _ _;refine kdx_extend (A:=A) (R:=λr k=>match r with
  |.ok (.ret v)=>wpAny (model prog w) A (match v with
   |.ref a=>do let o<-load a match o.data with|.seq xs _=>pure xs.toList|_=>unsupported "internal:collect"
   |_=>unsupported "internal:collect") Q E k|.ok _=>False|.error e=>E e k) (s:={s with heap:=s.heap.push {cls:=.type "list",data:=.seq #[]}}) n (let⟨o,h1,q⟩:=i;⟨o,fH h1,q⟩) (j.at' λo e=>fH e) s.heap.objs.size (Nat.ne_of_gt g) (ne_of_lt h) _ 0 (get?_push_size _ rfl) (λh' f u B as x m y z c=>?_) p;refine wpAny_bind (wpAny_load m (wpAny_pure ?_));rw[c];exact t h' f as (λb o e=>x b o (ne_of_lt (lt_size e)) (fH e)) (lt_size m) y (z.low (by rw[size_push'];exact Nat.le_succ _))
section
variable{X:Cx}{c:Call}{a:Expr}{pa:P}{pos:Pos}
theorem EY:MtR X "dict.items" Gw:=by rintro f s σ H x xs v u Q I h i⟨q,j,kvs,rfl,rfl,l,k⟩;cases h;cases i;obtain⟨ho,hz,m,vs,r,g⟩:=(show aX X.prog X.w H s.heap q (.cz j (.dK (kvs.map pK)))from I.hok q _ l);refine call_meetsIn PySem.F.slot_dict_items g.typeIs PySem.F.entry_dict_items (PySem.F.args_dict_items_1 _) (meets_dict_items _ q m) ⟨⟨vs,g⟩,?_⟩;have n:(s.heap.push {cls:=.type "dict_items",data:=.fields #[.ref q]}).IsItemsView s.heap.objs.size q:=⟨_,get?_push_size _ rfl,rfl,rfl⟩;refine⟨.ref s.heap.objs.size,_,I.laid (t':=s.toks) (o:=.ext (iv s.heap.objs.size q)) (λb o e=>fH e) (bN) ⟨n,⟨_,get?_push_size _ rfl⟩,λh1 y z k=>?_⟩,rfl,k _ (I.hok.fresh (bN))⟩;obtain⟨o,p,t⟩:=z;exact⟨o,k o p,t⟩
theorem Fg{o:Expr}{to:TE}{f g:Pos}(ho:PE X o to)(j:attributeBase o "items" X.env (eval o X.env)=eval o X.env:=by rfl)(l:(f.endLine==g.line)=true:=by rfl):PE X (.Call (.Attribute o "items" f) [] [] g) (λσ H Q=>to σ H λx m=>Gw x [] m Q):=by intro i s σ H Q I h;refine wpAny_Call_method0_late j l (bB (ho i s σ H _ I h) λv s1⟨x,m,I1,r1,q1⟩=>?_);obtain⟨q,u,kvs,rfl,_,y,k⟩:=id q1;cases r1;obtain⟨ho,hz,z,vs,r,n,es,ep,p,t,A⟩:=(show aX X.prog X.w m s1.heap q (.cz u (.dK (kvs.map pK)))from I1.hok q _ y);refine⟨"dict","dict.items",PySem.F.plainAttrs_dict,PySem.F.slot_dict_items,PySem.F.type_dict_items,⟨n,p,t.1⟩,λb e=>?_,Calls.callWith_builtin rfl (PySem.evalArgs_none (EY i s1 σ m (.ref q) [] _ [] Q I1 rfl .nil q1))⟩;cases e;exact⟨n,p,t.2.1⟩
end
end HH
end
section
namespace HH
open PySem L2 PySem.Spec PyProof.Rows
variable{o:Option V}{rows:List (List D)}
section
variable{K:PySem.W.Frag}{F F' F1 H H' H1 F0 H0:Hp}{ρ ρ' ρ1 ρ0:List Sl}{σ σ' σ1 σ0:L2.St}{x:Nat}{q:Addr}{as:List Addr}{rows lX:List (List D)}
noncomputable def Gg:Sl->Bool|.aP=>true|.hold _=>true|_=>false
theorem dU{s:Sl}{i:Nat}{b:Addr}(g:Gg s=true)(h:aH (ρ.set x s) (σ.set x o) i b):aH ρ σ i b/\i≠x:=by
 obtain⟨⟨t,j,e,a⟩,f⟩:=h;by_cases c:x=i
 . subst c;rw[List.getElem?_set]at e;rw[if_pos rfl]at e;split at e;.cases e;cases s<;>first|(cases a;done)|(cases g;done)
   .cases e
 .rw[getElem?_set_ne c]at e f;exact⟨⟨⟨t,j,e,a⟩,f⟩,λz=>c z.symm⟩
theorem GS.zu{s:Sl}(f:Gg s=true)(g:GS K F ρ σ H):GS K F (ρ.set x s) (σ.set x o) H:=by
 refine⟨g.sub,by simp[g.len],λi b d e=>?_,λi t k e h=>?_,λi j a h1 l=>g.dis i j a (dU f h1).1 (dU f l).1⟩
 . by_cases c:x=i
   . subst c;rw[List.getElem?_set,if_pos rfl]at e;split at e;.cases e;cases f
     .cases e
   .rw[getElem?_set_ne c]at e ⊢;exact g.val i b d e
 . by_cases c:x=i
   . subst c;rw[List.getElem?_set,if_pos rfl]at e;split at e;.cases e;cases s<;>first|(cases h;done)|(cases f;done)
     .cases e
   .rw[getElem?_set_ne c]at e ⊢;exact g.own i t k e h
theorem aq.zu{s:Sl}{o:Option V}(a:Gg s=true)(t:aq K F ρ σ H F1 ρ1 σ1 H1)(f:∀s0,ρ[x]?=some s0->sO s0=false):aq K F ρ σ H F1 (ρ1.set x s) (σ1.set x o) H1:=by
 refine⟨t.gs.zu a,t.cu,t.vO,t.keep,λb⟨i,h⟩=>t.tZ b ⟨i,(dU a h).1⟩,by simp[t.len],λi g e l=>?_⟩;have c:x≠i:=by rintro rfl;rw[f _ e]at l;cases l
 obtain⟨j,s2,k,m⟩:=t.lk i g e l;exact⟨by rw[getElem?_set_ne c];exact j,s2,by rw[getElem?_set_ne c];exact k,m⟩
theorem aq.free{i:Nat}{s1:Sl}(t:aq K F ρ σ H F1 ρ1 σ1 H1)(h:ρ1[i]?=some s1)(a:sO s1=false):∀s0,ρ[i]?=some s0->sO s0=false:=λs0 e=>by cases z:sO s0 with|false=>rfl|true=>obtain⟨_,s2,b,c⟩:=t.lk i s0 e z;rw[h]at b;cases b;rw[c.sO z]at a;cases a
structure M3(F:Hp)(ρ:List Sl)(σ:L2.St)(H:Hp)(a:Addr)(xs:List V):Prop where kp:Kp ρ σ H a (.lst xs)fr:F a=none
theorem M3.stp{a:Addr}{xs:List V}(h:M3 F ρ σ H a xs)(s:aq K F ρ σ H F' ρ' σ' H'):M3 F' ρ' σ' H' a xs:=by refine⟨h.kp.stp s,?_⟩;cases z:F' a with|none=>rfl|some o=>
   rcases s.vO a h.fr (by rw[z];simp)with y|y;.exact absurd y h.kp.2
   .rw[h.kp.1]at y;cases y
structure Nw(K:PySem.W.Frag)(x:Nat)(q:Addr)(as:List Addr)(F:Hp)(ρ:List Sl)(σ:L2.St)(H:Hp)(rows:List (List D)):Prop where
 slot:ρ[x]?=some (.hold rows)val:σ[x]?=some (some (.ref q))out:M3 F ρ σ H q (as.map V.ref)nd:(q::as).Nodup
 len:as.length=rows.length
 row:∀(k:Nat)(a:Addr)(ds:List D),as[k]?=some a->rows[k]?=some ds->Wt K F ρ σ H a ds
theorem Nw.stp(w:Nw K x q as F ρ σ H rows)(s:aq K F ρ σ H F' ρ' σ' H'):Nw K x q as F' ρ' σ' H' rows:=by obtain⟨b,s2,c,e⟩:=s.lk x _ w.slot rfl;cases(show s2=.hold rows from e);exact⟨c,b.trans w.val,w.out.stp s,w.nd,w.len,λk a f h1 g=>(w.row k a f h1 g).stp s⟩
structure NB(K:PySem.W.Frag)(x:Nat)(q:Addr)(as:List Addr)(F0:Hp)(ρ0:List Sl)(σ0:L2.St)(H0:Hp)(F:Hp)(ρ:List Sl)(σ:L2.St)(H:Hp)(rows:List (List D)):Prop where
 stp:aq K F0 ρ0 σ0 H0 F ρ σ H
 fresh:∀b,b∈q::as->Own ρ0 σ0 b\/H0 b=none
 free:∀s0,ρ0[x]?=some s0->sO s0=false
 nw:Nw K x q as F ρ σ H rows
theorem NB.step(b:NB K x q as F0 ρ0 σ0 H0 F ρ σ H rows)(s:aq K F ρ σ H F' ρ' σ' H'):NB K x q as F0 ρ0 σ0 H0 F' ρ' σ' H' rows:=⟨b.stp.trans s,b.fresh,b.free,b.nw.stp s⟩
theorem yl{s:Sl}{a:Addr}{b:HO}(c:Gg s=true)(h:Kp ρ σ H a b):Kp (ρ.set x s) (σ.set x o) H a b:=⟨h.1,λ⟨i,z⟩=>h.2 ⟨i,(dU c z).1⟩⟩
theorem Hj{s:Sl}{a:Addr}{b:List D}(c:Gg s=true)(h:Wt K F ρ σ H a b):Wt K F (ρ.set x s) (σ.set x o) H a b:=by obtain⟨⟨xs,h1,e⟩,f⟩:=h;exact⟨⟨xs,yl c h1,e⟩,f⟩
theorem aq.YZ{Da:Addr}{o:HO}(s:aq K F ρ σ H F1 ρ1 σ1 H1)(h:Own ρ σ Da\/H Da=none)(j:F1 Da=none)(ho:¬ Own ρ1 σ1 Da):aq K F ρ σ H F1 ρ1 σ1 (upd H1 Da o):=by
 refine⟨⟨λb u e=>?_,s.gs.len,s.gs.val,λi t c e f=>?_,s.gs.dis⟩,s.cu,s.vO,λb u e n=>?_,s.tZ,s.len,s.lk⟩
 . have:b≠Da:=by rintro rfl;rw[j]at e;cases e
   rw[ao this];exact s.gs.sub b u e
 . obtain⟨a,xs,g,k,l,m⟩:=s.gs.own i t c e f;have:a≠Da:=by rintro rfl;exact ho ⟨i,⟨t,c,e,f⟩,g⟩
   exact⟨a,xs,g,by rw[ao this];exact k,l,m⟩
 . have:b≠Da:=by
    rintro rfl;rcases h with h|h;.exact n h
    .rw[h]at e;cases e
   rw[ao this];exact s.keep b u e n
theorem NB.mut{r:Nat}{a:Addr}{row e:List D}{ys:List V}(b:NB K x q as F0 ρ0 σ0 H0 F ρ σ H rows)(g:as[r]?=some a)(hr:rows[r]?=some row)(n:au K F ys e):NB K x q as F0 ρ0 σ0 H0 F (ρ.set x (.hold (rows.set r e))) σ (upd H a (.lst ys)) (rows.set r e):=by
 have w:=b.nw.row r a row g hr;obtain⟨⟨xs,l,r1⟩,f1⟩:=w;have p:x<ρ.length:=(dj b.nw.slot).1;have sx:σ.set x (some (.ref q))=σ:=by have:=b.nw.val;obtain⟨h1,f⟩:=dj this;rw[<-f];simp
 have mem:a∈q::as:=mem_cons_of_mem _ (mem_of_getElem? g);have s1:=(b.stp.YZ (o:=.lst ys) (b.fresh a mem) f1 l.2).zu (x:=x) (s:=.hold (rows.set r e)) (o:=some (.ref q)) rfl b.free;rw[sx]at s1;have t:q≠a:=by have:=(nodup_cons.mp b.nw.nd).1;rintro rfl;exact this (mem_of_getElem? g)
 have own:∀{c:Addr},¬ Own ρ σ c->¬ Own (ρ.set x (.hold (rows.set r e))) σ c:=λ{c}h⟨i,z⟩=>h ⟨i,by have:=dU (x:=x) (s:=.hold (rows.set r e)) (o:=some (.ref q)) (σ:=σ) (ρ:=ρ) rfl (b:=c) (i:=i) (by rw[sx];exact z);exact this.1⟩;refine⟨s1,b.fresh,b.free,⟨getElem?_set_self p,b.nw.val,⟨⟨by rw[ao t];exact b.nw.out.kp.1,own b.nw.out.kp.2⟩,b.nw.out.fr⟩,b.nw.nd,by simp[b.nw.len],λk c u h1 f=>?_⟩⟩;by_cases j:k=r;.subst j;rw[g]at h1;cases h1;have v:k<rows.length:=(dj hr).1;rw[getElem?_set_self v]at f;cases f;exact⟨⟨ys,⟨aF,own l.2⟩,n⟩,f1⟩
 . rw[getElem?_set_ne (λz=>j z.symm)]at f;obtain⟨⟨y,m,A⟩,f2⟩:=b.nw.row k c u h1 f;have nc:c≠a:=by rintro rfl;have nd:=(nodup_cons.mp b.nw.nd).2;obtain⟨E,B⟩:=dj h1;obtain⟨l2,C⟩:=dj g;exact j ((List.getElem_inj nd).mp (B.trans C.symm))
   exact⟨⟨y,⟨by rw[ao nc];exact m.1,own m.2⟩,A⟩,f2⟩
noncomputable def Fz(F H:Hp)(bs:List Addr):Hp:=λb=>if b∈bs then H b else F b
theorem qt{G:Hp}:∀{as:List Addr}{rows:List (List D)},as.length=rows.length->(∀(k:Nat)(a:Addr)(c:List D),as[k]?=some a->rows[k]?=some c->Rep K G (.ref a) (.lst c))->au K G (as.map V.ref) (rows.map D.lst)|[],[],_,_=>.nil|a::as,c::rows,h,k=>.cons (k 0 a c rfl rfl) (qt (by simpa using h) λj b es h1 e=>k (j+1) b es (by simpa using h1) (by simpa using e))|[],_::_,h,_=>by simp at h|_::_,[],h,_=>by simp at h
theorem Nw.Kr(w:Nw K x q as F ρ σ H rows){b:Addr}(hb:b∈q::as):F b=none/\¬ Own ρ σ b:=by
 rcases mem_cons.mp hb with rfl|hb;.exact⟨w.out.fr,w.out.kp.2⟩
 . obtain⟨k,a⟩:=List.getElem?_of_mem hb;have c:k<rows.length:=by rw[<-w.len];exact(dj a).1
   obtain⟨⟨xs,e,_⟩,f1⟩:=w.row k b rows[k] a (by simp[c]);exact⟨f1,e.2⟩
theorem Nw.fz(w:Nw K x q as F ρ σ H rows)(sm:aD F H):aD F (Fz F H (q::as))/\aD (Fz F H (q::as)) H/\Rep K (Fz F H (q::as)) (.ref q) (.lst (rows.map D.lst)):=by
 have s1:aD F (Fz F H (q::as)):=λb o e=>by unfold Fz;rw[if_neg λc=>by rw[(w.Kr c).1]at e;cases e];exact e
 refine⟨s1,λb o e=>?_,?_⟩
 . unfold Fz at e;split at e;.exact e
   .exact sm b o e
 .rw[Rep];refine⟨q,as.map V.ref,rfl,dJ.of (by unfold Fz;rw[if_pos mem_cons_self];exact w.out.kp.1),qt w.len λk a f h1 g=>?_⟩;obtain⟨⟨xs,h,r1⟩,f1⟩:=w.row k a f h1 g;rw[Rep];exact⟨a,xs,rfl,dJ.of (by unfold Fz;rw[if_pos (mem_cons_of_mem _ (mem_of_getElem? h1))];exact h.1),r1.mono s1⟩
theorem NB.cz(b:NB K x q as F0 ρ0 σ0 H0 F ρ σ H rows):aq K F0 ρ0 σ0 H0 (Fz F H (q::as)) (ρ.set x (.val false (.lst (rows.map D.lst)))) σ H:=by
 obtain⟨s1,s2,w⟩:=b.nw.fz b.stp.gs.sub;have g:=b.stp.gs;have s:x<ρ.length:=(dj b.nw.slot).1;have k:∀{j:Nat}{c:Addr},aH (ρ.set x (.val false (.lst (rows.map D.lst)))) σ j c->aH ρ σ j c/\x≠j:=λ{j c}⟨⟨t,r,e,m⟩,e1⟩=>by
  by_cases f:x=j;.subst f;rw[getElem?_set_self s]at e;cases e;cases m
  .rw[getElem?_set_ne f]at e;exact⟨⟨⟨t,r,e,m⟩,e1⟩,f⟩
 refine⟨⟨s2,by simp[g.len],λi bb d e=>?_,λi t r e m=>?_,λi j c h1 p=>g.dis i j c (k h1).1 (k p).1⟩,b.stp.cu.trans s1,λc n u=>?_,b.stp.keep,λc⟨j,h⟩=>b.stp.tZ c ⟨j,(k h).1⟩,by simp[b.stp.len],λi t e l=>?_⟩
 . by_cases f:x=i;.subst f;rw[getElem?_set_self s]at e;cases e;exact⟨_,b.nw.val,w⟩
   .rw[getElem?_set_ne f]at e;obtain⟨v,h1,p⟩:=g.val i bb d e;exact⟨v,h1,p.mono s1⟩
 . by_cases f:x=i;.subst f;rw[getElem?_set_self s]at e;cases e;cases m
   .rw[getElem?_set_ne f]at e;obtain⟨a,o,h1,p,y,z⟩:=g.own i t r e m;refine⟨a,o,h1,p,?_,z.mono s1⟩;unfold Fz;rw[if_neg λA=>(b.nw.Kr A).2 ⟨i,⟨t,r,e,m⟩,h1⟩];exact y
 . by_cases hc:c∈q::as;.exact(b.fresh c hc).imp id iM
   . have:Fz F H (q::as) c=F c:=by unfold Fz;rw[if_neg hc]
     rw[this]at u;exact b.stp.vO c n u
 . have c:x≠i:=by rintro rfl;rw[b.free _ e]at l;cases l
   obtain⟨B,s3,C,E⟩:=b.stp.lk i t e l;exact⟨B,s3,by rw[getElem?_set_ne c];exact C,E⟩
end
inductive Qi(K:PySem.W.Frag)(x:Nat)(f:List Sl->Res Fl)(E:Ends)(σ:L2.St)(H:Hp):Prop where|mk(F0:Hp)(ρ0:List Sl)(σ0:L2.St)(H0 F:Hp)(ρ:List Sl)(q:Addr)(as:List Addr)(rows:List (List D))(fl:Fl)(ρ':List Sl)(b:NB K x q as F0 ρ0 σ0 H0 F ρ σ H rows)(e:f ρ=.ok fl ρ')(k:∀F' σ' H',aq K F0 ρ0 σ0 H0 F' ρ' σ' H'->aD F F'->((∀r,fl≠.ret r)->∃lX,NB K x q as F0 ρ0 σ0 H0 F' ρ' σ' H' lX)->BZ K E F' ρ' σ' H' ρ0 σ0 H0 fl)
inductive VP(K:PySem.W.Frag)(x:Nat)(f:List Sl->Res Fl)(E:Ends)(σ:L2.St)(H:Hp):Prop where|mk(F0:Hp)(ρ0:List Sl)(σ0:L2.St)(H0 F:Hp)(ρ:List Sl)(q:Addr)(as:List Addr)(rows:List (List D))(fl:Fl)(ρ':List Sl)(b:NB K x q as F0 ρ0 σ0 H0 F ρ σ H rows)(e:f ρ=.ok fl ρ')(k:∀F' σ' H',aq K F0 ρ0 σ0 H0 F' ρ' σ' H'->BZ K E F' ρ' σ' H' ρ0 σ0 H0 fl)
structure Tn(X:Cx)(c:Call)(n x:Nat)(st:Stmt)(s:S):Prop where p:PS X st (Qi X.K x (ex c n s))
structure Ra(X:Cx)(c:Call)(n x:Nat)(st:List Stmt)(s:List S):Prop where p:ug X st (Qi X.K x (fU c n s))
structure Xk(X:Cx)(c:Call)(n x:Nat)(st:List Stmt)(s:List S):Prop where p:ug X st (VP X.K x (fU c n s))
section
variable{X:Cx}{c:Call}{n x:Nat}{e a b d tg iter:Expr}{p pa pb pd:P}{pos:Pos}{body:List Stmt}{ss:List S}{st:Stmt}{s:S}{sts:List Stmt}
theorem mU:Ra X c n x [] []:=⟨lF yH λD σ H⟨f,ρ0,σ0,H0,F,ρ,q,as,rows,fl,ρ',nb,e,k⟩=>by rw[xs0]at e;cases e;exact k F σ H nb.stp (.refl _) λ_=>⟨rows,nb⟩⟩
theorem pF(h1:Tn X c n x st s)(w:Ra X c n x sts ss):Ra X c n x (st::sts) (s::ss):=by refine⟨lF (jJ h1.p w.p) ?_⟩;rintro D σ H⟨h,f,g,i,F,ρ,q,as,rows,fl,t,l,e,k⟩;rw[Ml]at e;obtain⟨f1,j,m,e⟩:=aa e;cases f1 with|next=>refine⟨h,f,g,i,F,ρ,q,as,rows,.next,j,l,m,λF1 y I s1 sm nn=>?_⟩;obtain⟨A,B⟩:=nn (λr z=>by cases z);exact⟨h,f,g,i,F1,j,q,as,A,fl,t,B,e,λC u E s2 G v=>k C u E s2 (sm.trans G) v⟩|brk=>cases e;exact⟨h,f,g,i,F,ρ,q,as,rows,.brk,_,l,m,k⟩|cont=>cases e;exact⟨h,f,g,i,F,ρ,q,as,rows,.cont,_,l,m,k⟩|ret r=>cases e;exact⟨h,f,g,i,F,ρ,q,as,rows,.ret r,_,l,m,k⟩
theorem Ef(h1:Tn X c n x st s)(w:Xk X c n x sts ss):Xk X c n x (st::sts) (s::ss):=by refine⟨lF (jJ h1.p w.p) ?_⟩;rintro D σ H⟨j,g,h,l,F,ρ,q,as,rows,fl,v,t,e,k⟩;rw[Ml]at e;obtain⟨f1,m,u,e⟩:=aa e;cases f1 with|next=>refine⟨j,g,h,l,F,ρ,q,as,rows,.next,m,t,u,λF1 f i s1 sm nn=>?_⟩;obtain⟨y,A⟩:=nn (λr z=>by cases z);exact⟨j,g,h,l,F1,m,q,as,y,fl,v,A,e,k⟩|brk=>cases e;exact⟨j,g,h,l,F,ρ,q,as,rows,.brk,_,t,u,λF1 f i s1 _ _=>k F1 f i s1⟩|cont=>cases e;exact⟨j,g,h,l,F,ρ,q,as,rows,.cont,_,t,u,λF1 f i s1 _ _=>k F1 f i s1⟩|ret r=>cases e;exact⟨j,g,h,l,F,ρ,q,as,rows,.ret r,_,t,u,λF1 f i s1 _ _=>k F1 f i s1⟩
theorem Ja(h:SB X c n sts ss):Xk X c n x sts (.cz x::ss):=by refine⟨lF h ?_⟩;rintro D σ H⟨B,l,m,C,F,ρ,q,as,rows,fl,f,i,e,k⟩;rw[Ml]at e;obtain⟨f1,u,j,e⟩:=aa e;rw[HH.X22,i.nw.slot]at j;cases j;have t:=i.cz;refine⟨_,_,fl,f,t.gs,e,λw g y s=>?_⟩;have z:=k w g y (t.trans s);cases fl with|next=>exact z|brk=>exact z|cont=>exact z|ret r=>exact λv A=>z v (A.later t)
theorem Oj{sa sb:List Stmt}{r u:List S}(hc:ST X c e p)(w:Ra X c n x sa r)(y:Ra X c n x sb u):Tn X c n x (.If e sa sb pos) (.ifs p r u):=by refine⟨cW (Kw hc w.p y.p) ?_⟩;rintro D σ H⟨z,j,l,A,F,ρ,q,as,rows,fl,i,v,e,k⟩;rw[HH.Yl]at e;obtain⟨t,g,B,e⟩:=aa e;refine⟨F,ρ,t,g,v.stp.gs,B,λF1 C s1=>?_⟩;have go:∀{f:List Sl->Res Fl},f g=.ok fl i->Qi X.K x f D σ C:=λ{f}h=>⟨z,j,l,A,F1,g,q,as,rows,fl,i,v.step s1,h,λE m G s2 sm nn=>k E m G s2 (s1.cu.trans sm) nn⟩;cases t with|true=>rw[if_pos rfl]at e;exact go e|false=>rw[if_neg Bool.false_ne_true]at e;exact go e
theorem BW{ρ:List Sl}(h:gA ρ x=some rows):ρ[x]?=some (.hold rows):=by
 unfold gA at h;split at h;.rename_i z;cases h;exact z
 .cases h
def WalkN(K:PySem.W.Frag)(J:It)(i:List D)(F1:Hp):Prop:=∀(k:Nat)(h f:Hp),aD F1 h->aD h f->(∀d,i[k]?=some d->J.go k f/\∀x j,J.Lj k f x j->∃g,Ext h f g j/\Rep K g x d)/\(i.length<=k->J.stop k f)
inductive aaZ(K:PySem.W.Frag)(f:Ev)(σ:L2.St)(H:Hp)(R:It->Hp->Prop):Prop where|mk(F:Hp)(ρ:List Sl)(r:HH.R)(ρ1:List Sl)(ds:List D)(g:GS K F ρ σ H)(e:f ρ=.ok r ρ1)(e2:items r.d=some ds)(k:∀J F1 H1,aq K F ρ σ H F1 ρ1 σ H1->WalkN K J ds F1->R J H1)
structure SIN(X:Cx)(c:Call)(tg e:Expr)(p:P):Prop where p:PI X tg e (aaZ X.K (HH.ev c p))
theorem HW(h:SX X c e p):SIN X c tg e p:=by refine⟨oA (xH h.ev) ?_⟩;rintro σ H R⟨F,ρ,r,m,y,g,e,f,k⟩;refine⟨F,ρ,r,m,g,e,λv z A s t=>?_⟩;obtain⟨B,s2,_,i⟩:=s.cz t;cases hd:r.d with|tup es=>rw[hd]at i f;cases f;rw[Rep]at i;obtain⟨a,xs,rfl,h1,q⟩:=i;exact⟨a,rfl,.inr ⟨⟨xs,aD.gG s2.gs.sub h1⟩,k _ _ _ s2 λk u w j l=>yp (aD.gG l (aD.gG j h1)) (q.mono j) l k⟩⟩|lst es=>rw[hd]at i f;cases f;rw[Rep]at i;obtain⟨a,xs,rfl,h1,q⟩:=i;exact⟨a,rfl,.inl ⟨⟨xs,s2.gs.sub.seq h1⟩,k _ _ _ s2 λk u w j l=>nu (l.seq (j.seq h1)) (q.mono j) l k⟩⟩|_=>rw[hd]at f;cases f
theorem Aa{K:PySem.W.Frag}{F1:Hp}(i j:Int):WalkN K (RQ i (j-i).toNat) ((List.range (j-i).toNat).map λ(k:Nat)=>D.int (i+(k:Int))) F1:=by
 refine λk g u _ sm=>⟨λd hd=>?_,λh=>?_⟩;.rw[getElem?_map]at hd;obtain⟨m,l,q⟩:=map_some hd;obtain⟨h1,f⟩:=dj l;rw[List.getElem_range]at f;subst f;subst q;rw[length_range]at h1;refine⟨h1,?_⟩;rintro x v⟨r,t⟩;subst r;subst t;exact⟨g,.refl sm,bA _⟩
 .rw[length_map,length_range]at h;exact h
theorem Fj{x:Str}{q:Pos}(t:x="range")(u:Gl X x)(w:X.mg x=none)(y:SX X c a pa)(hs:starEach [a] X.env=[(false,eval a X.env)]:=by rfl):SIN X c tg (.Call (.Name x q) [a] [] pos) (.v7 (.con (.int 0)) pa):=by
 subst t;obtain⟨O,h1,z⟩:=y.bF;refine⟨oA (qx u w (bC h1 dF hs) hs) ?_⟩;rintro σ H R⟨F,ρ,r,A,Q,g,l,B,k⟩;rw[HH.E19]at l;obtain⟨U,C,E,f⟩:=aa l;have G:=az f;clear f;obtain⟨f,I⟩:=G;subst I;obtain⟨W,J,L,h⟩:=aa E;cases h;obtain⟨i,f1,f⟩:=bJ f;obtain⟨j,f2,f⟩:=bJ f;obtain⟨⟨b1,b2,b3,b4⟩,f⟩:=aW f;have f1:i=0:=by cases f1;rfl
 subst f1;subst f;cases B;cases bO f2;refine z g L λv m M s N=>⟨j,by rw[N.int],by omega,by omega,?_⟩;have:=Aa (K:=X.K) (F1:=m) 0 j;rw[sub_zero]at this;refine k _ m M s ?_;rw[sub_zero];exact this
theorem zq{g:TG}{is:List Nat}{one:Bool}(hp:PassesOwn (model X.prog X.w) X.A X.env X.xe)(hc:X.calm=true)(hi:SIN X c tg iter p)(hg:PG X tg g)(ag:Ca X.K (λρ d=>bQ ρ is one d) g)(hb:Ra X c n x body ss)(hs:∀x,foldedSetIterable iter X.env x=pure x:=by intro _;rfl):Tn X c n x (.For tg iter body [] pos) (.Bx p is one ss):=by
 refine⟨cW (Ck hp hc hi.p hg hb.p hs) ?_⟩;rintro D σ H⟨F0,C,E,H0,F,ρ,q,as,rows,fl,O,nb,e,k⟩;rw[HH.X21]at e;obtain⟨r,Q,e1,e⟩:=aa e;obtain⟨j,am,e9,e2⟩:=aa e;have zz:=az e9;clear e9;obtain⟨e9,ah⟩:=zz;subst ah;refine⟨F,ρ,r,Q,j,nb.stp.gs,e1,e9,λJ F1 H1 s1 w=>?_⟩;refine⟨λi m t Hi=>∃B f N,NB X.K x q as F0 C E H0 B f t Hi N/\aD F1 B/\m=j.length-i/\i<=j.length/\fM is one (fU c n ss) (j.drop i) f=.ok fl O,⟨_,F1,Q,rows,nb.step s1,.refl _,rfl,pG,e2⟩,?_⟩;rintro i m t Hi⟨B,f,N,U,G,rfl,ap,l⟩;obtain⟨w1,w2⟩:=w i B Hi G U.stp.gs.sub;by_cases u:i<j.length
 . right;have hd:j[i]?=some j[i]:=by simp[u]
   obtain⟨go,step⟩:=w1 _ hd;refine⟨go,λW Y=>∃m',m'<j.length-i/\∃B f N,NB X.K x q as F0 C E H0 B f W Y N/\aD F1 B/\m'=j.length-(i+1)/\i+1<=j.length/\fM is one (fU c n ss) (j.drop (i+1)) f=.ok fl O,λW Y z=>z,λy Y yy=>?_⟩;obtain⟨F2,ext,rx⟩:=step y Y yy;have t2:=ext.stp U.stp.gs;rw[drop_eq_getElem_cons u,fM]at l;cases hbd:bQ f is one j[i]with|none=>rw[hbd]at l;cases l|some Z=>rw[hbd]at l;obtain⟨ae,I,eb,l⟩:=aa l;refine ag y _ F2 f Z t Y _ t2.gs rx hbd λar sb=>?_;have t3:=t2.trans sb;refine⟨F0,C,E,H0,F2,Z,q,as,N,ae,I,U.step t3,eb,λF4 af H4 s4 ai L=>?_⟩;have S8:aD F1 F4:=G.trans (ext.fs.trans ai);cases ae with|next=>obtain⟨GJ,M⟩:=L (λr z=>by cases z);exact⟨_,by omega,F4,I,GJ,M,S8,rfl,u,l⟩|cont=>obtain⟨GJ,M⟩:=L (λr z=>by cases z);exact⟨_,by omega,F4,I,GJ,M,S8,rfl,u,l⟩|brk=>cases l;exact k F4 af H4 s4 (s1.cu.trans S8) λ_=>L (λr z=>by cases z)|ret r=>cases l;exact λv rr=>k F4 af H4 s4 (s1.cu.trans S8) (λh=>(h r rfl).elim) v rr
 . left;have al:j.drop i=[]:=by rw[drop_eq_nil_iff];omega
   rw[al,fM]at l;cases l;exact⟨w2 (by omega),k B t Hi U.stp (s1.cu.trans G) λ_=>⟨N,U⟩⟩
end
section
variable{X:Cx}{c:Call}{n:Nat}{e a b d i j:Expr}{p pa pb pd pi pj:P}{pos:Pos}
theorem Ij{ρ f:List Sl}{x:Nat}{o:Option (List (List D))}{fl:Fl}(h:Be ρ x o=.ok fl f):∃rows,o=some rows/\fl=.next/\f=ρ.set x (.hold rows):=by cases o with|none=>cases h|some rows=>cases h;exact⟨rows,rfl,rfl,rfl⟩
section
variable{K:PySem.W.Frag}{F H F0 H0:Hp}{ρ ρ0:List Sl}{σ σ0:L2.St}{x:Nat}{q:Addr}{as:List Addr}{rows lX:List (List D)}
theorem NB.hold(f:NB K x q as F0 ρ0 σ0 H0 F ρ σ H rows)(h:gA ρ x=some lX):lX=rows:=by have:=BW h;rw[f.nw.slot]at this;cases this;rfl
theorem NB.at{k:Int}{r:Nat}{row:List D}(f:NB K x q as F0 ρ0 σ0 H0 F ρ σ H rows)(h1:HH.gw rows.length k=some r)(h:rows[r]?=some row):∃a ys,as[r]?=some a/\DY (as.map V.ref) k=some (.ref a)/\H a=some (.lst ys)/\au K F ys row:=by
 have g:r<as.length:=by rw[f.nw.len];exact(dj h).1
 obtain⟨⟨ys,l,r1⟩,_⟩:=f.nw.row r as[r] row (by simp[g]) h;refine⟨as[r],ys,by simp[g],?_,l.1,r1⟩;unfold DY;rw[length_map,f.nw.len];rw[show L2.gw rows.length k=some r from h1];simp[g]
theorem NB.sV{g:D}{row:List D}(l:NB K x q as F0 ρ0 σ0 H0 F ρ σ H rows)(h:HH.sV ρ x g=some row):∃k a,(∃r:Nat,as[r]?=some a)/\DY (as.map V.ref) k=some (.ref a)/\g=.int k/\∃ys,H a=some (.lst ys)/\au K F ys row:=by unfold HH.sV at h;obtain⟨f,h1,h⟩:=bJ h;cases l.hold h1;obtain⟨k,m,h⟩:=bJ h;obtain⟨r,s,t⟩:=bJ h;obtain⟨a,ys,u,v,w,y⟩:=l.at s t;exact⟨k,a,⟨r,u⟩,v,bO m,ys,w,y⟩
end
theorem Bh{l:List (List D)}{k:Int}{f:List D->Option (List D)}(h:ir rows k f=some l):∃r row g,HH.gw rows.length k=some r/\rows[r]?=some row/\f row=some g/\l=rows.set r g:=by unfold ir at h;obtain⟨r,h1,h⟩:=bJ h;obtain⟨row,m,h⟩:=bJ h;obtain⟨g,q,h⟩:=map_some h;exact⟨r,row,g,h1,m,q,h.symm⟩
theorem De{x:Str}{k:Nat}{u f h g:Pos}(hN:X.N[k]?=some x)(hv:uC X.env.scope x)(hi:SX X c i pi)(he:SX X c e p)(I:sI i:=by intro _ _;rfl)(l:(h.endLine==g.line)=true:=by rfl)(hs:starEach [e] X.env=(false,eval e X.env)::starEach [] X.env:=by rfl)(s:attributeBase (.Subscript (.Name x u) i f) "append" X.env (eval (.Subscript (.Name x u) i f) X.env)=eval (.Subscript (.Name x u) i f) X.env:=by rfl)(w:((backTo g (starEach [e] X.env)).all (λx=>!x.1)&&(backToKw g (keywordEach [] X.env)).all (λx=>x.1.isSome)&&decide ([e].length+([]:List Keyword).length+(if([]:List Keyword).isEmpty then 0 else 1)<30))=true:=by rfl)(J:swapsWith (.Call (.Attribute (.Subscript (.Name x u) i f) "append" h) [e] [] g) none pos.line X.env=pure false:=by rfl)(hd:(x==("__debug__":Str))=false:=by decide)(L:(x==("__classdict__":Str))=false:=by decide):Tn X c n k (.Expr (.Call (.Attribute (.Subscript (.Name x u) i f) "append" h) [e] [] g) pos) (.GD k pi p):=by obtain⟨ti,M,O⟩:=hi.bF;refine⟨cW (rN (Gb plainAttrs_list PySem.F.slot_list_append PySem.F.type_list_append lq (KH zG (dh hN hv hd L) M I) (bC he.ev dF hs) s w l hs) J) ?_⟩;rintro E σ H⟨F0,am,ap,H0,F,ρ,q,as,rows,fl,ar,Q,e,kk⟩;rw[HH.X20]at e;obtain⟨dk,U,e2,e⟩:=aa e;obtain⟨ai,al,C,e⟩:=aa e;have zz:=az C;clear C;obtain⟨C,W⟩:=zz;subst W;obtain⟨r,Y,e3,e⟩:=aa e;obtain⟨rs,y,rfl,rfl⟩:=Ij e;refine⟨.ref q,Q.nw.val,O Q.stp.gs e2 λvi F1 H1 s1 pi=>?_⟩;have G:=Q.step s1;obtain⟨k0,a,g1,g2,g0,ys,g3,g4⟩:=G.sV C;rw[g0]at pi;refine⟨q,_,k0,_,rfl,pi.int,dJ.of G.nw.out.kp.1,g2,.inl ⟨rfl,ys,dJ.of g3⟩,F1,U,r,Y,G.stp.gs,e3,λv F2 H2 s2 rr=>?_⟩;obtain⟨F3,s3,_,rp⟩:=s2.cz rr;have t:=G.step s3;obtain⟨Z,e5,y⟩:=bJ y;cases t.hold e5;obtain⟨k1,e6,y⟩:=bJ y;obtain⟨m,row,jg,f1,f2,f3,rfl⟩:=Bh y;obtain⟨ae,rfl⟩:=aW f3;have:=bO e6;rw[g0]at this;cases this;obtain⟨a',af,ag,z,ah,A⟩:=t.at f1 f2;rw[g2]at z;cases z;have B:=t.mut ag f2 (A.append (.cons rp .nil));exact⟨a,af,v,rfl,rfl,ah,by rw[A.length];exact ae,kk F3 σ _ B.stp (s1.cu.trans s3.cu) λ_=>⟨_,B⟩⟩
end
section
variable{K:PySem.W.Frag}{F H F1 H1:Hp}{ρ ρ1:List Sl}{σ σ1:L2.St}
theorem aq.since{b:Addr}(s:aq K F ρ σ H F1 ρ1 σ1 H1)(h:H1 b=none):Own ρ σ b\/H b=none:=by
 by_cases ho:Own ρ σ b;.exact .inl ho
 .right;cases e:H b with|none=>rfl|some o=>rw[s.keep b o e ho]at h;cases h
theorem NB.mk'{x:Nat}{q:Addr}{as:List Addr}{s1:Sl}(s:aq K F ρ σ H F1 ρ1 σ1 H1)(e:ρ1[x]?=some s1)(g:sO s1=false)(h:M3 F1 ρ1 σ1 H1 q (as.map V.ref))(nd:(q::as).Nodup)(len:as.length=rows.length)(row:∀(k:Nat)(a:Addr)(c:List D),as[k]?=some a->rows[k]?=some c->Wt K F1 ρ1 σ1 H1 a c)(fr:∀b,b∈q::as->Own ρ σ b\/H b=none):NB K x q as F ρ σ H F1 (ρ1.set x (.hold rows)) (σ1.set x (some (.ref q))) H1 rows:=by
 have hi:x<ρ1.length:=(dj e).1;have f:x<σ1.length:=by rw[<-s.gs.len];exact hi
 exact⟨s.zu rfl (s.free e g),fr,s.free e g,⟨getElem?_set_self hi,getElem?_set_self f,⟨yl rfl h.kp,h.fr⟩,nd,len,λk a c h1 i=>Hj rfl (row k a c h1 i)⟩⟩
end
theorem Eh{K:PySem.W.Frag}{F H:Hp}{ρ e l:List Sl}{σ:L2.St}{ul:List Sl->List Sl}{ti:TI}{is:List Nat}{one:Bool}{c:Call}{el:Ev}{g:TG}{Q:VK}{f:List D}{m n:Nat}(hm:σ.length=m)(ay:qy K m is one g)(aE:∀R:It->Hp->Prop,(∀J F1 Y,Walk K F ρ σ H ul J f F1 e Y->R J Y)->ti σ H R)(bm:f.length<=lim)(e2:dH is one el f [] (e++replicate n .aP)=.ok rows l)(k:∀ q as F' H',aq K F ρ σ H F' (ul (l.take e.length)) σ H'->M3 F' (ul (l.take e.length)) σ H' q (as.map V.ref)->(q::as).Nodup->as.length=rows.length->(∀(k:Nat)(a:Addr)(f:List D),as[k]?=some a->rows[k]?=some f->Wt K F' (ul (l.take e.length)) σ H' a f)->(∀b,b∈q::as->Own ρ σ b\/H b=none)->Q (.ref q) H'):qP n ti g (G6 K (vh c none)) (vV K el) σ H Q:=by
 refine aE _ λJ F1 Y w Da zW=>?_;have aI:e.length=σ.length:=w.gs.len;have gm:=w.gs.more (n:=n) (τ:=replicate n none) (by simp);have fD:F1 Da=none:=by cases q:F1 Da with|none=>rfl|some o=>rw[w.gs.sub Da o q]at zW;cases zW
 have nO:¬ Own (e++replicate n .aP) (σ++replicate n none) Da:=λ⟨i,⟨t,dt,q1,q2⟩,q3⟩=>by obtain⟨a,ys,z1,z2,_⟩:=gm.own i t dt q1 q2;rw[q3]at z1;cases z1;rw[zW]at z2;cases z2
 refine⟨λi mm ys j N=>∃O u B as,aq K F1 (e++replicate n .aP) (σ++replicate n none) Y O u j N/\j.take m=σ/\ys=as.map V.ref/\N Da=some (.lst ys)/\O Da=none/\¬ Own u j Da/\(Da::as).Nodup/\as.length=B.length/\(∀(k:Nat)(a:Addr)(f:List D),as[k]?=some a->B[k]?=some f->Wt K O u j N a f/\(Own (e++replicate n .aP) (σ++replicate n none) a\/Y a=none))/\B.length<=i/\mm=f.length-i/\i<=f.length/\dH is one el (f.drop i) B u=.ok rows l,⟨_,F1,_,[],[],(aq.refl gm).Em zW fD nO,by rw[List.take_append_of_le_length (by omega),take_of_length_le (by omega)],rfl,aF,fD,nO,by simp,rfl,λk a f h=>by simp at h,pG,rfl,pG,e2⟩,?_⟩;rintro i mm ys j N⟨O,u,B,as,si,ar,ae,hD,hF,hO,af,C,I,bn,rfl,bo,G⟩;refine⟨hD,?_⟩;have stay:∀{F2 H2:Hp}{ag:List Sl}{L:L2.St},aq K O u j N F2 ag L H2->H2 Da=some (.lst ys)/\F2 Da=none/\¬ Own ag L Da:=λ{F2 H2 ag L}s=>by have:=(M3.stp (xs:=ys) ⟨⟨hD,hO⟩,hF⟩ s);exact⟨this.kp.1,this.fr,this.kp.2⟩
 obtain⟨s1,s2⟩:=w.src n i O u j N si;by_cases ah:i<f.length
 . right;have hd:f[i]?=some f[i]:=by simp[ah]
   obtain⟨go,step⟩:=s1 _ hd;refine⟨go,λx H2 y=>?_⟩;obtain⟨F2,ext,rx⟩:=step x H2 y;have t2:=ext.stp si.gs;rw[drop_eq_getElem_cons ah,dH]at G;cases hbd:bQ u is one f[i]with|none=>rw[hbd]at G;cases G|some X=>rw[hbd]at G;obtain⟨re,ai,ee,G⟩:=aa G;cases re with|val _=>cases G|own al=>
     replace G:dH is one el (f.drop (i+1)) (B++[al]) ai=.ok rows l:=G;refine ay x _ F2 u X j H2 _ t2.gs rx hbd λL sb aS=>?_;have t3:=t2.trans sb;refine⟨F2,X,true,X,t3.gs,by rw[vh],λF4 H4 s4=>?_⟩;have t4:=t3.trans s4;refine(show vV K el L H4 _ from⟨F4,X,.own al,ai,t4.gs,ee,λv F5 H5 s5 rr=>?_⟩);have t6:=t4.trans s5;obtain⟨y1,y2,y3⟩:=stay t6;obtain⟨z1,z2,z3⟩:=stay t4;have am:ys.length<sizeLine:=by have U:lim=sizeLine:=rfl;rw[ae,length_map];omega
     obtain⟨A,xs,rfl,a1,a2,a3,a4,a5⟩:=rr;have av:A≠Da:=by
      rintro rfl;rcases a5 with z|z;.exact z3 z
      .rw[z1]at z;cases z
     have nA:A∉as:=λhA=>by
      obtain⟨M,E⟩:=List.getElem?_of_mem hA;have ap:M<B.length:=by rw[<-C];exact(dj E).1
      obtain⟨⟨zs,Z,_⟩,_⟩:=(I M A B[M] E (by simp[ap])).1.stp t4;rcases a5 with z|z;.exact Z.2 z
      .rw[Z.1]at z;cases z
     have fA:Own (e++replicate n .aP) (σ++replicate n none) A\/Y A=none:=by
      have t:=si.trans t4;rcases a5 with z|z;.exact t.tZ A z
      .exact t.since z
     refine⟨y1,am,_,by omega,F5,ai,B++[al],as++[A],(si.trans t6).Em zW y2 y3,aS.trans ar,by rw[ae];simp,aF,y2,y3,?_,by simp[C],λM a0 aT h1 U=>?_,by simp;omega,rfl,ah,G⟩
     . rw[<-cons_append,nodup_append];refine⟨af,by simp,λp hp r hr=>?_⟩;simp at hr;subst hr;rcases mem_cons.mp hp with rfl|hp;.exact λz=>av z.symm
       .rintro rfl;exact nA hp
     . by_cases E:M<as.length
       . rw[getElem?_append_left E]at h1;rw[getElem?_append_left (by omega)]at U;obtain⟨w0,f0⟩:=I M a0 aT h1 U;obtain⟨⟨zs,Z,r1⟩,g1⟩:=w0.stp t6;have na:a0≠Da:=by rintro rfl;exact(nodup_cons.mp af).1 (mem_of_getElem? h1)
         exact⟨⟨⟨zs,⟨by rw[ao na];exact Z.1,Z.2⟩,r1⟩,g1⟩,f0⟩
       . rw[getElem?_append_right (by omega)]at h1;rw[getElem?_append_right (by omega)]at U;have:M-as.length=0:=by have:=(dj h1).1;simp at this;exact this
         rw[this]at h1;rw[<-C,this]at U;cases h1;cases U;exact⟨⟨⟨xs,⟨by rw[ao av];exact a1,a4⟩,a3⟩,a2⟩,fA⟩
 . left;have a8:f.drop i=[]:=by rw[drop_eq_nil_iff];omega
   rw[a8,dH]at G;cases G;refine⟨s2 (by omega),?_⟩;have hst:j.take e.length=σ:=by rw[aI,hm];exact ar
   obtain⟨l1,l2⟩:=aq.less (m:=e.length) rfl w.gs (by simp) si;rw[hst]at l1;obtain⟨z1,z2⟩:=w.fin _ _ _ _ l1--the outer list:with nothing in it,it is like any new one
   have a9:=si.Em (o:=.lst []) zW hF hO;obtain⟨aw,SJ⟩:=aq.less (m:=e.length) rfl w.gs (by simp) a9;rw[hst]at aw;obtain⟨bp,ba⟩:=w.fin _ _ _ _ aw;have rr:bL K O l j (upd N Da (.lst [])) (e++replicate n .aP) (σ++replicate n none) Y (.ref Da) (.own []):=⟨Da,[],rfl,aF,hF,.nil,hO,.inr zW⟩;have Ls:=SJ _ _ rr;rw[hst]at Ls;obtain⟨_,_,q0,_,q3,_,q5,q6⟩:=ba _ _ Ls;cases q0;have ax:∀(k:Nat)(a:Addr)(f:List D),as[k]?=some a->rows[k]?=some f->Wt K O (ul (l.take e.length)) σ N a f/\(Own ρ σ a\/H a=none):=λk a f h1 U=>by obtain⟨⟨⟨xs,Z,r1⟩,f1⟩,f2⟩:=I k a f h1 U;have rr:bL K O l j N (e++replicate n .aP) (σ++replicate n none) Y (.ref a) (.own f):=⟨a,xs,rfl,Z.1,f1,r1,Z.2,f2⟩;have Ls:=l2 _ _ rr;rw[hst]at Ls;obtain⟨a',bi,q0,q2,q3,q4,q5,q6⟩:=z2 _ _ Ls;cases q0;exact⟨⟨⟨bi,⟨q2,q5⟩,q4⟩,q3⟩,q6⟩
   refine k Da as O N z1 ⟨⟨by rw[hD,ae],q5⟩,q3⟩ af C (λk a f h1 U=>(ax k a f h1 U).1) λb hb=>?_;rcases mem_cons.mp hb with rfl|hb;.exact q6
   . obtain⟨M,E⟩:=List.getElem?_of_mem hb;have ap:M<rows.length:=by rw[<-C];exact(dj E).1
     exact(ax M b rows[M] E (by simp[ap])).2
section
variable{X:Cx}{c:Call}{nn n:Nat}{tg iter elt:Expr}{ps pe:P}{pos:Pos}{sts:List Stmt}{ss:List S}{scope:Scope}{N':List Str}
theorem Io{i:Nat}{x:Str}{b f:Pos}{g:TG}{is:List Nat}{one:Bool}(hc:X.calm=true)(A:X.N.Nodup)(m:X.N[i]?=some x)(B:Loc X.env.scope x)(ok:dR X scope N' n)(hi:SI X c tg iter ps)(E:∀cl C s₀ H₀ ex,PG (u9 X scope N' cl C s₀ H₀ ex) tg g)(r:qy X.K X.N.length is one g)(ht:∀cl C s₀ H₀ ex,SQ (u9 X scope N' cl C s₀ H₀ ex) c [] none)(he:∀cl C s₀ H₀ ex,SX (u9 X scope N' cl C s₀ H₀ ex) c elt pe)(G:Xk X c nn i sts ss)(t:swapsWith (.ListComp elt [⟨tg,iter,[],0⟩] scope pos) (some (.Name x b)) f.line X.env=pure true:=by rfl)(hs:∀x,foldedSetIterable iter X.env x=pure x:=by intro _;rfl)(J:X.fn x=true\/X.env.scope.names.lookup x=some .local:=by first|exact .inl rfl|exact .inr rfl|assumption):SB X c nn (.Assign [.Name x b] (.ListComp elt [⟨tg,iter,[],0⟩] scope pos) f::sts) (.GC i ps n is one pe::ss):=by
 have h0:=IV (tt:=G6 X.K (vh c none)) (te:=vV X.K (HH.ev c pe)) hc A m B ok hi E ht (λcl C s₀ H₀ ex=>(he cl C s₀ H₀ ex).ev) t hs J;refine λj s σ H D I q=>jJ h0 G.p j s σ H D I ?_;have L:σ.length=X.N.length:=I.len;obtain⟨F,ρ,fl,u,M,e,O⟩:=q;rw[Ml]at e;obtain⟨f1,Q,a,e⟩:=aa e;rw[HH.X19]at a;obtain⟨U,w,W,a⟩:=aa a;split at a;.rename_i k;obtain⟨rows,Y,Z,a⟩:=aa a;obtain⟨ae,z,l,a⟩:=aa a;cases a;have zz:=az l;clear l;obtain⟨l,_⟩:=zz;obtain⟨s1,h1,h2,rfl⟩:=oU l;refine(show qP n (tIt X.K (isVar ps) (HH.ev c ps)) g (G6 X.K (vh c none)) (vV X.K (HH.ev c pe)) σ H (λv H1=>jm i v σ H1 (VP X.K i (fU c nn ss) D))from Eh (c:=c) (ul:=aO ρ (isVar ps)) L r (λR h=>⟨F,ρ,U,w,M,W,h⟩) k Z λq as F' H' s wq nd len row fr=>?_);exact⟨F,ρ,σ,H,F',_,q,as,rows,fl,u,NB.mk' s h1 h2 wq nd len row fr,e,λF2 y H2 s2=>O F2 y H2 s2⟩
 .cases a
end
end HH
end
section
namespace HH
open PySem L2 PySem.Spec PyProof.Rows PySem.Calls PySem.W
variable{i:Nat}{x:Str}
section
variable{K:PySem.W.Frag}{F F1 H H1:Hp}{ρ ρ1 ρ2:List Sl}{σ σ1:L2.St}
theorem GS.aaU{x:Nat}{kvs f:List (Int×D)}{a:Addr}{w:HO}(g:GS K F ρ σ H)(e:ρ[x]?=some (.bV kvs))(p:σ[x]?=some (some (.ref a)))(r:jh K F w (.v f)):aq K F ρ σ H F (ρ.set x (.bV f)) σ (upd H a w):=by
 have hi:x<ρ.length:=(dj e).1;have y:aH ρ σ x a:=⟨⟨_,_,e,rfl⟩,p⟩;obtain⟨L,M,h1,N,z,O⟩:=g.own x _ _ e rfl;rw[p]at h1;cases h1;have h:∀{j:Nat}{c:Addr},aH (ρ.set x (.bV f)) σ j c->aH ρ σ j c:=λ{j c}⟨⟨t,dt,m,s⟩,q3⟩=>by
  by_cases b:j=x;.subst b;exact⟨⟨_,_,e,rfl⟩,q3⟩
  .rw[di b]at m;exact⟨⟨t,dt,m,s⟩,q3⟩
 refine⟨⟨λc o q=>?_,by simp[g.len],λj B d q=>?_,λj t dt q u=>?_,λj k c m s=>g.dis j k c (h m) (h s)⟩,.refl _,λc n C=>absurd n C,λc o q n=>?_,λc⟨j,q⟩=>.inl ⟨j,h q⟩,by simp,λj t q l=>⟨rfl,?_⟩⟩
 . have:c≠a:=by rintro rfl;rw[z]at q;cases q
   rw[ao this];exact g.sub c o q
 . by_cases b:j=x;.subst b;rw[getElem?_set_self hi]at q;cases q
   .rw[di b]at q;exact g.val j B d q
 . by_cases b:j=x;.subst b;rw[getElem?_set_self hi]at q;cases q;cases u;exact⟨a,_,p,aF,z,r⟩
   . rw[di b]at q;obtain⟨c,E,A,G,I,J⟩:=g.own j t dt q u;have:c≠a:=by rintro rfl;exact b (g.dis j x c ⟨⟨t,dt,q,u⟩,A⟩ y)
     exact⟨c,E,A,by rw[ao this];exact G,I,J⟩
 . have:c≠a:=by rintro rfl;exact n ⟨x,y⟩
   rw[ao this];exact q
 . by_cases b:j=x;.subst b;rw[e]at q;cases q;cases l
   .exact⟨t,by rw[di b];exact q,.refl t⟩
theorem GS.newV{kvs:List (Int×D)}{a:Addr}{A:HO}{s0:Sl}(g:GS K F ρ σ H)(e:ρ[i]?=some s0)(y:sO s0=false)(r:jh K F A (.v kvs))(s:H a=none):aq K F ρ σ H F (ρ.set i (.bV kvs)) (σ.set i (some (.ref a))) (upd H a A):=by
 have hi:i<ρ.length:=(dj e).1;have u:i<σ.length:=by rw[<-g.len];exact hi
 have B:F a=none:=by cases q:F a with|none=>rfl|some o=>rw[g.sub a o q]at s;cases s
 have f:∀{j:Nat}{c:Addr},j≠i->aH (ρ.set i (.bV kvs)) (σ.set i (some (.ref a))) j c->aH ρ σ j c:=λ{j c}b⟨⟨t,ds,e1,e2⟩,e3⟩=>by rw[di b]at e1 e3;exact⟨⟨t,ds,e1,e2⟩,e3⟩
 have h:∀{c:Addr},aH (ρ.set i (.bV kvs)) (σ.set i (some (.ref a))) i c->c=a:=λ{c}⟨_,e3⟩=>by rw[getElem?_set_self u]at e3;cases e3;rfl
 have no:∀{j:Nat},¬ aH ρ σ j a:=λ{j}⟨⟨t,ds,e1,e2⟩,e3⟩=>by obtain⟨c,o,m,p,_⟩:=g.own j t ds e1 e2;rw[e3]at m;cases m;rw[s]at p;cases p
 refine⟨⟨λc o q=>?_,by simp[g.len],λj E d q=>?_,λj t dt q C=>?_,λj k c m p=>?_⟩,.refl _,λc n G=>absurd n G,λc o q n=>?_,λc⟨j,q⟩=>?_,by simp,λj t q l=>?_⟩
 . have:c≠a:=by rintro rfl;rw[B]at q;cases q
   rw[ao this];exact g.sub c o q
 . by_cases b:j=i;.subst b;rw[getElem?_set_self hi]at q;cases q
   .rw[di b]at q ⊢;exact g.val j E d q
 . by_cases b:j=i;.subst b;rw[getElem?_set_self hi]at q;cases q;cases C;exact⟨a,_,getElem?_set_self u,aF,B,r⟩
   . rw[di b]at q ⊢;obtain⟨c,o,I,z,J,L⟩:=g.own j t dt q C;have:c≠a:=by rintro rfl;rw[s]at z;cases z
     exact⟨c,o,I,by rw[ao this];exact z,J,L⟩
 . by_cases b:j=i
   . by_cases w:k=i;.rw[b,w]
     .subst b;rw[h m]at p;exact absurd (f w p) no
   . by_cases w:k=i;.subst w;rw[h p]at m;exact absurd (f b m) no
     .exact g.dis j k c (f b m) (f w p)
 . have:c≠a:=by rintro rfl;rw[s]at q;cases q
   rw[ao this];exact q
 . by_cases b:j=i;.subst b;rw[h q];exact .inr s
   .exact .inl ⟨j,f b q⟩
 . have b:j≠i:=by rintro rfl;rw[e]at q;cases q;rw[y]at l;cases l
   exact⟨by rw[di b],t,by rw[di b];exact q,.refl t⟩
end
section
variable{X:Cx}{c:Call}{n:Nat}{a b e:Expr}{pa pb p:P}{pos:Pos}
theorem yU{f m:Pos}(o:X.N.Nodup)(hi:X.N[i]?=some x)(r:Loc X.env.scope x)(hs:swapsWith (.Dict [] [] m) (some (.Name x f)) pos.line X.env=pure false:=by rfl)(s:X.fn x=true\/X.env.scope.names.lookup x=some .local:=by first|exact .inl rfl|exact .inr rfl|assumption):SS X c n (.Assign [.Name x f] (.Dict [] [] m) pos) (.By i):=by
 refine cW (wz o hi r vJ hs s) ?_;rintro D σ H⟨F,ρ,fl,h,g,e,k⟩;rw[HH.X23]at e;have go:∀s0,ρ[i]?=some s0->sO s0=false->fl=.next->h=ρ.set i (.bV [])->∀a,H a=none->D.nx (σ.set i (some (.ref a))) (upd H a (.dK [])):=λs0 q t j l a u=>by subst j l;exact k F _ _ (g.newV (kvs:=[]) q t (KR.oc .nil) u)
 split at e;.rename_i q;cases e;exact go _ q rfl rfl rfl
 .rename_i q;cases e;exact go _ q rfl rfl rfl
 .rename_i q;cases e;exact go _ q rfl rfl rfl
 .cases e
theorem tD{w f:Pos}{pk:P}(hu:X.A.units+8<cLine)(C:X.N[i]?=some x)(E:uC X.env.scope x)(G:SX X c a pk)(he:SX X c e p)(hs:swapsWith e (some (.Subscript (.Name x w) a f)) pos.line X.env=pure false:=by rfl)(hd:(x==("__debug__":Str))=false:=by decide)(m:(x==("__classdict__":Str))=false:=by decide):SS X c n (.Assign [.Subscript (.Name x w) a f] e pos) (.eU i pk p):=by
 obtain⟨ta,h1,I⟩:=G.bF;refine cW (zE (by omega) (dh C E hd m) h1 he.ev hs) ?_;rintro D σ H⟨F,ρ,fl,J,g,e,k⟩;rw[HH.X24]at e;obtain⟨r,o,L,l⟩:=aa e;clear e;refine⟨F,ρ,r,o,g,L,λv F1 H1 s1 M=>?_⟩;obtain⟨F2,s2,_,O⟩:=s1.cz M;split at l
 . rename_i Q U;obtain⟨kd,W,Y,h⟩:=aa l;clear l;obtain⟨s,o0,t,w2,w3,w4⟩:=s2.gs.own i _ _ U rfl;refine⟨.ref s,t,I s2.gs Y λy Z H3 s3 py=>?_⟩;split at h
   . rename_i kvs j q;split at h;.rename_i hl;cases h;obtain⟨a1,o1,z,y2,y3,y4⟩:=s3.gs.own i _ _ q rfl;rw[t]at z;cases z;obtain⟨es,rfl,B⟩:=KR.Oo y4;have u:=B.put (k:=j) (O.mono s3.cu);refine⟨s,upd H3 s (.dK (putK es (Sum.inl j:Key) v)),rfl,?_,k Z σ _ ((s2.trans s3).trans (s3.gs.aaU q t u.oc))⟩;rw[py.int];exact .inl ⟨es,Sum.inl j,y2,rfl,by rw[B.len,sizeLine_eq];exact hl,rfl⟩
     .cases h
   .cases h
 .cases l
theorem wI{y:Pos}{pk:P}(hu:X.A.units+8<cLine)(z:X.N[i]?=some x)(B:uC X.env.scope x)(C:SX X c a pk)(hs:JK a)(hd:(x==("__debug__":Str))=false:=by decide)(l:(x==("__classdict__":Str))=false:=by decide):SX X c (.Subscript (.Name x y) a pos) (.Lp i pk):=by
 obtain⟨ta,h1,E⟩:=C.bF;refine⟨cY (Jq (by omega) (dh z B hd l) h1 hs) ?_,λi h=>by cases h⟩;rintro σ H Q⟨F,ρ,r,G,g,e,k⟩;rw[HH.E23]at e;split at e
 . rename_i I q;obtain⟨kd,J,L,f⟩:=aa e;clear e;obtain⟨m,o0,o,w2,w3,w4⟩:=g.own i _ _ q rfl;refine⟨.ref m,o,E g L λv F1 M s1 s=>?_⟩;split at f;.rename_i kvs O;obtain⟨t,U⟩:=az f;clear f;subst U;obtain⟨j,W,Y⟩:=bJ t;clear t;obtain⟨d,Z,e6⟩:=map_some Y;subst e6;rw[bO W]at s;obtain⟨a1,o1,u,y2,y3,y4⟩:=s1.gs.own i _ _ O rfl;rw[o]at u;cases u;obtain⟨es,rfl,kr⟩:=KR.Oo y4;obtain⟨w,g1,g2⟩:=kr.get Z;rw[s.int];exact⟨m,w,rfl,.inl ⟨es,Sum.inl j,.inl y2,rfl,g1.symm⟩,k w F1 M s1 (show Rep X.K F1 _ _ from g2)⟩
   .cases f
 .cases e
theorem Nq{G:Pos}{pk:P}{neg:Bool}{op:CmpOp}(t:(op=.In/\neg=false)\/(op=.NotIn/\neg=true))(hu:X.A.units+8<cLine)(w:X.N[i]?=some x)(z:uC X.env.scope x)(J:SX X c a pk)(hd:(x==("__debug__":Str))=false:=by decide)(m:(x==("__classdict__":Str))=false:=by decide):PC X op a (.Name x G) (vV X.K (HH.ev c (.Lq i pk neg))):=by
 obtain⟨L,h1,M⟩:=J.bF;have l:∀{σ:L2.St}{H:Hp}{Q:VK},vV X.K (HH.ev c (.Lq i pk neg)) σ H Q->L σ H λy u=>Om i σ u λx B=>∃a o,x=.ref a/\lA B a y o/\Q (.bl (if neg then !o.isSome else o.isSome)) B:=λ{σ H Q}⟨F,ρ,r,ρ',g,e,k⟩=>by
  rw[HH.E24]at e;obtain⟨kd,O,U,q⟩:=aa e;clear e;refine M g U λv F1 u s1 C=>?_;split at q;.rename_i kvs W;obtain⟨Y,Z⟩:=az q;clear q;subst Z;obtain⟨j,e4,e5⟩:=map_some Y;subst e5;rw[bO e4]at C;obtain⟨E,o1,y1,y2,y3,y4⟩:=s1.gs.own i _ _ W rfl;obtain⟨es,rfl,kr⟩:=KR.Oo y4;rw[C.int];refine⟨.ref E,y1,E,_,rfl,.inl ⟨es,Sum.inl j,.inl y2,rfl,rfl⟩,?_⟩;rw[kr.has j];exact k _ F1 u s1 (show Rep X.K F1 _ _ from gB _)
  .cases q
 rcases t with⟨rfl,rfl⟩|⟨rfl,rfl⟩;.exact λf s σ H Q I h=>Mj (by omega) h1 (dh w z hd m) f s σ H Q I (l h)
 .exact λf s σ H Q I h=>Bc (by omega) h1 (dh w z hd m) f s σ H Q I (l h)
end
theorem lO{P:Program}{w:World}:∀{ks:List Int}{es:List (Key×V)}{vs:List (Key×Value)}{a:List Value},es.map (·.1)=ks.map (Sum.inl:Int->Key)->KV es vs->a.length=vs.length->(∀(j:Nat)(v:Value),a[j]?=some v->∃(k:Key)(x:Value),vs[j]?=some (k,x)/\(aL P w).is k v=true)->IntsAre a ks
 |[],es,_,a,he,r,h,_=>by cases es with
   |nil=>cases r;cases a with|nil=>exact .nil|cons _ _=>simp at h
   |cons _ _=>simp at he
 |i::ks,es,_,a,he,r,h,k=>by cases es with|nil=>simp at he|cons p es=>cases r with|@cons _ q _ _ r t=>rw[map_cons,map_cons]at he;cases a with|nil=>simp at h|cons v a=>
         obtain⟨f,x,c,g⟩:=k 0 v rfl;simp at c;have l:f=Sum.inl i:=by have z:=r.1;rw[c]at z;rw[<-(List.cons.inj he).1];exact z.symm
         subst l;obtain⟨n,m,b,rfl⟩|⟨_,_,b,_⟩:=aR (show lQ (Sum.inl i) v=true from g);.cases b;exact .cons _ m (lO (List.cons.inj he).2 t (by simpa using h) λj v e=>k (j+1) v (by simpa using e))
         .cases b
section
variable{X:Cx}{c:Call}{n:Nat}{a b e:Expr}{pa pb p:P}{pos:Pos}
theorem Vw(hc:X.calm=true):cR X (.type "list") (Lg X.K λx=>blt .Sy [x]):=by rintro t s σ H xs Z Q I r⟨x,A,F,d,r',sm,B,he,k⟩;cases d with|dv ks ds=>
   obtain⟨C,he⟩:=aW (show(if ks.length<=16777216 then some (R.own (ks.map D.int))else none)=some r' from he);subst he;obtain⟨q,E,g,rfl,G,J,L⟩:=B.dv sm;subst A;obtain⟨u,rfl,M⟩:=r.one;cases M;obtain⟨ho,hz,N,vs,y,l⟩:=(show aX X.prog X.w H s.heap q (.cz E (.dK (ent ks g)))from I.hok q _ G);obtain⟨ep,l⟩:=l.dictAt;have z:=oY (ks:=ks) (vs:=g) (by rw[J.length];exact L);have m:vs.length=ks.length:=by rw[<-Paired.length y];have:=congrArg List.length z;simpa using this
   refine kdl_call (kdl_dict (knd:=aL X.prog X.w) (kvs:=vs) (ep:=ep) N) (I.ok.hd hc) l (by rw[m,sizeLine_eq];omega) λh' O h U kp W f=>?_;have Y:IntsAre h.toList ks:=lO (P:=X.prog) (w:=X.w) z y (by rw[length_toList];exact f.1) λj v e=>f.2 j v (by rw[<-Array.getElem?_toList];exact e);refine⟨.ref s.heap.objs.size,_,I.laid (t':=O) (o:=.lst (ks.map V.int)) (h':=h') kp (bN) ⟨by rw[length_map,sizeLine_eq];omega,h.toList,U,jX Y,by rw[Array.toArray_toList];exact W⟩,rfl,?_⟩;exact xK sm (qF ks) (I.hok.fresh (bN)) k|_=>cases he
theorem Dp{f:Pos}(g:x="list")(hc:X.calm=true)(j:Gl X x)(k:X.mg x=none)(l:SX X c a pa)(hs:starEach [a] X.env=(false,eval a X.env)::starEach [] X.env:=by rfl):SX X c (.Call (.Name x f) [a] [] pos) (.blt .Sy [pa]):=by subst g;exact nj (λh=>lB (Vw hc) j k (by decide+kernel) h (he:=hs)) l (λρ=>rfl) rfl hs
theorem Jw{neg:Bool}{op:CmpOp}(f:(op=.In/\neg=false)\/(op=.NotIn/\neg=true))(L:X.A.units+8<cLine):gD X (compareOp op) (rD X.K (uX neg)):=by rintro m s σ H x y v u Q I h t⟨F,d,e,r,sm,w,z,he,k⟩;cases d with
 |int j=>cases e with|dv ks M=>
     cases he;obtain⟨q,B,vs,rfl,C,E,G⟩:=z.dv sm;have J:=KR.zip E G;rw[w.int]at h;obtain rfl:u=Value.ref q:=t;have g:lA H q (.int j) (gF (ent ks vs) (Sum.inl j:Key)):=.inl ⟨_,Sum.inl j,.inr ⟨B,C⟩,rfl,rfl⟩;have o:(gF (ent ks vs) (Sum.inl j:Key)).isSome=ks.contains j:=by rw[J.has j];congr 1;rw[List.map_fst_zip (by omega)]
     rcases f with⟨rfl,rfl⟩|⟨rfl,rfl⟩;.refine VM (by omega) I g h λs3 l=>⟨.bl (gF (ent ks vs) (Sum.inl j:Key)).isSome,H,l,rfl,?_⟩;rw[o];exact bH.bZ sm (gB _) k
     .refine yM (by omega) I g h λs3 l=>⟨.bl (!(gF (ent ks vs) (Sum.inl j:Key)).isSome),H,l,rfl,?_⟩;rw[o];exact bH.bZ sm (gB _) k|_=>cases he
 |_=>cases he
end
end HH
end
section
namespace PySem
section
variable{prog:Program}{w:World}{A:Around}{E:Value->Shared->Prop}{s:Shared}
theorem rQ{Q:List Value->Shared->Prop}{I l:Addr}{items:Array Value}(u:A.handled=none)(f:s.heap.IsRevIter I l ((items.size:Int)-1))(p:s.heap.IsList l items)(k:l≠I)(g:items.size<=2^24)(x:∀h' m c,(∀b o,b≠I->s.heap.get? b=some o->h'.get? b=some o)->s.heap.objs.size<h'.objs.size->ItemsOf (λi v=>items[items.size-1-i]?=some v) c items.size->Q c.toList {s with heap:=h',toks:=m}):
 wpAny (model prog w) A (collect (.ref I)) Q E s:=by have h:I<s.heap.objs.size:=let⟨_,ho,_⟩:=f;lt_size ho;have n:l<s.heap.objs.size:=let⟨_,ho,_⟩:=p;lt_size ho;unfold collect;refine wpAny_bind (wpAny_runValue (codeAny_builtin F.entry_proto_collect ?_));rw[Around.under_plainId F.plain_proto_collect _];show wpAny _ A.in1 (newList []>>=λl=>again (.builtin "list.__iadd__" ⟨[l,.ref I],[]⟩)) _ _ s;refine wpAny_bind (wpAny_newObj_type ?_);refine wpAny_pure ⟨plainId_quiet F.plain_list_iadd _,codeAny_builtin F.entry_list_iadd ?_⟩;rw[Around.under_plainId F.plain_list_iadd _];show wpAny _ A.in1 (listExtendWith (.ref s.heap.objs.size) (.ref I) (.ref s.heap.objs.size)) _ _ _;refine km (A:=A) (R:=λr q=>match r with
  |.ok (.ret v)=>wpAny (model prog w) A (match v with
   |.ref a=>do let o<-load a match o.data with|.seq xs _=>pure xs.toList|_=>unsupported "internal:collect"
   |_=>unsupported "internal:collect") Q E q|.ok _=>False|.error e=>E e q) (s:={s with heap:=s.heap.push {cls:=.type "list",data:=.seq #[]}}) u (f.at λo e=>fH e) (p.at λo e=>fH e) k g s.heap.objs.size (Ne.symm (ne_of_lt h)) (Ne.symm (ne_of_lt n)) _ 0 (get?_push_size _ rfl) λh' m c B y t j=>?_;refine wpAny_bind (wpAny_load t ?_);exact wpAny_pure (x h' m c (λb o z e=>y b o (ne_of_lt (lt_size e)) z (fH e)) (lt_size t) j)
end
theorem gM(I l:Addr)(items:Array Value)(i:l≠I)(hsz:items.size<=2^24):Meets (Builtin.«tuple.__new__» ⟨[.type "tuple",.ref I],[]⟩) (λA R s=>A.handled=none/\s.heap.IsRevIter I l ((items.size:Int)-1)/\s.heap.IsList l items/\∀(h':Heap)(p:Nat),(∀b o,b≠I->s.heap.get? b=some o->h'.get? b=some o)->s.heap.objs.size<h'.objs.size->∀a:Array Value,a=items.reverse->R (.ok (.ret (.ref h'.objs.size))) {s with heap:=h'.push {cls:=.type "tuple",data:=.seq a},toks:=p}):=.of_wp λprog w A R s h=>by
  obtain⟨r,f,t,h⟩:=h;have q:=sub_tuple_self;have k:=init_tuple_lookup;have u:=madeHere_tuple;have x:Shared.TypeIs s (.ref I) "list_reverseiterator":=f.typeIs;obtain⟨o,ho,hc,hd⟩:=id f;obtain⟨C,g,d,p,os⟩:=s;wp_walk using AutoSeq1.wpAny_loadPart' ho,wpAny_typeOf x,rQ (A:=A.in1) r f t i hsz;intro h' m a y n c;show wpAny _ _ (tupleExact a.toList.toArray>>=λv=>ret v) _ _ _;have e:a.toList.toArray=a:=by simp
  have z:a=items.reverse:=by refine Array.ext (by rw[c.1,Array.size_reverse]) λj h1 E=>?_;have:=c.2 j _ (Array.getElem?_eq_getElem h1);rw[Array.getElem_reverse];have B:=Array.getElem?_eq_some_iff.mp this;exact B.2.symm
  rw[e];unfold tupleExact;refine wpAny_bind (wpAny_newObj_type ?_ (by show a.size<=sizeLine;rw[c.1,sizeLine_eq];omega));exact wpAny_pure ⟨_,rfl,h h' m y n a z⟩
section
variable{prog:Program}{w:World}{A:Around}{E:Value->Shared->Prop}{s:Shared}
theorem mD{I l:Addr}{items:Array Value}{Q:Value->Shared->Prop}(i:A.handled=none)(a:s.heap.IsRevIter I l ((items.size:Int)-1))(j:s.heap.IsList l items)(c:l≠I)(hsz:items.size<=2^24)(h:∀(h':Heap)(f:Nat),(∀b o,b≠I->s.heap.get? b=some o->h'.get? b=some o)->s.heap.objs.size<h'.objs.size->Q (.ref h'.objs.size) {s with heap:=h'.push {cls:=.type "tuple",data:=.seq items.reverse},toks:=f}):wpAny (model prog w) A (call (.type "tuple") [.ref I]) Q E s:=callType_new F.called_tuple (by decide) (F.typeCall_tuple_1 _) (F.newCall_tuple_1 _) (λobj=>F.args_object_init_2 obj _) F.entry_tuple_new (gM I l items c hsz) ⟨i,a,j,λh' f k g m e=>by subst e;exact⟨⟨_,get?_push_size _ rfl,rfl⟩,h h' f k g⟩⟩
end
end PySem
namespace L2
open PySem PySem.Spec PyProof.Rows
section
variable{X:Cx}{pins:List (Addr×Obj)}{σ:St}{H:Hp}{s:Shared}{E:Value->Shared->Prop}
theorem xf{a:Expr}{B:TE}{p pos J g:Pos}(hc:X.calm=true)(n:Gl X "tuple")(t:X.mg "tuple"=none)(L:Gl X "reversed")(M:X.mg "reversed"=none)(N:PE X a B)(hs:starEach [a] X.env=[(false,eval a X.env)]:=by rfl)(i:starEach [.Call (.Name "reversed" p) [a] [] pos] X.env=[(false,eval (.Call (.Name "reversed" p) [a] [] pos) X.env)]:=by rfl):PE X (.Call (.Name "tuple" J) [.Call (.Name "reversed" p) [a] [] pos] [] g) (λσ H Q=>B σ H λx f=>∃ad xs,x=.ref ad/\dJ X.K f ad xs/\∀l,f l=none->Q (.ref l) (upd f l (.tup xs.reverse))):=by
 intro pins s σ H Q I h;refine Call_ (jC I n t vH (PyProof.Rows.callWith_type1 ?_ i rfl));rw[i];show wpAny _ _ (spliced ((false,eval (.Call (.Name "reversed" p) [a] [] pos) X.env)::[])) _ _ _;refine Calls.spliced_cons (Call_ (jC I L M nM (PyProof.Rows.callWith_type1 (bB ((bC N dF hs) pos pins s σ H (λvs f=>match vs with|[x]=>∃ad xs,x=.ref ad/\dJ X.K f ad xs/\∀l,f l=none->Q (.ref l) (upd f l (.tup xs.reverse))|_=>False) I h) ?_) hs rfl)));rintro us s1⟨vs,f,m,r1,v⟩;obtain⟨ad,xs,O,q,w⟩:∃ad xs,dJ X.K f ad xs/\(∀l,f l=none->Q (.ref l) (upd f l (.tup xs.reverse)))/\vs=[.ref ad]:=by cases vs with|nil=>cases v|cons x r=>cases r with|nil=>obtain⟨ad,xs,rfl,q,U⟩:=v;exact⟨ad,xs,q,U,rfl⟩|cons _ _=>cases v
 subst w;obtain⟨u,rfl,W⟩:=r1.one;cases W;obtain⟨c,C,y,hz⟩:=m.list O;have hsz:c.toArray.size=xs.length:=by rw[size_toArray,<-C.length]
 refine call_reversed_list y.isList (Calls.spliced_nil ?_);have z:ad≠s1.heap.objs.size:=ne_of_lt (let⟨_,ho,_⟩:=y.isList;lt_size ho);have A:(s1.heap.push (revObj ad ((c.toArray.size:Int)-1))).IsList ad c.toArray:=y.isList.at λo e=>fH e;refine mD (m.ok.hd hc) (I:=s1.heap.objs.size) (l:=ad) (items:=c.toArray) ⟨_,get?_push_size _ rfl,rfl,rfl⟩ A z (by rw[hsz];exact le_trans hz (by decide)) λh' Y G j=>?_;have k:(s1.heap.push (revObj ad ((c.toArray.size:Int)-1))).objs.size=s1.heap.objs.size+1:=size_push ..;dsimp only at G j ⊢;rw[k]at j;have Z:c.toArray.reverse=c.reverse.toArray:=by simp
 rw[Z];refine⟨.ref h'.objs.size,_,m.laid (t':=Y) (o:=.tup xs.reverse) (h':=h'.push {cls:=.type "tuple",data:=.seq c.reverse.toArray}) (λb o e=>fH (G b o (ne_of_lt (lt_size e)) (fH e))) (by omega) ?_,rfl,q _ (m.hok.fresh (by omega))⟩;exact⟨by rw[List.length_reverse];exact hz,_,C.reverse,IsTup.new _ _⟩
end
end L2
namespace HH
open PySem L2 PySem.Spec PyProof.Rows
section
variable{X:Cx}{c:Call}{a:Expr}{pa:P}{pos:Pos}
theorem xx{x y:Str}{j p b:Pos}(q:y="tuple")(t:x="reversed")(hc:X.calm=true)(m:Gl X y)(n:X.mg y=none)(u:Gl X x)(w:X.mg x=none)(z:SX X c a pa)(hs:starEach [a] X.env=[(false,eval a X.env)]:=by rfl)(o:starEach [.Call (.Name x j) [a] [] pos] X.env=[(false,eval (.Call (.Name x j) [a] [] pos) X.env)]:=by rfl):SX X c (.Call (.Name y p) [.Call (.Name x j) [a] [] pos] [] b) (.blt .Yz [pa]):=by subst t q;obtain⟨Z,h1,A⟩:=z.bF;refine⟨cY (xf hc m n u w h1 hs o) ?_,λi h=>by cases h⟩;rintro σ H Q⟨F,ρ,r,B,g,e,k⟩;rw[HH.E15]at e;obtain⟨d,C,E,f⟩:=aa e;have G:=az f;clear f;obtain⟨f,I⟩:=G;subst I;cases d with|lst ds=>cases f;refine A g E ?_;rintro v F' H' s J;obtain⟨ad,xs,rfl,L,M⟩:=J.lst s.gs.sub;exact⟨ad,xs,rfl,L,λl N=>Ac s.gs.sub (au.rev M) N λv O U W Y=>k v O U (s.trans (W.stp s.gs)) (.later s (Y.pq s.gs))⟩|_=>cases f
end
end HH
end
section
namespace L2
open PySem PySem.Spec PyProof.Rows PySem.Calls
section
variable{X:Cx}
theorem FN:V9 X (VJ X.K):=by
 intro a s σ H x y v u Q I g k h;obtain⟨p,xs,i,z,rfl,rfl,l,he,q⟩:=h;cases g;obtain⟨t,rfl⟩:=k;obtain⟨b,r,e,hz⟩:=I.list l;obtain⟨j,h1,m,C,n,o⟩:=tG he;obtain⟨w,f,A⟩:=r.get m;have B:=r.length;have E:=nP;have fin:EP X a σ Q w s:=⟨z,H,I,A,q⟩;by_cases h0:0<=i
 . have c:i.toNat=j:=by rw[seqIndex_of h0 o]at h1;exact Option.some.inj h1
   exact wpAny_getItem_list e.isList h0 (by omega) (by rw[c];simpa using f) fin
 . have c:(i+(b.toArray.size:Int)).toNat=j:=by rw[seqIndex_neg (by omega) n]at h1;rw[size_toArray,<-B];exact Option.some.inj h1
   exact wpAny_getItem_list_neg e.isList (by omega) (by rw[size_toArray]<;>omega) (by omega) (by rw[c];simpa using f) fin
end
end L2
namespace HH
open PySem L2 PySem.Spec PyProof.Rows PySem.Calls PySem.W
section
variable{X:Cx}{c:Call}{n:Nat}{a b e:Expr}{pa pb p:P}{pos:Pos}
set_option maxHeartbeats 800000 in
theorem zg{k e:Int}{t1 t2 p1 p2 p3}:SX X c (.Dict [some (.Constant (.int k) t1 p1)] [.Constant (.int e) t2 p2] p3) (.xW k e):=by
 refine⟨?_,λi h=>by cases h⟩;intro f s σ H Q I h;obtain⟨F,ρ,r,x,g,m,y⟩:=h;rw[HH.E25]at m;cases m;have A:kY [] [((Sum.inl k:Key),V.int e)]=ent [k] [.int e]:=rfl;have B:=Hf (X:=X) (pos:=p3) (CT (wN (i:=k) (j:=t1) (pos:=p1)) (wN (i:=e) (j:=t2) (pos:=p2)) Iv) rfl rfl (by simp) (by simp);refine bB (B f s σ H (λv C=>∃q,v=.ref q/\H q=none/\C=upd H q (yD [k] [.int e])) I ?_) λu s1⟨v,H1,I1,r1,q,e1,hn,e2⟩=>?_;.intro q E;refine⟨aF,[(Sum.inl k,.int e)],rfl,by simp,q,rfl,E,?_⟩;rw[zR,A];rfl
 subst e1 e2;obtain⟨o,t⟩:=Inv.Dh I1 (a:=q) (kvs:=ent [k] [.int e]) aF;rw[zR]at t;have G:F q=none:=by cases z:F q with|none=>rfl|some o=>rw[g.sub q o z]at hn;cases hn
 have sm:aD F (upd F q (.cz o (yD [k] [.int e]))):=aD.bG G;refine⟨.ref q,_,t,r1,y _ (upd F q (.cz o (yD [k] [.int e]))) _ (Ext.stp g ⟨aD.bG hn,sm,λb o e=>?_,λb n w=>?_⟩) ?_⟩
 . by_cases l:b=q;.subst l;rw[aF]at e ⊢;exact e
   .rw[ao l]at e ⊢;exact g.sub b o e
 . by_cases l:b=q;.subst l;exact iM hn
   .rw[ao l]at w;exact absurd n w
 .show Rep X.K _ _ (.dv [k] [.int e]);rw[Rep];exact⟨q,o,[.int e],rfl,aF,.cons (bA _) .nil,rfl⟩
theorem Ht{x:Str}{k:Nat}{px o:Pos}{op:Operator}{sub:Bool}(ho:WX X op (Zz λi j=>if sub then i-j else i+j))(hN:X.N[k]?=some x)(hv:uC X.env.scope x)(hi:SX X c b pb)(he:SX X c e p)(ha:∀A iv f,augStore b A iv f=(do holding [f,A,iv] (setItem A iv f);release [f,A,iv] [];pure .next):=by intros;rfl)(hd:(x==("__debug__":Str))=false:=by decide)(E:(x==("__classdict__":Str))=false:=by decide):SS X c n (.AugAssign (.Subscript (.Name x px) b o) op e pos) (.Gz k pb sub p):=by
 obtain⟨ti,G,I⟩:=hi.bF;obtain⟨te,J,L⟩:=he.bF;refine cW (Ir (dh hN hv hd E) G FN J ho set_list ha) ?_;rintro D σ H⟨F,ρ,fl,ae,g,e,kk⟩;rw[HH.X15]at e;obtain⟨x0,af,r,Z⟩:=aa e;clear e;obtain⟨e0,BJ⟩:=az r;clear r;subst BJ;obtain⟨dk,M,e1,eB⟩:=aa Z;clear Z;obtain⟨l,ag,h,eC⟩:=aa eB;clear eB;obtain⟨B,O⟩:=az h;clear h;subst O;obtain⟨ra,ah,s,eD⟩:=aa eC;clear eC;obtain⟨e3,Q⟩:=az s;clear s;subst Q;obtain⟨db,ai,e4,t⟩:=aa eD;clear eD;obtain⟨U,Ml,m,_⟩:=tM g e0;refine⟨.ref U,m,I g e1 λvi F1 H1 s1 pi=>?_⟩;split at t
 . rename_i u v bb ds kz q;split at t
   . rename_i j hj;cases t;obtain⟨C,f3,f5⟩:=bJ e3;have W:C=kz:=by cases f3;rfl
     subst W;have h:pk M k=some (.lst l):=by
      unfold xG at B;split at B;.rename_i z;cases B;exact z
      .cases B
     obtain⟨o',y,po⟩:=s1.gs.pk h;rw[m]at y;cases y;obtain⟨ad,xs,hr,hL,rs⟩:=po.lst s1.gs.sub;cases hr;obtain⟨j0,h1,h2⟩:=Gk f5;obtain⟨w,h3,h4⟩:=rs.get h2;have Y:DY xs C=some w:=by unfold DY;rw[rs.length,h1];exact h3
     have hw:w=.int u:=by rw[Rep]at h4;exact h4
     subst hw;refine⟨U,xs,C,.int u,rfl,pi.int,hL,Y,L s1.gs e4 λvb F2 H2 s2 pb=>⟨u,v,rfl,pb.int,?_⟩⟩;obtain⟨al,zs,z1,z2,z3,z4⟩:=s2.gs.pB k _ ds q rfl;rw[m]at z1;cases z1;refine⟨U,zs,C,j,rfl,pi.int,z2,by rw[z4.length];exact hj,?_⟩;exact kk F2 σ _ ((s1.trans s2).trans (s2.gs.mut q m (z4.set (bA _) j)))
   .cases t
 .cases t
end
section
variable{X:Cx}{c:Call}{n:Nat}{a b e:Expr}{pa pb p:P}{pos:Pos}
theorem Jr{neg:Bool}{o:Op}{op:CmpOp}(h:(op=.In/\neg=false)\/(op=.NotIn/\neg=true))(j:pM o=uX neg)(l:X.A.units+8<cLine)(m:SX X c a pa)(y:SX X c b pb)(B:behindInMarks op b=false):ST X c (.Compare a [op] [b] pos) (.bin o pa pb):=by obtain⟨C,E,h1,G,I⟩:=m.gO y;refine vm (yq (Jw h l) h1 G B) λσ H Q q=>lG (t:=Sh (rD X.K (uX neg)) C E) (λQ z=>?_) q;obtain⟨F,ρ,r,J,g,e,k⟩:=z;rw[HH.E3]at e;obtain⟨i,L,M,f⟩:=aa e;have N:=az f;clear f;obtain⟨f,O⟩:=N;subst O;rw[j]at f;refine I g M λv u U H' s W Y=>⟨U,i.1,i.2,r,s.gs.sub,W,Y,f,λw Z H2 x rn=>?_⟩;exact k w Z H2 (s.trans (x.stp s.gs)) (.later s (rn.pq s.gs))
theorem Mu(f:X.A.units+8<cLine)(g:SX X c a pa)(h:SX X c b pb)(i:behindInMarks .In b=false):ST X c (.Compare a [.In] [b] pos) (.bin .Yy pa pb):=Jr (.inl ⟨rfl,rfl⟩) rfl f g h i
theorem Oh{i:Nat}{x:Str}{h:Pos}{pk:P}{neg:Bool}{op:CmpOp}(f:(op=.In/\neg=false)\/(op=.NotIn/\neg=true))(j:X.A.units+8<cLine)(k:X.N[i]?=some x)(l:uC X.env.scope x)(m:SX X c a pk)(o:behindInMarks op (.Name x h)=false)(hd:(x==("__debug__":Str))=false:=by decide)(g:(x==("__classdict__":Str))=false:=by decide):ST X c (.Compare a [op] [.Name x h] pos) (.Lq i pk neg):=vm (O3 (Nq f j k l m hd g) o) λσ H Q q=>lG (λ_ z=>z) q
end
end HH
end
section
namespace L2
open PySem PySem.Spec PyProof.Rows
section
variable{X:Cx}
def Ik:V->List V->Hp->VK->Prop:=λx vs H Q=>∃l xs j y,x=.ref l/\vs=[.int j,y]/\H l=some (.lst xs)/\0<=j/\j<=1000000/\xs.length<sizeLine/\Q .non (upd H l (.lst (xs.take j.toNat++y::xs.drop j.toNat)))
theorem Vals.pX:∀{xs:List V}{a:List Value}(k:Nat),Vals xs a->Vals (xs.take k) (a.take k)/\Vals (xs.drop k) (a.drop k)|_,_,0,r=>⟨by simp;exact .nil,by simpa using r⟩|[],_,k+1,r=>by cases r;exact⟨.nil,.nil⟩|x::xs,_,k+1,r=>by cases r with|cons h t=>have:=Vals.pX k t;exact⟨.cons h this.1,this.2⟩
theorem Bg:MtM X "list.insert" Ik:=by
 intro g s σ H x vs v u Q I m o h;obtain⟨l,xs,j,y,rfl,rfl,i,p,w,hz,q⟩:=h;cases m;obtain⟨A,k,rfl,b,f⟩:=o.two;obtain⟨t,rfl⟩:=b;obtain⟨z,a,n,r,B,e⟩:=I.VL i;refine call_meets F.slot_list_insert ⟨_,e,rfl⟩ F.entry_list_insert (F.args_list_insert_3 _ _ _) (AutoListH.list_insert_list_int_val_1 l a.toArray n j t k (by rw[fitsIndex_of p (by omega)];decide) (by rw[size_toArray];omega)) ⟨e,?_⟩;refine⟨.non,_,I.Vb (its':=a.take j.toNat++k::a.drop j.toNat) i e ?_ ((r.pX _).1.append (.cons f (r.pX _).2)) ?_,rfl,q⟩
 . rw[if_neg (by omega)];apply Array.toList_inj.mp;simp;by_cases c:j.toNat<=a.length;.rw[Nat.min_eq_left c,take_of_length_le (l:=a.drop j.toNat) (by simp)]
   .rw[Nat.min_eq_right (by omega)];simp;rw[take_of_length_le (by omega),List.drop_eq_nil_of_le (by omega)]
 .simp;omega
end
end L2
end
section
namespace HH
open PySem L2 PySem.Spec PyProof.Rows PySem.Calls PySem.W
section
variable{X:Cx}{c:Call}{n:Nat}{a b e:Expr}{pa pb p:P}{pos:Pos}
theorem au.pX{K:PySem.W.Frag}{F:Hp}:∀{ds:List D}{vs:List V}(k:Nat),au K F vs ds->au K F (vs.take k) (ds.take k)/\au K F (vs.drop k) (ds.drop k)|ds,vs,0,h=>⟨by simp;exact .nil,by simpa using h⟩|[],_,k+1,h=>by rw[h.dX];exact⟨.nil,.nil⟩|_::_,_,k+1,h=>by obtain⟨w,r,rfl,h1,t⟩:=h.bK;have:=au.pX k t;exact⟨.cons h1 this.1,this.2⟩
theorem Er{x:Str}{k:Nat}{o h f:Pos}(J:X.N[k]?=some x)(L:uC X.env.scope x)(hi:SX X c b pb)(he:SX X c e p)(i:(h.endLine==f.line)=true:=by rfl)(hs:starEach [b,e] X.env=(false,eval b X.env)::starEach [e] X.env:=by rfl)(u:starEach [e] X.env=(false,eval e X.env)::starEach [] X.env:=by rfl)(l:attributeBase (.Name x o) "insert" X.env (eval (.Name x o) X.env)=eval (.Name x o) X.env:=by rfl)(s:((backTo f (starEach [b,e] X.env)).all (λx=>!x.1)&&(backToKw f (keywordEach [] X.env)).all (λx=>x.1.isSome)&&decide ([b,e].length+([]:List Keyword).length+(if([]:List Keyword).isEmpty then 0 else 1)<30))=true:=by rfl)(hpl:(backTo f (starEach [e] X.env)).any (·.1)=false:=by rfl)(w:swapsWith (.Call (.Attribute (.Name x o) "insert" h) [b,e] [] f) none pos.line X.env=pure false:=by rfl)(hd:(x==("__debug__":Str))=false:=by decide)(y:(x==("__classdict__":Str))=false:=by decide):SS X c n (.Expr (.Call (.Attribute (.Name x o) "insert" h) [b,e] [] f) pos) (.ins k pb p):=by
 obtain⟨ti,z,A⟩:=hi.bF;refine cW (rN (Gb plainAttrs_list PySem.F.slot_list_insert PySem.F.type_list_insert Bg (dh J L hd y) (bC z (bC he.ev dF u) hs) l s i hs hpl) w) ?_;rintro D σ H⟨F,ρ,fl,M,g,e,O⟩;rw[HH.X18]at e;obtain⟨d0,Q,t,e⟩:=aa e;have E:=az t;clear t;obtain⟨t,U⟩:=E;subst U;obtain⟨dk,B,W,e⟩:=aa e;obtain⟨r,C,Y,e⟩:=aa e;obtain⟨a,xs,h1,Z⟩:=tM g t;refine⟨.ref a,h1,.inl ⟨rfl,xs,Z⟩,A g W λvi F1 H1 s1 pi=>⟨F1,B,r,C,s1.gs,Y,λv F2 H2 s2 rr=>?_⟩⟩;obtain⟨F3,s3,_,rp⟩:=s2.cz rr;split at e
 . rename_i bb ds j q E;split at e;.rename_i m;cases e;obtain⟨ad,ys,G,q2,q3,I⟩:=s3.gs.pB k _ ds q rfl;rw[h1]at G;cases G;have ht:=I.pX j.toNat;exact⟨_,ys,j,v,rfl,by rw[pi.int],q2,m.1,m.2.1,by rw[I.length];exact m.2.2,O F3 σ _ ((s1.trans s3).trans (s3.gs.mut q h1 (ht.1.append (.cons rp ht.2))))⟩
   .cases e
 .cases e
set_option maxHeartbeats 800000 in
end
end HH
end
section
namespace HH
open PySem L2 PySem.Spec PyProof.Rows PySem.Calls PySem.W
def aaC(X:Cx):List V->Hp->VK->Prop:=λxs H Q=>∃l q c kvs,xs=[.ref l]/\H l=some (.ext (iv l q))/\H q=some (.cz c (.dK (map pK kvs)))/\kvs.length<=16777216/\∃F,aD F H/\∀v b a,Ext F H b a->bH X.K b a H v (.own (m9 (kvs.map cQ)))->Q v a
section
variable{X:Cx}{c:Call}{a:Expr}{pa:P}{pos:Pos}
theorem NZ(hc:X.calm=true):cR X (.builtin "sorted") (aaC X):=by
 rintro ah s σ H xs us Q I r⟨l,q,ob,kvs,hx,hl,hq,ai,F,sm,k⟩;subst hx;have so:sortable (kvs.map cQ)=true:=by
  have:(kvs.map cQ).all rF=true:=by rw[all_eq_true];intro x hx;obtain⟨p,_,rfl⟩:=mem_map.mp hx;rfl
  simp only[sortable,length_map,this,Bool.or_true,Bool.and_true,decide_eq_true_eq];omega
 obtain⟨u,rfl,rx⟩:=r.one;cases rx;obtain⟨Wv,_,_⟩:=(show aX X.prog X.w H s.heap l (.ext (iv l q))from I.hok l _ hl);obtain⟨ho,hz,hS,vs,rv,dd⟩:=(show aX X.prog X.w H s.heap q (.cz ob (.dK (kvs.map pK)))from I.hok q _ hq);have G:vs.length=kvs.length:=by rw[<-Paired.length rv,length_map]
 obtain⟨f,es,ep,d1,d2,d3,d4⟩:=dd;have dat:s.heap.DictAt (aL X.prog X.w) q vs ep:=⟨f,es,d1,d2,d3,d4⟩;refine Calls.call_function_entry kind_sorted plain_sorted entry_sorted (args_sorted1 _) ?_;unfold Builtin.«sorted»;refine wpAny_bind (m:=checkCount "sorted" 1 1 _) (wpAny_pure ?_);refine wpAny_bind (vL (A:=X.A.in1) (I.ok.hd hc) Wv dat (by rw[G,sizeLine_eq];omega) λh1 J as kp hsz L Z=>?_);have hsz:=le_of_lt hsz;have g:as.length=kvs.length:=L.trans G;have pr:=uc rv L Z.pairs;have tt:Paired (lZ h1) (as.map Value.ref) (kvs.map cQ):=zc g pr;have M:∀a o,mH as kvs a=some o->s.heap.objs.size<=a:=λa o e=>by obtain⟨j,p,N,_,_⟩:=m6 e;exact le_of_lt (Z.above a (mem_of_getElem? N))
 have h:∀a o,mH as kvs a=some o->H a=none:=λa o e=>I.hok.fresh (M a o e);have i:aD H (vZ (mH as kvs) H):=λb o e=>by cases z:mH as kvs b with|none=>rw[fc z];exact e|some f=>rw[h b f z]at e;cases e
 have e0:Ext F H (vZ (mH as kvs) F) (vZ (mH as kvs) H):=by
  refine⟨i,λb o e=>?_,λb o e=>?_,λb n n'=>?_⟩;.cases z:mH as kvs b with|none=>rw[fc z];exact e|some f=>have n0:=h b f z;rw[sm b o e]at n0;cases n0
  .cases z:mH as kvs b with|none=>rw[fc z]at e ⊢;exact sm b o e|some f=>rw[rT z]at e ⊢;exact e
  .cases z:mH as kvs b with|none=>rw[fc z]at n';exact absurd n n'|some f=>rw[h b f z];rfl
 have rs:au X.K (vZ (mH as kvs) F) (as.map V.ref) (kvs.map cQ):=yh g λj b p h1 h2=>rT (yg Z.rise h1 h2);have vv:=o9 as;have ae:∀b∈as,b<h1.objs.size:=λb hb=>Z.there hb;have Ww:(as.map Value.ref).length=kvs.length:=by rw[length_map];exact g
 refine wpAny_bind (wpAny_newList ?_ (by rw[Ww,sizeLine_eq];omega));generalize O:(h1.push {cls:=.type "list",data:=.seq (as.map Value.ref).toArray}:Heap)=E;have U:E.get? h1.objs.size=some (seqObj "list" (as.map Value.ref).toArray 0):=by rw[<-O];exact get?_push_size _ rfl
 have GK:∀b o,h1.get? b=some o->E.get? b=some o:=λb o e=>by rw[<-O];exact fH e
 have B:∀b o,h1.get? b=some o->b≠h1.objs.size:=λb o e=>ne_of_lt (lt_size e);show wpAny _ _ _ _ _ {s with heap:=E,toks:=J};refine wpAny_bind (wpAny_holding (wpAny_call_entry slot_list_sort ⟨_,U,rfl⟩ entry_list_sort ?body (args_list_sort _)));case body=>
  refine Bm (s:={s with heap:=E,toks:=J}) (κ:=tuples' (Value.type "int"!=Value.type "tuple")) U so (by omega) tt Hl (λh' W C hC h2=>?_) (λh' W u v d e hd he C hC=>?_) λh' cc p W p1 p2 e=>?_;.exact Bj (s:={s with heap:=h',toks:=J}) (qw (λb o z=>W b o (B b o z) (GK b o z)) tt) h2 hC
  .have Y:∀b o,h1.get? b=some o->h'.get? b=some o:=λb o z=>W b o (B b o z) (GK b o z);exact Jz (s:={s with heap:=h',toks:=J}) (lL Y hd) (lL Y he) hC
  . refine⟨_,rfl,wpAny_pure ⟨_,rfl,?_⟩⟩;have Y:∀b o,h1.get? b=some o->h'.get? b=some o:=λb o z=>W b o (B b o z) (GK b o z);have hL:mH as kvs h1.objs.size=none:=by cases z:mH as kvs h1.objs.size with|none=>rfl|some o=>obtain⟨j,p,N,_,_⟩:=m6 z;exact absurd (ae _ (mem_of_getElem? N)) (lt_irrefl _)
    have af:upd (vZ (mH as kvs) H) h1.objs.size (.lst (pick .non p (as.map V.ref)))=vZ (λb=>if b=h1.objs.size then some (.lst (pick .non p (as.map V.ref)))else mH as kvs b) H:=by
     funext b;unfold upd vZ;by_cases z:b=h1.objs.size;.rw[if_pos z];simp only[if_pos z]
     .rw[if_neg z];simp only[if_neg z]
    have I':=VN (t':=J) (h':=h') (nw:=λb=>if b=h1.objs.size then some (.lst (pick .non p (as.map V.ref)))else mH as kvs b) I (λb o z=>Y b o (kp b o z)) (λa o z=>by
     by_cases y:a=h1.objs.size;.rw[y];exact hsz
     .simp only[if_neg y]at z;exact M a o z) (λa o z=>by
     by_cases y:a=h1.objs.size;.simp only[if_pos y]at z;cases z;subst y;exact⟨by rw[ni p1,Ww,sizeLine_eq];omega,pick .none p (as.map Value.ref),cc,Gr vv,e⟩
     .simp only[if_neg y]at z;obtain⟨j,p',N,e2,rfl⟩:=m6 z;obtain⟨al,e3,t,u,e4⟩:=pr j a N;rw[e2]at e3;cases e3;exact⟨by rw[sizeLine_eq];simp,[Value.int p'.1 t,Value.int p'.2 u],.cons ⟨t,rfl⟩ (.cons ⟨u,rfl⟩ .nil),⟨_,Y _ _ e4,rfl,0,rfl⟩⟩);rw[<-af]at I';refine⟨.ref h1.objs.size,_,I',rfl,?_⟩;have ag:au X.K (vZ (mH as kvs) F) (pick .non p (as.map V.ref)) (m9 (kvs.map cQ)):=by rw[<-p2];exact Dg rs
    refine xK e0.sub ag (by rw[fc hL];exact I.hok.fresh hsz) λv F2 E x rn=>k v F2 E ⟨e0.hs.trans x.hs,e0.fs.trans x.fs,x.sub,λc n n'=>?_⟩ ?_
    . by_cases e:vZ (mH as kvs) F c=none;.have:=x.gr c e n';cases z:H c with|none=>rfl|some o=>rw[i c o z]at this;exact this
      .exact e0.gr c n e
    obtain⟨b,xs,q1,q2,q3,q4,q5⟩:=rn;refine⟨b,xs,q1,q2,q3,q4,?_⟩;cases z:H b with|none=>rfl|some o=>rw[i b o z]at q5;cases q5
theorem yK{x:Str}{U f j:Pos}{o:Expr}(W:x="sorted")(hc:X.calm=true)(Y:Gl X x)(Z:X.mg x=none)(p:(f.endLine==j.line)=true)(ha:SX X c o pa)(s:attributeBase o "items" X.env (eval o X.env)=eval o X.env:=by rfl):SX X c (.Call (.Name x U) [.Call (.Attribute o "items" f) [] [] j] [] pos) (.blt .Bu [pa]):=by
 subst W;obtain⟨ta,h1,h3⟩:=ha.bF;refine⟨cY (dq (NZ hc) Y Z boot_sorted (bC (Fg h1 s p) dF)) ?_,λi h=>by cases h⟩;rintro σ H Q⟨F,ρ,r,C,g,e,k⟩;have e:((bF (isVar pa) (HH.ev c pa) ρ).bind λx ρ=>lift (blt .Bu [x]) ρ)=.ok r C:=e;obtain⟨d,ae,e1,u⟩:=aa e;have zz:=az u;clear u;obtain⟨u,e3⟩:=zz;subst e3;refine h3 g e1 λv J y st pv=>?_;obtain⟨kvs,rfl⟩:∃kvs,d=.cH (.k kvs):=by cases d with
  |cH m=>cases m with|k kvs=>exact⟨kvs,rfl⟩|t kvs=>cases u
  |_=>cases u
 obtain⟨so,he⟩:=aW (show(if kvs.length<=16777216 then some (R.own (m9 (kvs.map cQ)))else none)=some r from u);subst he;obtain⟨q,L,rfl,M⟩:=pv.cH st.gs.sub;refine⟨q,L,kvs,rfl,rfl,M,λl A=>⟨l,q,L,kvs,rfl,aF,aD.bG A q _ M,so,J,λb o e=>aD.bG A b o (st.gs.sub b o e),λw E G B rn=>?_⟩⟩;have sm:aD y (upd y l (.ext (iv l q))):=aD.bG A;have x3:Ext J y E G:=⟨sm.trans B.hs,B.fs,B.sub,λb n n'=>by
  have:=B.gr b n n';by_cases N:b=l;.subst N;rw[A];rfl
  .rw[ao N]at this;exact this⟩;have I:bH X.K E G y w (.own (m9 (kvs.map cQ))):=by obtain⟨b,xs,q1,q2,q3,q4,O⟩:=rn;refine⟨b,xs,q1,q2,q3,q4,?_⟩;cases z:y b with|none=>rfl|some o=>rw[sm b o z]at O;cases O
 exact k w E G (st.trans (x3.stp st.gs)) (.later st (I.pq st.gs))
end
end HH
end
noncomputable section
set_option maxHeartbeats 4000000
namespace T
open PySem L2 PySem.Spec PyProof.Rows HH
local macro_rules|`(term|⇑$n)=>`(P.con (.int $n))
local macro_rules|`(term|↑$n)=>`(P.var $n)
local macro_rules|`(tactic|ac_rfl)=>`(tactic|first|exact Or.inl rfl|exact Or.inr (Or.inl rfl))
set_option hygiene false
local macro_rules|`(term|↥($a,$b,$d))=>`(lg Pg w K mg base Gm (k+1) f fd $a (Il K $b (λargs=>enter c n $d args)))
local macro_rules|`(term|↥($a,$b,$d,0))=>`(bj Pg w K mg base k c $a $b $d)
set_option hygiene true
local macro_rules|`(term|⇑($x))=>`(λ_ _ _ _ _=>$x)
local macro_rules|`(term|nofun)=>`(⟨rfl,rfl,rfl,by decide+kernel,rfl,by decide+kernel,by decide+kernel⟩)
local macro_rules|`(tactic|exists$e)=>`(tactic|with_reducible refine$e)
local macro_rules|`(tactic|lia)=>`(tactic|with_reducible refine bh ?_ ?_)
set_option hygiene false
local macro_rules|`(tactic|exists$i,$e)=>`(tactic|((with_reducible refine wR (i:=$i) ?_ ?_ ?_ ?_ ?_ ?_);exact nd;exact rfl;exact oi;rotate_left;rfl;exact oi;exact$e))
local macro_rules|`(tactic|exists$i,$e,0)=>`(tactic|((with_reducible refine HQ (i:=$i) ?_ ?_ ?_ ?_ ?_ ?_ ?_ ?_ ?_);exact PassesOwn.never;exact hc;exact nd;exact rfl;exact oi;exact$e;rotate_left;(· intro _;rfl);exact oi))
local macro_rules|`(tactic|exists$a,$b,0,0)=>`(tactic|(refine T6 $a $b rfl rfl λcdv A outer s H E hr=>?_;have nd:=($b).nd))
local macro_rules|`(tactic|exists(),$e)=>`(tactic|((with_reducible refine OD ?_);exact$e))
set_option hygiene true
local macro_rules|`(term|‹$l›)=>`((show(($l):List Str).Nodup by decide+kernel))
theorem hc:true=true:=rfl
theorem oi{b:Type}{a:b}{p:Prop}:a=a\/p:=.inl rfl
theorem cB{X:Cx}{c:Call}{a:Expr}{es:List Expr}{b:P}{ps:List P}(e:SX X c a b)(hr:SG X c es ps)(h:Zh a=true):SG X c (a::es) (b::ps):=Hx e hr (jV h)
theorem cU{X:Cx}{c:Call}{a:Expr}{es:List Expr}{b:P}{ps:List P}(e:SX X c a b)(hr:SA X c es ps)(h:Zh a=true):SA X c (a::es) (b::ps):=Hu e hr (jV h)
variable{Pg:Program}{w:World}{K:PySem.W.Frag}{mg:Str->Option Value}{base:Heap}{f:Addr}{fd:FuncData}{k n:Nat}{c:Call}{cl:Nat->Addr}
noncomputable def top(i:Nat):Stmt:=PySem.Challenge.pw_hourhaul_k28_bends_of_rails.main.body.getD i (.Pass ⟨0,0,0,0⟩)
abbrev s0:Stmt:=top 1
noncomputable def b0:List S:=[.asg 2 (.idx (.idx ↑0 ⇑1) (.idx ↑1 ⇑0)),.ret (.Ln (.idx ↑1 ⇑1) (.tup [.idx ↑2 ⇑0,.idx ↑2 ⇑1]) (.tup [.idx ↑2 ⇑1,.idx ↑2 ⇑0]))]
def f0:Fd:=⟨2,3,b0⟩
theorem sc0:aU ["net","step","way"] ["net","step"] (aC s0):=nofun
include cl in
theorem d0(a:lV K "step_places" "step_places" s0 f fd):↥(["net","step"],2,f0):=by
 exists a,sc0,0,0;refine bh ?_ ?_;.exists 2,aA (aA (sv 0) aj) (aA (sv 1) aj)
 lia;.exists(),qY (jD (aA (sv 1) aj)) (cg (cU (aA (sv 2) aj) (cU (aA (sv 2) aj) aM rfl) rfl)) (cg (cU (aA (sv 2) aj) (cU (aA (sv 2) aj) aM rfl) rfl))
 exact aG
abbrev s1:Stmt:=top 2
noncomputable def b1:List S:=[.asg 2 (.idx (.idx (.idx ↑0 ⇑1) (.idx ↑1 ⇑0)) ⇑3),.ret (.Ln (.idx ↑1 ⇑1) ↑2 (.neg ↑2))]
def f1:Fd:=⟨2,3,b1⟩
theorem sc1:aU ["net","step","hours"] ["net","step"] (aC s1):=nofun
include cl in
theorem d1(a:lV K "step_hours" "step_hours" s1 f fd):↥(["net","step"],2,f1):=by
 exists a,sc1,0,0;refine bh ?_ ?_;.exists 2,aA (aA (aA (sv 0) aj) (aA (sv 1) aj)) aj
 lia;.exists(),qY (jD (aA (sv 1) aj)) (sv 2) (qZ (sv 2))
 exact aG
abbrev s2:Stmt:=top 3
noncomputable def b2:List S:=[.asg 3 (.idx ↑1 (.idx ↑2 ⇑0)),.ret (.Ln (.idx ↑2 ⇑1) (.bin .sub (.idx (.idx (.idx ↑0 ⇑1) (.idx ↑2 ⇑0)) ⇑2) ↑3) ↑3)]
def f2:Fd:=⟨3,4,b2⟩
theorem sc2:aU ["net","stream","step","loads"] ["net","stream","step"] (aC s2):=nofun
include cl in
theorem d2(a:lV K "step_room" "step_room" s2 f fd):↥(["net","stream","step"],3,f2):=by
 exists a,sc2,0,0;refine bh ?_ ?_;.exists 3,aA (sv 1) (aA (sv 2) aj)
 lia;.exists(),qY (jD (aA (sv 2) aj)) (aB sS (aA (aA (aA (sv 0) aj) (aA (sv 2) aj)) aj) (sv 3)) (sv 3)
 exact aG
abbrev s3:Stmt:=top 4
noncomputable def b3:List S:=[.ret (.blt .sum [.comp ↑1 1 [2] true none (.call 1 [↑0,↑2])])]
def f3:Fd:=⟨2,2,b3⟩
theorem sc3:aU ["net","steps"] ["net","steps"] (aC s3):=nofun
include cl in
theorem d3(a:lV K "steps_hours" "steps_hours" s3 f fd)(GP:mg "sum"=none)(b:↥(1,"step_hours",2,0)):↥(["net","steps"],2,f3):=by
 exists a,sc3,0,0;refine bh ?_ ?_;.exists(),Py rfl hc (by rfl) GP (mZ (N':=["net","steps","step"]) hc (Vh rfl (by rfl)) (fB (sv 1)) ⇑(bD (i:=2) ‹["net","steps","step"]› rfl (Or.inl rfl) (Or.inr rfl)) (gW (bN)) ⇑(j9) ⇑((gQ b hr (cB (sv 0) (cB (sv 2) aK rfl) rfl))))
 exact aG
abbrev s4:Stmt:=top 5
noncomputable def b4:List S:=[.GC 2 (.v7 ⇑0 (.idx ↑0 ⇑0)) 1 [5] true (.lst []),.Bx (.v7 ⇑0 (.blt .len [.idx ↑0 ⇑1])) [3] true [.Bx (.tup [.tup [↑3,.con (.bl true)],.tup [↑3,.con (.bl false)]]) [4] true [.ifs (.cmp .gt (.call 2 [↑0,↑1,↑4]) ⇑0) [.GD 2 (.idx (.call 0 [↑0,↑4]) ⇑0) ↑4] []]],.cz 2,.ret ↑2]
def f4:Fd:=⟨2,5,b4⟩
theorem sc4:aU ["net","stream","steps","number","step"] ["net","stream"] (aC s4):=nofun
include cl in
theorem d4(a:lV K "open_steps" "open_steps" s4 f fd)(dC:mg "len"=none)(bM:mg "range"=none)(b:↥(0,"step_places",2,0))(e:↥(2,"step_room",3,0)):↥(["net","stream"],2,f4):=by exists a,sc4,0,0;exact(by(refine Io (i:=2) (N':=["net","stream","steps","number","step","place"]) (g:=jm 5) ?_ ?_ ?_ ?_ ?_ ?_ ?_ ?_ ?_ ?_ ?_ ?_ ?_ ?_);exact hc;exact nd;exact rfl;exact oi;exact Vh rfl (by rfl);exact mX rfl (by rfl) bM (aA (sv 0) aj);exact ⇑(bD (i:=5) ‹["net","stream","steps","number","step","place"]› rfl (Or.inl rfl) (Or.inr rfl));exact gW (bN);exact ⇑(j9);exact ⇑((fu aM));(· exists Ef ?_ ?_;(· exists zq (g:=jm 3) ?_ ?_ ?_ ?_ ?_ ?_ ?_;exact PassesOwn.never;exact hc;(· exists Fj ?_ ?_ ?_ ?_ ?_;exact rfl;rfl;exact bM;exact jt rfl (by rfl) dC (aA (sv 0) aj);rfl);exact bD (i:=3) nd rfl oi oi;(· rw[lM];exact sU 3);(· exists pF ?_ ?_;(· exists zq (g:=jm 4) ?_ ?_ ?_ ?_ ?_ ?_ ?_;exact PassesOwn.never;exact hc;exact HW (cg (cU (cg (cU (sv 3) (cU qN aM rfl) rfl)) (cU (cg (cU (sv 3) (cU qN aM rfl) rfl)) aM rfl) rfl));exact bD (i:=4) nd rfl oi oi;(· rw[lM];exact sU 4);(· exists pF ?_ ?_;(· exists Oj ?_ ?_ ?_;exact jq sH (gQ e hr (cB (sv 0) (cB (sv 1) (cB (sv 4) aK rfl) rfl) rfl)) aj (jw _);(· exists pF ?_ ?_;(· exists De (k:=2) ?_ ?_ ?_ ?_ ?_ ?_ ?_ ?_ ?_ ?_ ?_ ?_;exact rfl;(· first|exact Or.inl rfl|exact Or.inr (Or.inl rfl));exact aA (gQ b hr (cB (sv 0) (cB (sv 4) aK rfl) rfl)) aj;exact sv 4;(· intro _ _;rfl);rfl;rfl;rfl;rfl;rfl;rfl;rfl);exact mU);exact mU);exact mU);(· intro _;rfl));exact mU);(· intro _;rfl));(· exists Ja ?_;(· lia;(· exists(),sv 2);exact aG)));rfl;(· intro _;rfl);exact oi)
abbrev s5:Stmt:=top 6
noncomputable def b5:List S:=[.asg 3 (.call 4 [↑0,↑1]),.By 4,.jf (.blt .keys [↑2]) [5] true [.eU 4 ↑5 (.tup [.bin .Bt ↑2 ↑5,⇑0,.con .non])],.asg 6 (.blt .Sy [↑2]),.whl (.cmp .gt (.blt .len [↑6]) ⇑0) [.By 7,.jf ↑6 [5] true [.jf (.idx ↑3 ↑5) [8] true [.asg 9 (.idx (.call 0 [↑0,↑8]) ⇑1),.asg 10 (.tup [.bin .add (.idx (.Lp 4 ↑5) ⇑0) (.call 1 [↑0,↑8]),.bin .add (.idx (.Lp 4 ↑5) ⇑1) ⇑1]),.ifs (.or (.Lq 4 ↑9 true) (.cmp .lt ↑10 (.slice (.Lp 4 ↑9) (.con .non) ⇑2))) [.eU 4 ↑9 (.bin .add ↑10 (.tup [↑8])),.eU 7 ↑9 (.con (.bl true))] []]],.asg 6 (.blt .Sy [.vw 7])],.ret ↑4]
def f5:Fd:=⟨3,11,b5⟩
theorem sc5:aU ["net","stream","begun","steps","come","place","row","changed","step","to","found"] ["net","stream","begun"] (aC s5):=nofun
include cl in
theorem d5(a:lV K "shortest_come" "shortest_come" s5 f fd)(dC:mg "len"=none)(eN:mg "list"=none)(b:↥(4,"open_steps",2,0))(e:↥(1,"step_hours",2,0))(g:↥(0,"step_places",2,0)):↥(["net","stream","begun"],3,f5):=by
 exists a,sc5,0,0;refine bh ?_ ?_;.exists 3,gQ b hr (cB (sv 0) (cB (sv 1) aK rfl) rfl)
 lia;.exact(yU (i:=4) nd rfl oi (by rfl) (Or.inl rfl))
 lia;.exists 5,Ig (sv 2),0;(· lia;exact tD (i:=4) (cj hr) rfl (by ac_rfl) (sv 5) (cg (cU (sJ (cj hr) (sv 2) (sv 5) (λ_ _=>rfl)) (cU aj (cU Cw aM rfl) rfl) rfl)) (by rfl);exact aG)
 lia;.exists 6,Dp rfl hc (by rfl) eN (sv 2)
 lia;.exact(wY PassesOwn.never (jq sH (jt rfl (by rfl) dC (sv 6)) aj (jw _)) (by lia;exact yU (i:=7) nd rfl oi (by rfl) (Or.inl rfl);(· lia;(· exists 5,fB (sv 6),0;(· lia;(· exists 8,fB (aA (sv 3) (sv 5)),0;(· lia;(· exists 9,aA (gQ g hr (cB (sv 0) (cB (sv 8) aK rfl) rfl)) aj);(· lia;(· exists 10,cg (cU (aB aV (aA (wI (i:=4) (cj hr) rfl (by ac_rfl) (sv 5) (λ_ _=>rfl)) aj) (gQ e hr (cB (sv 0) (cB (sv 8) aK rfl) rfl))) (cU (aB aV (aA (wI (i:=4) (cj hr) rfl (by ac_rfl) (sv 5) (λ_ _=>rfl)) aj) aj) aM rfl) rfl));(· lia;(· exists uZ ?_ ?_ ?_;exact SW.st (Fb (Oh (i:=4) (Or.inr ⟨rfl,rfl⟩) (cj hr) rfl (by ac_rfl) (sv 9) (by with_unfolding_all rfl)) (FT (jq (Pu (cj hr)) (sv 10) (vI (wI (i:=4) (cj hr) rfl (by ac_rfl) (sv 9) (λ_ _=>rfl)) zj (yj aj)) (jw _))));(· lia;exact tD (i:=4) (cj hr) rfl (by ac_rfl) (sv 9) (aB aV (sv 10) (cg (cU (sv 8) aM rfl))) (by rfl);(· lia;exact tD (i:=7) (cj hr) rfl (by ac_rfl) (sv 9) qN (by rfl);exact aG));exact aG);exact aG))));exact aG));(· lia;(· exists 6,Dp rfl hc (by rfl) eN (Ep (i:=7) rfl (by ac_rfl)));exact aG))))
 lia;.exists(),sv 4
 exact aG
abbrev s6:Stmt:=top 7
noncomputable def b6:List S:=[.asg 3 (.lst []),.asg 4 ↑2,.whl (.cmp .JW (.idx (.bin .Bt ↑1 ↑4) ⇑2) (.con .non)) [.asg 5 (.idx (.bin .Bt ↑1 ↑4) ⇑2),.app 3 ↑5,.asg 4 (.idx (.call 0 [↑0,↑5]) ⇑0)],.ret (.blt .Yz [↑3])]
def f6:Fd:=⟨3,6,b6⟩
theorem sc6:aU ["net","come","place","steps","here","step"] ["net","come","place"] (aC s6):=nofun
include cl in
theorem d6(a:lV K "steps_to" "steps_to" s6 f fd)(jE:mg "reversed"=none)(dm:mg "tuple"=none)(b:↥(0,"step_places",2,0)):↥(["net","come","place"],3,f6):=by
 exists a,sc6,0,0;refine bh ?_ ?_;.exists 3,fu aM
 lia;.exists 4,sv 2
 lia;.exact(wY PassesOwn.never (jq JP (aA (sJ (cj hr) (sv 1) (sv 4) (λ_ _=>rfl)) aj) Cw (jw _)) (by lia;(· exists 5,aA (sJ (cj hr) (sv 1) (sv 4) (λ_ _=>rfl)) aj);(· lia;exact cM (k:=3) rfl (by ac_rfl) (sv 5);(· lia;(· exists 4,aA (gQ b hr (cB (sv 0) (cB (sv 5) aK rfl) rfl)) aj);exact aG))))
 lia;.exists(),xx rfl rfl hc (by rfl) dm (by rfl) jE (sv 3)
 exact aG
abbrev s7:Stmt:=top 8
noncomputable def b7:List S:=[.asg 3 (.blt .list [↑0]),.jf ↑1 [4,5] false [.Gz 3 ↑4 false (.Ln ↑5 ↑2 (.neg ↑2))],.ret ↑3]
def f7:Fd:=⟨3,6,b7⟩
theorem sc7:aU ["stream","steps","loads","changed","number","forth"] ["stream","steps","loads"] (aC s7):=nofun
include cl in
theorem d7(a:lV K "stream_with" "stream_with" s7 f fd)(eN:mg "list"=none):↥(["stream","steps","loads"],3,f7):=by
 exists a,sc7,0,0;refine bh ?_ ?_;.exists 3,Hs rfl (by rfl) eN (sv 0)
 lia;.exact(tL PassesOwn.never hc (fB (sv 1)) (sY hc (dB (bD (i:=4) nd rfl oi oi) (dB (bD (i:=5) nd rfl oi oi) m8))) (tu rfl (eZ _ _ (eZ _ _ mJ 5) 4)) (by lia;exact Ht (k:=3) (sub:=false) Ip rfl (by ac_rfl) (sv 4) (qY (jD (sv 5)) (sv 2) (qZ (sv 2)));exact aG))
 lia;.exists(),sv 3
 exact aG
abbrev s8:Stmt:=top 9
noncomputable def b8:List S:=[.asg 1 (.bin .sub (.idx ↑0 ⇑0) ⇑1),.asg 2 (.bin .mul (.lst [⇑0]) (.blt .len [.idx ↑0 ⇑1])),.asg 3 (.lst []),.asg 4 (.call 5 [↑0,↑2,.xW 0 0]),.whl (.bin .Yy ↑1 ↑4) [.asg 5 (.call 6 [↑0,↑4,↑1]),.asg 6 (.blt .Gy [.comp ↑5 1 [7] true none (.call 2 [↑0,↑2,↑7])]),.app 3 (.tup [↑5,↑6]),.asg 2 (.call 7 [↑2,↑5,↑6]),.asg 4 (.call 5 [↑0,↑2,.xW 0 0])],.ret ↑3]
def f8:Fd:=⟨1,7,b8⟩
theorem sc8:aU ["net","end","stream","chains","come","steps","loads"] ["net"] (aC s8):=nofun
include cl in
theorem d8(b:lV K "chains_to_end" "chains_to_end" s8 f fd)(dC:mg "len"=none)(kJ:mg "min"=none)(a:↥(5,"shortest_come",3,0))(e:↥(2,"step_room",3,0))(g:↥(6,"steps_to",3,0))(h:↥(7,"stream_with",3,0)):↥(["net"],1,f8):=by
 exists b,sc8,0,0;refine bh ?_ ?_;.exists 1,aB sS (aA (sv 0) aj) aj
 lia;.exists wR (i:=2) ?_ ?_ ?_ ?_ ?_ ?_;exact nd;exact rfl;exact Or.inr rfl;rotate_left;rfl;exact oi;exact aB gj (fu (cU aj aM rfl)) (jt rfl (by rfl) dC (aA (sv 0) aj))
 lia;.exists 3,fu aM
 lia;.exists 4,gQ a hr (cB (sv 0) (cB (sv 2) (cB zg aK rfl) rfl) rfl)
 lia;.exact(wY PassesOwn.never (Mu (cj hr) (sv 1) (sv 4) (by with_unfolding_all rfl)) (by lia;(· exists 5,gQ g hr (cB (sv 0) (cB (sv 4) (cB (sv 1) aK rfl) rfl) rfl));(· lia;(· exists 6,JQ rfl hc (by rfl) kJ (mZ (N':=["net","end","stream","chains","come","steps","loads","step"]) hc (Vh rfl (by rfl)) (fB (sv 5)) ⇑(bD (i:=7) ‹["net","end","stream","chains","come","steps","loads","step"]› rfl (Or.inl rfl) (Or.inr rfl)) (gW (bN)) ⇑(j9) ⇑((gQ e hr (cB (sv 0) (cB (sv 2) (cB (sv 7) aK rfl) rfl) rfl)))));(· lia;exact cM (k:=3) rfl (by ac_rfl) (cg (cU (sv 5) (cU (sv 6) aM rfl) rfl));(· lia;(· exists wR (i:=2) ?_ ?_ ?_ ?_ ?_ ?_;exact nd;exact rfl;exact Or.inr rfl;rotate_left;rfl;exact oi;exact gQ h hr (cB (sv 2) (cB (sv 5) (cB (sv 6) aK rfl) rfl) rfl));(· lia;(· exists 4,gQ a hr (cB (sv 0) (cB (sv 2) (cB zg aK rfl) rfl) rfl));exact aG))))))
 lia;.exists(),sv 3
 exact aG
abbrev s9:Stmt:=top 11
noncomputable def b9:List S:=[.Bw 1 false,.jf (.call 8 [↑0]) [2,3] false [.asg 4 (.call 3 [↑0,↑2]),.dput 1 ↑4 (.bin .add (.QH 1 ↑4 ⇑0) ↑3)],.ret (.blt .Bu [.vw 1])]
def f9:Fd:=⟨1,5,b9⟩
theorem sc9:aU ["net","bends","steps","loads","length"] ["net"] (aC s9):=nofun
include cl in
theorem d9(a:lV K "bends_of" "bends_of" s9 f fd)(fP:mg "sorted"=none)(b:↥(8,"chains_to_end",1,0))(e:↥(3,"steps_hours",2,0)):↥(["net"],1,f9):=by
 exists a,sc9,0,0;refine bh ?_ ?_;.exact(zB (i:=1) nd rfl oi (by rfl) (Or.inl rfl))
 lia;.exact(tL PassesOwn.never hc (fB (gQ b hr (cB (sv 0) aK rfl))) (sY hc (dB (bD (i:=2) nd rfl oi oi) (dB (bD (i:=3) nd rfl oi oi) m8))) (tu rfl (eZ _ _ (eZ _ _ mJ 3) 2)) (by lia;(· exists 4,gQ e hr (cB (sv 0) (cB (sv 2) aK rfl) rfl));(· lia;exact yt (i:=1) (cj hr) rfl (by ac_rfl) (sv 4) (aB aV (Dw (i:=1) (cj hr) rfl (by ac_rfl) (sv 4) aj ⟨rfl,rfl,rfl,rfl⟩) (sv 3)) (by rfl);exact aG)))
 lia;.exists(),yK rfl hc (by rfl) fP rfl (Ep (i:=1) rfl (by ac_rfl))
 exact aG
abbrev pI:Stmt:=top 13
noncomputable def b10:List S:=[.ret (.lst [.blt .max2 [⇑0,.bin .sub ↑0 (.bin .pow ⇑10 ⇑18)],.bin .mod ↑0 (.bin .pow ⇑10 ⇑18),⇑0])]
def W4:Fd:=⟨1,1,b10⟩
theorem aai:aU ["cell"] ["cell"] (aC pI):=nofun
include cl in
theorem d10(a:lV K "_law_pool" "_law_pool" pI f fd)(qU:mg "max"=none):↥(["cell"],1,W4):=by
 exists a,aai,0,0;refine bh ?_ ?_;.exists(),fu (cU (zL rfl hc (by rfl) qU (cU aj (cU (aB sS (sv 0) (aB mL aj aj)) aM rfl) rfl)) (cU (aB dI (sv 0) (aB mL aj aj)) (cU aj aM rfl) rfl) rfl)
 exact aG
abbrev Ym:Stmt:=top 14
noncomputable def b11:List S:=[.ifs (.cmp .gt (.idx ↑0 ⇑0) ⇑0) [.asg 2 (.bin .mod (.idx ↑0 ⇑0) ↑1),.Bv 0 ⇑0 (.bin .fdiv (.idx ↑0 ⇑0) ↑1),.ret ↑2] [],.Bv 0 ⇑2 (.bin .add (.idx ↑0 ⇑2) ⇑1),.asg 3 (.bin .mod (.bin .add (.idx ↑0 ⇑1) (.bin .mul ⇑7919 (.idx ↑0 ⇑2))) ⇑1000000007),.asg 4 (.bin .mod (.bin .mul (.bin .add ↑3 ⇑11) (.bin .add ↑3 ⇑48271)) ⇑998244353),.ret (.bin .mod (.bin .fdiv (.bin .mod (.bin .mul ↑4 ↑4) ⇑2147483647) ⇑8) ↑1)]
def f11:Fd:=⟨2,5,b11⟩
theorem aad:aU ["pool","base","digit","near","stir"] ["pool","base"] (aC Ym):=nofun
include cl in
theorem d11(a:lV K "_law_next" "_law_next" Ym f fd):↥(["pool","base"],2,f11):=by
 exists a,aad,0,0;refine bh ?_ ?_;.exists uZ ?_ ?_ ?_;exact jq sH (aA (sv 0) aj) aj (jw _);(· lia;(· exists 2,aB dI (aA (sv 0) aj) (sv 1));(· lia;exact sZ (k:=0) rfl (by ac_rfl) aj (aB uN (aA (sv 0) aj) (sv 1));(· lia;(· exists(),sv 2);exact aG)));exact aG
 lia;.exact(sZ (k:=0) rfl (by ac_rfl) aj (aB aV (aA (sv 0) aj) aj))
 lia;.exists 3,aB dI (aB aV (aA (sv 0) aj) (aB gj aj (aA (sv 0) aj))) aj
 lia;.exists 4,aB dI (aB gj (aB aV (sv 3) aj) (aB aV (sv 3) aj)) aj
 lia;.exists(),aB dI (aB uN (aB dI (aB gj (sv 4) (sv 4)) aj) aj) (sv 1)
 exact aG
abbrev s12:Stmt:=top 15
noncomputable def b12:List S:=[.ret (.bin .mod (.bin .add (.bin .mul (.call 11 [↑0,⇑100000]) ⇑100000) (.call 11 [↑0,⇑100000])) ↑1)]
def Xc:Fd:=⟨2,2,b12⟩
theorem Z3:aU ["pool","base"] ["pool","base"] (aC s12):=nofun
include cl in
theorem d12(b:lV K "_law_wide" "_law_wide" s12 f fd)(a:↥(11,"_law_next",2,0)):↥(["pool","base"],2,Xc):=by
 exists b,Z3,0,0;refine bh ?_ ?_;.exists(),aB dI (aB aV (aB gj (gQ a hr (cB (sv 0) (cB aj aK rfl) rfl)) aj) (gQ a hr (cB (sv 0) (cB aj aK rfl) rfl))) (sv 1)
 exact aG
abbrev s13:Stmt:=top 16
noncomputable def b13:List S:=[.asg 1 (.call 11 [↑0,⇑5]),.asg 2 (.idx (.lst [⇑4,⇑3,.bin .add (.bin .pow ⇑10 ⇑9) ⇑1]) (.call 11 [↑0,⇑3])),.asg 3 (.idx (.lst [⇑3,⇑6,.bin .pow ⇑10 ⇑6]) (.call 11 [↑0,⇑3])),.asg 4 (.lst []),.asg 5 (.lst []),.jf (.v7 ⇑0 (.call 11 [↑0,⇑5])) [6] true [.app 4 (.tup [⇑0,.bin .add ↑1 ⇑1,.call 12 [↑0,↑2],.bin .add ⇑1 (.call 12 [↑0,↑3])]),.app 5 (.tup [.idx (.idx ↑4 (.neg ⇑1)) ⇑3,.idx (.idx ↑4 (.neg ⇑1)) ⇑2])],.jf (.v7 ⇑1 (.bin .add ↑1 ⇑1)) [7] true [.asg 8 (.tup [⇑0,↑7,.call 12 [↑0,↑2],.bin .add ⇑1 (.call 12 [↑0,↑3])]),.asg 9 (.tup [↑7,.bin .add ↑1 ⇑1,.call 12 [↑0,↑2],.bin .add ⇑1 (.call 12 [↑0,↑3])]),.ins 4 (.call 11 [↑0,.bin .add (.blt .len [↑4]) ⇑1]) ↑8,.ins 4 (.call 11 [↑0,.bin .add (.blt .len [↑4]) ⇑1]) ↑9,.app 5 (.tup [.bin .add (.idx ↑8 ⇑3) (.idx ↑9 ⇑3),.blt .min2 [.idx ↑8 ⇑2,.idx ↑9 ⇑2]])],.ret (.tup [.tup [.bin .add ↑1 ⇑2,.blt .tuple [↑4]],↑5])]
def Yo:Fd:=⟨1,10,b13⟩
theorem aaq:aU ["pool","between","rooms","hours","ways","rails","k","place","one","other"] ["pool"] (aC s13):=nofun
include cl in
theorem d13(e:lV K "_law_drawn" "_law_drawn" s13 f fd)(dC:mg "len"=none)(kJ:mg "min"=none)(bM:mg "range"=none)(dm:mg "tuple"=none)(a:↥(11,"_law_next",2,0))(b:↥(12,"_law_wide",2,0)):↥(["pool"],1,Yo):=by
 exists e,aaq,0,0;refine bh ?_ ?_;.exists 1,gQ a hr (cB (sv 0) (cB aj aK rfl) rfl)
 lia;.exists 2,aA (fu (cU aj (cU aj (cU (aB aV (aB mL aj aj) aj) aM rfl) rfl) rfl)) (gQ a hr (cB (sv 0) (cB aj aK rfl) rfl))
 lia;.exists 3,aA (fu (cU aj (cU aj (cU (aB mL aj aj) aM rfl) rfl) rfl)) (gQ a hr (cB (sv 0) (cB aj aK rfl) rfl))
 lia;.exists 4,fu aM
 lia;.exists 5,fu aM
 lia;.exists 6,mX rfl (by rfl) bM (gQ a hr (cB (sv 0) (cB aj aK rfl) rfl)),0;(· lia;exact cM (k:=4) rfl (by ac_rfl) (cg (cU aj (cU (aB aV (sv 1) aj) (cU (gQ b hr (cB (sv 0) (cB (sv 2) aK rfl) rfl)) (cU (aB aV aj (gQ b hr (cB (sv 0) (cB (sv 3) aK rfl) rfl))) aM rfl) rfl) rfl) rfl));(· lia;exact cM (k:=5) rfl (by ac_rfl) (cg (cU (aA (aA (sv 4) (qZ aj)) aj) (cU (aA (aA (sv 4) (qZ aj)) aj) aM rfl) rfl));exact aG))
 lia;.exists 7,JC rfl (by rfl) bM aj (aB aV (sv 1) aj),0;(· lia;(· exists 8,cg (cU aj (cU (sv 7) (cU (gQ b hr (cB (sv 0) (cB (sv 2) aK rfl) rfl)) (cU (aB aV aj (gQ b hr (cB (sv 0) (cB (sv 3) aK rfl) rfl))) aM rfl) rfl) rfl) rfl));(· lia;(· exists 9,cg (cU (sv 7) (cU (aB aV (sv 1) aj) (cU (gQ b hr (cB (sv 0) (cB (sv 2) aK rfl) rfl)) (cU (aB aV aj (gQ b hr (cB (sv 0) (cB (sv 3) aK rfl) rfl))) aM rfl) rfl) rfl) rfl));(· lia;exact Er (k:=4) rfl (by ac_rfl) (gQ a hr (cB (sv 0) (cB (aB aV (jt rfl (by rfl) dC (sv 4)) aj) aK rfl) rfl)) (sv 8);(· lia;exact Er (k:=4) rfl (by ac_rfl) (gQ a hr (cB (sv 0) (cB (aB aV (jt rfl (by rfl) dC (sv 4)) aj) aK rfl) rfl)) (sv 9);(· lia;exact cM (k:=5) rfl (by ac_rfl) (cg (cU (aB aV (aA (sv 8) aj) (aA (sv 9) aj)) (cU (ym rfl hc (by rfl) kJ (cU (aA (sv 8) aj) (cU (aA (sv 9) aj) aM rfl) rfl)) aM rfl) rfl));exact aG)))))
 lia;.exists(),cg (cU (cg (cU (aB aV (sv 1) aj) (cU (Ex rfl (by rfl) dm (sv 4)) aM rfl) rfl)) (cU (sv 5) aM rfl) rfl)
 exact aG
abbrev Z9:Stmt:=top 17
noncomputable def b14:List S:=[.Bw 1 false,.jf ↑0 [2,3] false [.ifs (.cmp .gt ↑3 ⇑0) [.dput 1 ↑2 (.bin .add (.QH 1 ↑2 ⇑0) ↑3)] []],.ret (.blt .Bu [.vw 1])]
def Xv:Fd:=⟨1,4,b14⟩
theorem aas:aU ["rails","together","length","loads"] ["rails"] (aC Z9):=nofun
include cl in
theorem d14(a:lV K "_law_due" "_law_due" Z9 f fd)(fP:mg "sorted"=none):↥(["rails"],1,Xv):=by
 exists a,aas,0,0;refine bh ?_ ?_;.exact(zB (i:=1) nd rfl oi (by rfl) (Or.inl rfl))
 lia;.exact(tL PassesOwn.never hc (fB (sv 0)) (sY hc (dB (bD (i:=2) nd rfl oi oi) (dB (bD (i:=3) nd rfl oi oi) m8))) (tu rfl (eZ _ _ (eZ _ _ mJ 3) 2)) (by lia;(· exists uZ ?_ ?_ ?_;exact jq sH (sv 3) aj (jw _);(· lia;exact yt (i:=1) (cj hr) rfl (by ac_rfl) (sv 2) (aB aV (Dw (i:=1) (cj hr) rfl (by ac_rfl) (sv 2) aj ⟨rfl,rfl,rfl,rfl⟩) (sv 3)) (by rfl);exact aG);exact aG);exact aG))
 lia;.exists(),yK rfl hc (by rfl) fP rfl (Ep (i:=1) rfl (by ac_rfl))
 exact aG
abbrev s15:Stmt:=top 18
noncomputable def b15:List S:=[.ret (.and (.inst [.int] ↑0) (.not (.inst [.bool] ↑0)))]
def XR:Fd:=⟨1,1,b15⟩
theorem ZP:aU ["found"] ["found"] (aC s15):=nofun
include cl in
theorem d15(a:lV K "_law_whole" "_law_whole" s15 f fd)(yd:mg "bool"=none)(GQ:mg "int"=none)(aY:mg "isinstance"=none):↥(["found"],1,XR):=by
 exists a,ZP,0,0;refine bh ?_ ?_;.exists(),Dv (j6 .int rfl (by rfl) aY (sv 0) (by rfl) GQ (by kernel_rfl) (by decide) (by rfl)) (zb (MP (j6 .bool rfl (by rfl) aY (sv 0) (by rfl) yd (by kernel_rfl) (by decide) (by rfl))))
 exact aG
abbrev Y9:Stmt:=top 19
noncomputable def b16:List S:=[.asg 2 (.bin .mul (.lst [⇑0]) ↑1),.jf (.v7 ⇑0 (.blt .len [↑0])) [3] true [.Bv 2 (.bin .mod ↑3 ↑1) (.bin .add (.bin .mul (.idx ↑2 (.bin .mod ↑3 ↑1)) ⇑1000003) (.idx ↑0 ↑3))],.ret (.slice ↑2 (.con .non) (.blt .max2 [⇑1,.blt .min2 [.blt .len [↑0],↑1]]))]
def Xw:Fd:=⟨2,4,b16⟩
theorem aa0:aU ["script","most","cells","k"] ["script","most"] (aC Y9):=nofun
include cl in
theorem d16(a:lV K "_law_folded" "_law_folded" Y9 f fd)(dC:mg "len"=none)(qU:mg "max"=none)(kJ:mg "min"=none)(bM:mg "range"=none):↥(["script","most"],2,Xw):=by
 exists a,aa0,0,0;refine bh ?_ ?_;.exists 2,aB gj (fu (cU aj aM rfl)) (sv 1)
 lia;.exists 3,mX rfl (by rfl) bM (jt rfl (by rfl) dC (sv 0)),0;(· lia;exact sZ (k:=2) rfl (by ac_rfl) (aB dI (sv 3) (sv 1)) (aB aV (aB gj (aA (sv 2) (aB dI (sv 3) (sv 1))) aj) (aA (sv 0) (sv 3)));exact aG)
 lia;.exists(),vI (sv 2) zj (yj (zL rfl hc (by rfl) qU (cU aj (cU (ym rfl hc (by rfl) kJ (cU (jt rfl (by rfl) dC (sv 0)) (cU (sv 1) aM rfl) rfl)) aM rfl) rfl)))
 exact aG
abbrev s17:Stmt:=top 20
noncomputable def b17:List S:=[.jf (.call 16 [↑0,⇑16]) [1] true [.YB [2,3] (.call 13 [.call 10 [↑1]]),.asg 4 (.call 14 [↑3]),.jf (.v7 ⇑0 ⇑2) [5] true [.asg 6 (.call 9 [↑2]),.ifs (.or (.not (.inst [.list] ↑6)) (.or (.cmp .ne ↑6 ↑4) (.not (.blt .all [.comp ↑6 1 [7] true none (.inst [.tuple] ↑7)])))) [.ret (.con (.bl false))] [],.ifs (.not (.blt .all [.comp ↑6 1 [7] true none (.and (.call 15 [.idx ↑7 ⇑0]) (.call 15 [.idx ↑7 ⇑1]))])) [.ret (.con (.bl false))] [],.app 6 (.tup [⇑0,⇑0])]],.ret (.con (.bl true))]
def WL:Fd:=⟨1,7,b17⟩
theorem Z0:aU ["script","cell","net","rails","due","turn","found"] ["script"] (aC s17):=nofun
include cl in
theorem d17(b:lV K "law" "law" s17 f fd)(vR:mg "all"=none)(aY:mg "isinstance"=none)(eN:mg "list"=none)(bM:mg "range"=none)(dm:mg "tuple"=none)(e:↥(13,"_law_drawn",1,0))(g:↥(14,"_law_due",1,0))(h:↥(16,"_law_folded",2,0))(j:↥(10,"_law_pool",1,0))(a:↥(15,"_law_whole",1,0))(l:↥(9,"bends_of",1,0)):↥(["script"],1,WL):=by
 exists b,Z0,0,0;refine bh ?_ ?_;.exists 1,fB (gQ h hr (cB (sv 0) (cB aj aK rfl) rfl)),0;(· lia;exact Qa (gQ e hr (cB (gQ j hr (cB (sv 1) aK rfl)) aK rfl)) (sY hc (dB (bD (i:=2) nd rfl oi oi) (dB (bD (i:=3) nd rfl oi oi) m8))) (tu rfl (eZ _ _ (eZ _ _ mJ 3) 2));(· lia;(· exists 4,gQ g hr (cB (sv 3) aK rfl));(· lia;(· exists 5,mX rfl (by rfl) bM aj,0;(· lia;(· exists 6,gQ l hr (cB (sv 2) aK rfl));(· lia;(· exists uZ ?_ ?_ ?_;exact SW.st (Fb (wV (jD (j6 .list rfl (by rfl) aY (sv 6) (by rfl) eN (by kernel_rfl) (by decide) (by rfl)))) (Fb (jq (Nb (cj hr)) (sv 6) (sv 4) (jw _)) (FT (wV (jD (Ez rfl hc (by rfl) vR (mZ (N':=["script","cell","net","rails","due","turn","found","pair"]) hc (Vh rfl (by rfl)) (fB (sv 6)) ⇑(bD (i:=7) ‹["script","cell","net","rails","due","turn","found","pair"]› rfl (Or.inl rfl) (Or.inr rfl)) (gW (bN)) ⇑(j9) ⇑((j6 .tuple rfl (by rfl) aY (sv 7) (by rfl) dm (by kernel_rfl) (by decide) (by rfl))))))))));(· lia;(· exists(),qN);exact aG);exact aG);(· lia;(· exists uZ ?_ ?_ ?_;exact wV (jD (Ez rfl hc (by rfl) vR (mZ (N':=["script","cell","net","rails","due","turn","found","pair"]) hc (Vh rfl (by rfl)) (fB (sv 6)) ⇑(bD (i:=7) ‹["script","cell","net","rails","due","turn","found","pair"]› rfl (Or.inl rfl) (Or.inr rfl)) (gW (bN)) ⇑(j9) ⇑((Dv (gQ a hr (cB (aA (sv 7) aj) aK rfl)) (zb (gQ a hr (cB (aA (sv 7) aj) aK rfl))))))));(· lia;(· exists(),qN);exact aG);exact aG);(· lia;exact cM (k:=6) rfl (by ac_rfl) (cg (cU aj (cU aj aM rfl) rfl));exact aG)))));exact aG)))
 lia;.exists(),qN
 exact aG
end T
end
noncomputable section
namespace T
open PySem L2 PySem.Spec PyProof.Rows HH
def Γ:Tab:=λi=>[f0,f1,f2,f3,f4,f5,f6,f7,f8,f9,W4,f11,Xc,Yo,Xv,XR,Xw,WL][i]?
end T
end
noncomputable section
namespace T
open HH
variable{w n j N l:Nat}{m a b g p i k:Int}{Q:R->List Sl->Prop}{f:Bool}{ch:List Int}{F q:Int->Int}{ρ:List Sl}{kvs r rs:List (Int×Int)}{W:Int->Int->Int}
local macro_rules|`(tactic|symm)=>`(tactic|first|apply ak|apply Bb)
abbrev big:Int:=1606938044258990275541962092341162602522202993782792835301376
theorem dw{x y z:Int}(h0:0<m)(c:m<big)(k:∀d x z:Int,0<=d->d<m->Q (.val (.int d)) [.own true [.int x,.int y,.int z],.val false (.int m)]):(run Γ w (n+1) 11 [.own true [.int x,.int y,.int z],.val false (.int m)]).sat Q:=by
 have e:m<1606938044258990275541962092341162602522202993782792835301376:=c;refine bf (d:=f11) rfl rfl (by decide) ?_;symm;simp[f11];constructor;.intro _;symm;simp[h0];apply ak;simp[h0,e,gw];apply ak;simp;exact k _ _ _ (Int.emod_nonneg _ (by omega)) (Int.emod_lt_of_pos _ h0)
 . intro _;symm;simp[gw];apply ak;simp;generalize s:(y+7919*(z+1))%1000000007=q;have t:0<=q/\q<1000000007:=by omega
   have h:-18446744073709551616<q+11/\q+11<18446744073709551616:=by omega
   symm;simp[h];generalize hs:(q+11)*(q+48271)%998244353=st;have o:-18446744073709551616<st/\st<18446744073709551616:=by omega
   symm;simp[o,h0];exact k _ _ _ (Int.emod_nonneg _ (by omega)) (Int.emod_lt_of_pos _ h0)
theorem Dz{x:Int}(k:∀a b c:Int,Q (.own [.int a,.int b,.int c]) [.val false (.int x)]):(run Γ w (n+1) 10 [.val false (.int x)]).sat Q:=by refine bf (d:=W4) rfl rfl (by decide) ?_;symm;simp[W4];exact k _ _ _
structure Wy where(s t r h:Int)
variable{ws:List Wy}{v:Wy}
def Wy.d(w:Wy):D:=.tup [.int w.s,.int w.t,.int w.r,.int w.h]
structure Wy.Ok(m:Int)(w:Wy):Prop where
 s0:0<=w.s
 s1:w.s<m
 t0:0<=w.t
 t1:w.t<m
 ne:w.s≠w.t
 r0:0<=w.r
 r1:w.r<=1000000000
 h0:1<=w.h
 h1:w.h<=1000000
theorem other(h1:0<=a)(c:a<m)(o:0<=b)(s:b<m-1):0<=(a+1+b)%m/\(a+1+b)%m<m/\(a+1+b)%m≠a:=by
 by_cases h:a+1+b<m;.rw[Int.emod_eq_of_lt (by omega) h];omega
 . have e:(a+1+b)%m=a+1+b-m:=by rw[<-Int.sub_emod_right,Int.emod_eq_of_lt (by omega) (by omega)]
   rw[e];omega
theorem Jo{c:List D}{k:Nat}(h:∀d∈c,cC k d=true):cC (k+1) (.lst c)=true:=by rw[cC];exact all_eq_true.mpr h
theorem Gj{c:List D}{k:Nat}(h:∀d∈c,cC k d=true):cC (k+1) (.tup c)=true:=by rw[cC];exact all_eq_true.mpr h
def bU(m:Int)(ws:List Wy):D:=.tup [.int m,.tup (ws.map Wy.d)]
structure Ed(m:Int)(ws:List Wy):Prop where
 m0:2<=m
 m1:m<=6
 len:ws.length<=12
 ok:∀w∈ws,w.Ok m
@[simp]theorem ab4{m:Int}{ws:List Wy}:Hm (bU m ws) (.int 0)=some (.val (.int m)):=rfl
@[simp]theorem ab1{m:Int}{ws:List Wy}:Hm (bU m ws) (.int 1)=some (.val (.tup (ws.map Wy.d))):=rfl
def gd:Nat->D->Bool|_,.non=>true|_,.int _=>true|k+1,.tup c=>decide (c.length<=1000)&&c.all (gd k)|k+1,.lst c=>decide (c.length<=1000)&&c.all (gd k)|_,_=>false
theorem yL{c:Type}{l:List c}:(l.map λ_=>D.bl true).mapM wW=some (l.map λ_=>true):=by induction l with|nil=>rfl|cons a l e=>simp[e]
theorem all_true{c:Type}{l:List c}:(l.map λ_=>true).all id=true:=by simp
theorem iD:∀(k:Nat)(d:D),gd k d=true->jb d d=true:=by
 have seq:∀(k:Nat),(∀d,gd k d=true->jb d d=true)->∀c:List D,c.all (gd k)=true->dG c c=true:=by intro k e c;induction c with|nil=>intro _;rw[dG]|cons d c o=>intro h;rw[all_cons,and_eq_true]at h;rw[dG,e d h.1,o h.2];rfl
 intro k;induction k with
 |zero=>intro d g;cases d with|non=>rfl|int i=>exact beq_self_eq_true _|bl b=>cases g|str s=>cases g|cH s=>cases g|dv _ _=>cases g|tup c=>cases g|lst c=>cases g
 |succ k e=>intro d g;cases d with|non=>rfl|int i=>exact beq_self_eq_true _|bl b=>cases g|str s=>cases g|cH s=>cases g|dv _ _=>cases g|tup c=>rw[gd,and_eq_true]at g;exact seq k e c g.2|lst c=>rw[gd,and_eq_true]at g;exact seq k e c g.2
theorem Eo:∀(k j:Nat)(d:D),k<=j->gd k d=true->cC j d=true:=by intro k;induction k with
 |zero=>intro j d _ g;cases d with|non=>rw[cC]|int i=>rw[cC]|bl b=>cases g|str s=>cases g|cH s=>cases g|dv _ _=>cases g|tup c=>cases g|lst c=>cases g
 |succ k e=>intro j d h g;cases d with|non=>rw[cC]|int i=>rw[cC]|bl b=>cases g|str s=>cases g|cH s=>cases g|dv _ _=>cases g|tup c=>rw[gd,and_eq_true]at g;obtain⟨j,rfl⟩:∃i,j=i+1:=⟨j-1,by omega⟩;exact Gj λd hd=>e j d (by omega) (all_eq_true.mp g.2 d hd)|lst c=>rw[gd,and_eq_true]at g;obtain⟨j,rfl⟩:∃i,j=i+1:=⟨j-1,by omega⟩;exact Jo λd hd=>e j d (by omega) (all_eq_true.mp g.2 d hd)
theorem ne_self{k:Nat}{d:D}(c:k<=8)(h:gd k d=true):cm .ne d d=some false:=by show xM d d=_;unfold xM;rw[Eo k 8 d c h,iD k d h];rfl
theorem eq_self{k:Nat}{d:D}(c:k<=8)(h:gd k d=true):cm .eq d d=some true:=by show CZ d d=_;unfold CZ;rw[Eo k 8 d c h,iD k d h];rfl
def du(j:Nat)(f:Bool):D:=.tup [.int j,.bl f]
def frm(v:Wy)(f:Bool):Int:=if f then v.s else v.t
def too(v:Wy)(f:Bool):Int:=if f then v.t else v.s
theorem jA(e:ws[j]?=some v)(k:Q (.val (.tup [.int (frm v f),.int (too v f)])) [.val false (bU m ws),.val false (du j f)]):(run Γ w (n+1) 0 [.val false (bU m ws),.val false (du j f)]).sat Q:=by refine bf (d:=f0) rfl rfl (by decide) ?_;symm;simp[f0,du,gP e];apply ak;cases f with|true=>simp[Wy.d];exact k|false=>simp[Wy.d];exact k
def hsp(v:Wy)(f:Bool):Int:=if f then v.h else-v.h
theorem ql(e:ws[j]?=some v)(k:Q (.val (.int (hsp v f))) [.val false (bU m ws),.val false (du j f)]):(run Γ w (n+1) 1 [.val false (bU m ws),.val false (du j f)]).sat Q:=by refine bf (d:=f1) rfl rfl (by decide) ?_;symm;simp[f1,du,gP e,Wy.d];apply ak;cases f with|true=>simp;exact k|false=>simp;exact k
def Vm(s:Sl)(fs:List Int):Prop:=s=.val false (.lst (fs.map D.int))\/∃b,s=.own b (fs.map D.int)
def lY(v:Wy)(g:Int)(f:Bool):Int:=if f then v.r-g else g
theorem qj{s:Sl}{fs:List Int}(hs:Vm s fs)(e:ws[j]?=some v)(c:fs[j]?=some g)(k:Q (.val (.int (lY v g f))) [.val false (bU m ws),s,.val false (du j f)]):(run Γ w (n+1) 2 [.val false (bU m ws),s,.val false (du j f)]).sat Q:=by refine bf (d:=f2) rfl rfl (by decide) ?_;symm;rcases hs with rfl|⟨b,rfl⟩;all_goals simp[f2,du,gP c];apply ak;cases f with|true=>simp[gP e,Wy.d];exact k|false=>simp;exact k
@[simp]theorem XD{c:Call}{n x k:Nat}{src o:P}{is:List Nat}{one:Bool}{ρ:List Sl}:ex c n (.GC x src k is one o) ρ=(srcOf (isVar src) (ev c src) ρ).bind λu e=>if u.length<=lim then(dH is one (ev c o) u [] (e++replicate k .aP)).bind λs h=>(lift (put (aO ρ (isVar src) (h.take e.length)) x (.hold s)) ρ).bind λt _=>.ok .next t else .stuck:=(rfl)
@[simp]theorem Xl{c:Call}{n:Nat}{src:P}{is:List Nat}{one:Bool}{body:List S}{ρ:List Sl}:ex c n (.Bx src is one body) ρ=(ev c src ρ).bind λr e=>(lift (items r.d) e).bind λh e=>fM is one (fU c n body) h e:=(rfl)
@[simp]theorem aau{c:Call}{n x:Nat}{ρ:List Sl}:ex c n (.cz x) ρ=match ρ[x]?with|some (.hold e)=>.ok .next (ρ.set x (.val false (.lst (e.map D.lst))))|_=>.stuck:=(rfl)
@[simp]theorem W0{c:Call}{n x:Nat}{i e:P}{ρ:List Sl}:ex c n (.GD x i e) ρ=(bF (isVar i) (ev c i) ρ).bind λk ρ=>(lift (sV ρ x k) ρ).bind λ_ ρ=>(ev c e ρ).bind λr ρ=>Be ρ x ((gA ρ x).bind λh=>(fG k).bind λk=>ir h k λrow=>if row.length<lim then some (row++[r.d])else none):=(rfl)
@[simp]theorem Ys{a:Sl}{l:List Sl}{x:Nat}:gA (a::l) x=match(a::l)[x]?with|some (.hold c)=>some c|_=>none:=rfl
@[simp]theorem Q9{ρ:List Sl}{x:Nat}{c:List (List D)}:Be ρ x (some c)=.ok .next (ρ.set x (.hold c)):=rfl
@[simp]theorem ZK{a:Sl}{l:List Sl}{x:Nat}{k:Int}:sV (a::l) x (.int k)=match(a::l)[x]?with|some (.hold c)=>rowAt c k|_=>none:=by unfold sV gA;cases h:(a::l)[x]?with|none=>rfl|some s=>cases s<;>rfl
theorem oM{is:List Nat}{one:Bool}{s:Ev}(J:List Sl->Prop)(g:D->List D){Q:List (List D)->List Sl->Prop}:∀{u:List D}{c:List (List D)}{ρ:List Sl},J ρ->(∀d,d∈u->∀ρ,J ρ->∃o,bQ ρ is one d=some o/\(s o).sat λr t=>r=.own (g d)/\J t)->(∀ρ,J ρ->Q (c++u.map g) ρ)->(dH is one s u c ρ).sat Q|[],c,ρ,j,h,k=>by rw[dH];simpa using k ρ j|d::r,c,ρ,j,h,k=>by obtain⟨o,e,h1⟩:=h d (by simp) ρ j;rw[dH,e];show((s o).bind _).sat Q;rw[bw];refine h1.imp λx t⟨A,j3⟩=>?_;subst A;exact oM J g j3 (λd' y=>h d' (by simp[y])) λz B=>by simpa using k z B
@[simp]theorem Zn{c:Call}{x:Nat}{k:P}{ρ:List Sl}:ev c (.Lp x k) ρ=match ρ[x]?with
 |some (.bV _)=>(bF (isVar k) (ev c k) ρ).bind λe ρ=>match ρ[x]?with|some (.bV kvs)=>lift ((fG e).bind λk=>(ju kvs k).map .val) ρ|_=>.stuck
 |_=>.stuck:=(rfl)
def pJ(kvs:List (Int×D))(k:Int):Bool:=(kvs.map (·.1)).contains k
def G4(kvs:List (Int×D)):List Int:=kvs.map (·.1)
def dsV(kvs:List (Int×D)):List D:=kvs.map (·.2)
@[simp]theorem aaY{c:Call}{x:Nat}{k:P}{neg:Bool}{ρ:List Sl}:ev c (.Lq x k neg) ρ=(bF (isVar k) (ev c k) ρ).bind λe ρ=>match ρ[x]?with|some (.bV kvs)=>lift ((fG e).map λk=>.val (.bl (if neg then !pJ kvs k else pJ kvs k))) ρ|_=>.stuck:=(rfl)
@[simp]theorem W5{c:Call}{k e:Int}{ρ:List Sl}:ev c (.xW k e) ρ=.ok (.val (.dv [k] [.int e])) ρ:=(rfl)
@[simp]theorem abU{c:Call}{x:Nat}{ρ:List Sl}:ev c (.vw x) ρ=match ρ[x]?with|some (.eO m)=>.ok (.val (.cH m)) (ρ.set x (.val false (.cH m)))|some (.bV kvs)=>.ok (.val (.dv (G4 kvs) (dsV kvs))) (ρ.set x (.val false (.dv (G4 kvs) (dsV kvs))))|some (.own b e)=>.ok (.val (.lst e)) (ρ.set x (.val b (.lst e)))|some (.val _ d)=>.ok (.val d) ρ|_=>.stuck:=(rfl)
@[simp]theorem Xq{c:Call}{n x:Nat}{ρ:List Sl}:ex c n (.By x) ρ=match ρ[x]?with|some .aP=>.ok .next (ρ.set x (.bV []))|some (.bV _)=>.ok .next (ρ.set x (.bV []))|some (.val false _)=>.ok .next (ρ.set x (.bV []))|_=>.stuck:=(rfl)
@[simp]theorem W8{c:Call}{n x:Nat}{k e:P}{ρ:List Sl}:ex c n (.eU x k e) ρ=(ev c e ρ).bind λr ρ=>match ρ[x]?with
 |some (.bV _)=>(bF (isVar k) (ev c k) ρ).bind λh ρ=>match ρ[x]?,h with|some (.bV kvs),.int k=>if kvs.length<lim then .ok .next (ρ.set x (.bV (eU kvs k r.d)))else .stuck|_,_=>.stuck
 |_=>.stuck:=(rfl)
@[simp]theorem Xb{c:Call}{n x:Nat}{i e:P}{sub:Bool}{ρ:List Sl}:ex c n (.Gz x i sub e) ρ=(lift (xG ρ x) ρ).bind λ_ ρ=>(bF (isVar i) (ev c i) ρ).bind λk ρ=>(lift (xG ρ x) ρ).bind λl ρ=>(lift ((fG k).bind λi=>at' l i) ρ).bind λa ρ=>(bF (isVar e) (ev c e) ρ).bind λb ρ=>match a,b,ρ[x]?,k with
 |.int u,.int v,some (.own bb h),.int k=>match gw h.length k with|some j=>.ok .next (ρ.set x (.own bb (h.set j (.int (if sub then u-v else u+v)))))|none=>.stuck
 |_,_,_,_=>.stuck:=(rfl)
@[simp]theorem R9{x:Nat}{k:P}:isVar (.Lp x k)=none:=rfl
@[simp]theorem Rm{x:Nat}{k:P}{b:Bool}:isVar (.Lq x k b)=none:=rfl
@[simp]theorem V4{x:Nat}:isVar (.vw x)=none:=rfl
@[simp]theorem Qw{k e:Int}:isVar (.xW k e)=none:=rfl
@[simp]theorem YX{kvs:List (Int×D)}:fr (.bV kvs)=false:=rfl
@[simp]theorem W9{r:List (List D)}:fr (.hold r)=false:=rfl
@[simp]theorem VR:pM .Bt=yV:=rfl
@[simp]theorem XM:pM .Yy=uX false:=rfl
@[simp]theorem Uj{ks:List Int}{c:List D}{k:Int}:yV (.dv ks c) (.int k)=(ju (ks.zip c) k).map .val:=rfl
@[simp]theorem W6{ks:List Int}{c:List D}{k:Int}:uX false (.int k) (.dv ks c)=some (.val (.bl (ks.contains k))):=rfl
@[simp]theorem Rj{ks:List Int}{c:List D}:blt .keys [.dv ks c]=some (.val (.tup (ks.map D.int))):=rfl
@[simp]theorem WM{ks:List Int}{c:List D}:blt .Sy [.dv ks c]=if ks.length<=16777216 then some (.own (ks.map D.int))else none:=rfl
@[simp]theorem XH{c:List D}:blt .Yz [.lst c]=some (.val (.tup c.reverse)):=rfl
@[simp]theorem Rv{kvs:List (Int×D)}{x:Option Sl}:cZ (.bV kvs) x=.bV kvs:=by cases x<;>rfl
@[simp]theorem Og{r:List (List D)}{x:Option Sl}:cZ (.hold r) x=.hold r:=by cases x<;>rfl
structure HN(m:Int)(ws:List Wy):Prop where
 m0:2<=m
 m1:m<=6
 len:ws.length<=12
 ok:∀w∈ws,(0<=w.s/\w.s<m)/\(0<=w.t/\w.t<m)/\0<=w.h
theorem HN.of(h:Ed m ws):HN m ws:=⟨h.m0,h.m1,h.len,λw c=>by have:=h.ok w c;exact⟨⟨this.s0,this.s1⟩,⟨this.t0,this.t1⟩,by have:=this.h0;omega⟩⟩
abbrev aq:=Nat×Bool
variable{s:aq}{x:Nat×(Option aq×Int)}{o:Option aq×Int}{c:List aq}{cs:List (List aq×Int)}
def sD(s:aq):D:=du s.1 s.2
def iV(ws:List Wy)(fs:List Int)(p:Int)(s:aq):Bool:=match ws[s.1]?,fs[s.1]?with|some v,some g=>decide (frm v s.2=p)&&decide (0<lY v g s.2)|_,_=>false
theorem lH{fs:List Int}(e:ws[s.1]?=some v)(h:fs[s.1]?=some g):iV ws fs p s=(decide (frm v s.2=p)&&decide (0<lY v g s.2)):=by unfold iV;rw[e,h]
def gH(ws:List Wy)(fs:List Int)(M:Nat)(l:List aq):List (List aq):=(List.range M).map λ(p:Nat)=>l.filter (iV ws fs (p:Int))
def rD(l:List (List aq)):List (List D):=l.map λr=>r.map sD
def fj(N:Nat):List aq:=(List.range N).flatMap λj=>[(j,true),(j,false)]
theorem qL:fj (N+1)=(fj N++[(N,true)])++[(N,false)]:=by simp[fj,List.range_succ]
theorem uU:(fj N).length=2*N:=by induction N with|zero=>rfl|succ N e=>rw[qL];simp[e];omega
theorem Pj(h:HN m ws)(e:ws[j]?=some v)(f:Bool):0<=frm v f/\frm v f<m:=by have:=h.ok v (mem_of_getElem? e);cases f<;>simp only[frm]<;>simp<;>omega
theorem FQ(h:HN m ws)(e:ws[j]?=some v)(f:Bool):0<=too v f/\too v f<m:=by have:=h.ok v (mem_of_getElem? e);cases f<;>simp only[too]<;>simp<;>omega
theorem Fe{fs:List Int}{M:Nat}{l:List aq}(e:ws[s.1]?=some v)(t:fs[s.1]?=some g)(h:¬ 0<lY v g s.2):gH ws fs M (l++[s])=gH ws fs M l:=by unfold gH;refine map_congr_left λp _=>?_;rw[List.filter_append];simp[lH e t,h]
theorem JG{fs:List Int}{l:List aq}(e:ws[s.1]?=some v)(u:fs[s.1]?=some g)(h:0<lY v g s.2)(y:0<=frm v s.2/\frm v s.2<m)(C:l.length<1000):(∃row,rowAt (rD (gH ws fs m.toNat l)) (frm v s.2)=some row)/\ir (rD (gH ws fs m.toNat l)) (frm v s.2) (λrow=>if row.length<lim then some (row++[sD s])else none)=some (rD (gH ws fs m.toNat (l++[s]))):=by
 have t:(rD (gH ws fs m.toNat l)).length=m.toNat:=by simp[rD,gH]
 have z:gw (rD (gH ws fs m.toNat l)).length (frm v s.2)=some (frm v s.2).toNat:=by unfold gw;rw[t,if_pos y.1,if_pos (by omega)]
 have A:(rD (gH ws fs m.toNat l))[(frm v s.2).toNat]?=some ((l.filter (iV ws fs (frm v s.2))).map sD):=by simp[rD,gH,show(frm v s.2).toNat<m.toNat by omega,Int.toNat_of_nonneg y.1]
 refine⟨⟨_,by unfold rowAt;rw[z];exact A⟩,?_⟩;unfold ir;rw[z];show((rD (gH ws fs m.toNat l))[(frm v s.2).toNat]?).bind _=_;rw[A];have B:((l.filter (iV ws fs (frm v s.2))).map sD).length<lim:=by have:=List.length_filter_le (iV ws fs (frm v s.2)) l;rw[length_map];show _<16777216;omega
 show Option.map _ (if _ then _ else _)=_;rw[if_pos B];show some _=some _;congr 1;refine ext_getElem (by simp[rD,gH]) λi E G=>?_;rw[List.getElem_set];by_cases c:(frm v s.2).toNat=i
 . rw[if_pos c];have:(i:Int)=frm v s.2:=by omega
   simp[rD,gH,this,List.filter_append,lH e u,h]
 . rw[if_neg c];have:¬ frm v s.2=(i:Int):=by omega
   simp[rD,gH,List.filter_append,lH e u,this]
inductive JOp(m:Int)(ws:List Wy)(fs:List Int)(s:Sl)(i:Nat)(ρ:List Sl):Prop where|mk(s3 s4:Sl)(q0:ρ=[.val false (bU m ws),s,.hold (rD (gH ws fs m.toNat (fj i))),s3,s4])(q1:fr s3=true)(q2:fr s4=true)
inductive JOq(m:Int)(ws:List Wy)(fs:List Int)(s:Sl)(i:Nat)(r:List D)(ρ:List Sl):Prop where|mk(l us:List aq)(s4:Sl)(q0:ρ=[.val false (bU m ws),s,.hold (rD (gH ws fs m.toNat l)),.val false (.int i),s4])(q1:fr s4=true)(q2:r=us.map sD)(q3:l++us=fj (i+1))(q4:∀u∈us,u.1=i)
inductive F1n(a b c d e:Sl)(ρ:List Sl):Prop where|mk(s:Sl)(q0:ρ=[a,b,c,d,e,s])(q1:fr s=true)
theorem DQ{s:Sl}{fs:List Int}(hs:Vm s fs)(h:HN m ws)(X:fs.length=ws.length)(k:Q (.val (.lst ((rD (gH ws fs m.toNat (fj ws.length))).map D.lst))) [.val false (bU m ws),s]):(run Γ w (n+2) 4 [.val false (bU m ws),s]).sat Q:=by
 have Y:=h.len;have m0:=h.m0;have m1:=h.m1;refine bf (d:=f4) rfl rfl (by decide) ?_;refine fX (λρ=>ρ=[.val false (bU m ws),s,.hold (rD (gH ws fs m.toNat (fj 0))),.aP,.aP]) ?_ ?_
 . simp[f4,show m<=1000000000 by omega,show-1000000000<=m by omega];refine⟨λ_=>?_,by omega⟩;rw[bw];refine oM (F1n _ _ _ _ _) (λ_=>[]) ⟨.aP,rfl,rfl⟩ ?_ ?_;.rintro d hd _⟨L,rfl,y⟩;simp[y];exact⟨_,rfl,rfl⟩
   .rintro _⟨L,rfl,y⟩;simp[rD,gH,fj]
 rintro _ rfl;refine fX (JOp m ws fs s ws.length) ?_ ?_
 . simp[show(ws.length:Int)<=1000000000 by omega];refine gR (JOp m ws fs s) ?_ ?_ ⟨.aP,.aP,rfl,rfl,rfl⟩
   . rintro i _ hi⟨s3,s4,rfl,C,t⟩;have G:i<fs.length:=by omega
     have z:ws[i]?=some ws[i]:=by simp[hi]
     have H:fs[i]?=some fs[i]:=by simp[G]
     generalize ws[i]=v at*;generalize fs[i]=g at*;simp[C];apply ak;simp;refine bW (JOq m ws fs s i) ?_ ?_ ⟨fj i,[(i,true),(i,false)],s4,rfl,t,rfl,by rw[qL];simp,by simp⟩;.rintro d r _⟨l,e,s4,rfl,t,hr,A,E⟩;cases e with|nil=>cases hr|cons u e=>
         obtain⟨rfl,rfl⟩:d=sD u/\r=e.map sD:=by simpa using hr
         obtain rfl:=E u (by simp);have B:(l++[u])++e=fj (u.1+1):=by rw[append_assoc];exact A
         have I:l.length<1000:=by have:=congrArg List.length A;rw[uU]at this;simp at this;omega
         simp[t];apply ak;rcases hs with rfl|⟨b,rfl⟩;all_goals
          simp[sD];refine qj (by first|exact .inl rfl|exact .inr ⟨_,rfl⟩) z H ?_;simp;refine⟨λho=>?_,λho=>?_⟩;.obtain⟨⟨row,M⟩,O⟩:=JG (ws:=ws) (fs:=fs) (l:=l) z H ho (Pj h z u.2) I;symm;simp;refine jA z ?_;simp[M];have U:ir (rD (gH ws fs m.toNat l)) (frm v u.2) (λrow=>if row.length<lim then some (row++[du u.1 u.2])else none)=_:=O;rw[U];simp;exact⟨l++[u],e,_,rfl,rfl,rfl,B,λx J=>E x (by simp[J])⟩
          .exact⟨l++[u],e,_,by rw[Fe z H (by omega)],rfl,rfl,B,λx J=>E x (by simp[J])⟩
     . rintro _⟨l,e,s4,rfl,t,hr,A,E⟩;have:e=[]:=by cases e with|nil=>rfl|cons _ _=>cases hr
       subst this;rw[append_nil]at A;subst A;simp;exact⟨_,_,rfl,rfl,t⟩
   .rintro _⟨s3,s4,rfl,C,t⟩;exact⟨rfl,_,_,rfl,C,t⟩
 rintro _⟨s3,s4,rfl,C,t⟩;symm;simp;apply ak;simp;exact k
abbrev En:=Int×Nat×(Option aq×Int)
variable{es qW:List En}
def oS:Option aq->D|none=>.non|some s=>sD s
def zp(e:En):D:=.tup [.int e.2.2.2,.int (e.2.1:Int),oS e.2.2.1]
def en(e:En):Int×D:=(e.1,zp e)
def jH(es:List En):D:=.dv (es.map (·.1)) (es.map zp)
def xm(p:Int):Int×D:=(p,.bl true)
@[simp]theorem Qg{l:List Int}:G4 (l.map xm)=l:=by simp[G4,xm,Function.comp_def]
theorem xr{l:List En}:G4 (l.map en)=l.map (·.1):=by simp[G4,en,Function.comp_def]
theorem wy{l:List En}:pJ (l.map en) p=true↔∃n o,(p,n,o)∈l:=by show(G4 (l.map en)).contains p=true↔_;rw[xr];simp
theorem kin_no{l:List En}(h:¬ ∃n o,(p,n,o)∈l):pJ (l.map en) p=false:=by cases e:pJ (l.map en) p with|false=>rfl|true=>exact absurd (wy.mp e) h
theorem qX{u:Type}{p:Int}{x y:u}:∀{l:List (Int×u)},(l.map (·.1)).Nodup->(p,x)∈l->(p,y)∈l->x=y
 |[],_,h,_=>by cases h|e::l,t,h1,h2=>by
   rw[map_cons,nodup_cons]at t;rcases mem_cons.mp h1 with h1|h1<;>rcases mem_cons.mp h2 with h2|h2;.rw[<-h2]at h1;cases h1;rfl
   .exact absurd (mem_map.mpr ⟨_,h2,by rw[<-h1]⟩) t.1
   .exact absurd (mem_map.mpr ⟨_,h1,by rw[<-h2]⟩) t.1
   .exact qX t.2 h1 h2
theorem mQ{p:Int}{x:Nat×(Option aq×Int)}:∀{l:List En},(l.map (·.1)).Nodup->(p,x)∈l->ju (l.map en) p=some (zp (p,x))
 |[],_,h=>by cases h|e::l,t,h=>by
   have u:=t;rw[map_cons,nodup_cons]at t;unfold ju;rw[map_cons,find?_cons];by_cases c:e.1=p;.obtain⟨q,y⟩:=e;cases c;have:=qX u h (by simp:(q,y)∈(q,y)::l);subst this;simp[en]
   . have h':(p,x)∈l:=by
      rcases mem_cons.mp h with h|h;.exact absurd (by rw[<-h]) c
      .exact h
     simp[en,c];have:=mQ t.2 h';unfold ju at this;simpa[en]using this
theorem pA{kvs:List (Int×D)}{d:D}(h:pJ kvs p=false):eU kvs p d=kvs++[(p,d)]:=by
 unfold eU;rw[if_neg];intro t;obtain⟨x,u,e⟩:=any_eq_true.mp t;have:pJ kvs p=true:=by show(kvs.map (·.1)).contains p=true;rw[List.contains_iff_mem];exact mem_map.mpr ⟨x,u,by simpa using e⟩
 rw[this]at h;cases h
theorem uA{kvs:List (Int×D)}{d:D}(h:pJ kvs p=true):eU kvs p d=kvs.map λe=>if e.1=p then(p,d)else e:=by
 unfold eU;rw[if_pos]
 . refine map_congr_left λe _=>?_;by_cases c:e.1=p;.simp[c]
   .simp[c]
 .have h':(kvs.map (·.1)).contains p=true:=h;rw[List.contains_iff_mem]at h';obtain⟨x,t,e⟩:=mem_map.mp h';exact any_eq_true.mpr ⟨x,t,by simpa using e⟩
def uM(p:Int)(x:Nat×(Option aq×Int))(e:En):En:=if e.1=p then(p,x)else e
def mq(es:List En)(p:Int)(x:Nat×(Option aq×Int)):List En:=if p∈es.map (·.1)then es.map (uM p x)else es++[(p,x)]
def pg(ch:List Int)(p:Int):List Int:=if p∈ch then ch else ch++[p]
theorem Hr:eU (es.map en) p (zp (p,x))=(mq es p x).map en:=by
 have h:pJ (es.map en) p=true↔p∈es.map (·.1):=by show(G4 (es.map en)).contains p=true↔_;rw[xr,List.contains_iff_mem]
 unfold mq;by_cases c:p∈es.map (·.1)
 . rw[if_pos c,uA (h.mpr c),map_map,map_map];refine map_congr_left λe _=>?_;show(if e.1=p then _ else _)=en (uM p x e);unfold uM;by_cases z:e.1=p;.rw[if_pos z,if_pos z];rfl
   .rw[if_neg z,if_neg z]
 .rw[if_neg c,pA (by cases e:pJ (es.map en) p with|false=>rfl|true=>exact absurd (h.mp e) c)];simp[en]
theorem JB:eU (ch.map xm) p (.bl true)=(pg ch p).map xm:=by
 have h:pJ (ch.map xm) p=true↔p∈ch:=by show(G4 (ch.map xm)).contains p=true↔_;rw[Qg,List.contains_iff_mem]
 unfold pg;by_cases c:p∈ch
 . rw[if_pos c,uA (h.mpr c),map_map];refine map_congr_left λe _=>?_;show(if e=p then _ else _)=xm e;by_cases z:e=p;.rw[if_pos z,z];rfl
   .rw[if_neg z]
 .rw[if_neg c,pA (by cases e:pJ (ch.map xm) p with|false=>rfl|true=>exact absurd (h.mp e) c)];simp[xm]
theorem vd{q:Int}:q∈pg ch p↔q∈ch\/q=p:=by
 unfold pg;split;.exact⟨.inl,λh=>h.elim id λe=>by rw[e];assumption⟩
 .simp
theorem zx(h:ch.Nodup):(pg ch p).Nodup:=by
 unfold pg;split;.exact h
 .rename_i t;rw[nodup_append];exact⟨h,by simp,λa u b y e=>t (by rw[<-mem_singleton.mp y,<-e];exact u)⟩
theorem An:(mq es p x).map (·.1)=pg (es.map (·.1)) p:=by
 unfold mq pg;split
 . rw[map_map];refine map_congr_left λe _=>?_;show(uM p x e).1=e.1;unfold uM;split;.rename_i h;exact h.symm
   .rfl
 .simp
theorem dZ{q:Int}{y:Nat×(Option aq×Int)}:(q,y)∈mq es p x↔(q=p/\y=x)\/(q≠p/\(q,y)∈es):=by
 unfold mq;split
 . rename_i t;obtain⟨C,u,z⟩:=mem_map.mp t;rw[mem_map];constructor
   . rintro⟨e,he,h⟩;unfold uM at h;split at h;.cases h;exact .inl ⟨rfl,rfl⟩
     .rename_i A;subst h;exact .inr ⟨A,he⟩
   . rintro(⟨rfl,rfl⟩|⟨h1,B⟩);.exact⟨C,u,by unfold uM;rw[if_pos z]⟩
     .exact⟨_,B,by unfold uM;rw[if_neg h1]⟩
 . rename_i t;rw[mem_append,mem_singleton];constructor
   . rintro(h|h);.refine .inr ⟨λe=>t ?_,h⟩;rw[<-e];exact mem_map.mpr ⟨_,h,rfl⟩
     .cases h;exact .inl ⟨rfl,rfl⟩
   . rintro(⟨rfl,rfl⟩|⟨_,B⟩);.exact .inr rfl
     .exact .inl B
theorem j7{h:Type}[BEq h][LawfulBEq h]:∀{l l2:List h},l.Nodup->(∀a∈l,a∈l2)->l.length<=l2.length
 |[],_,_,_=>pG|a::l,l2,z,hs=>by
   have u:=hs a (by simp);have e:=nodup_cons.mp z;have:=j7 (l:=l) (l2:=l2.erase a) e.2 λb y=>by
    have t:b≠a:=by rintro rfl;exact e.1 y
    exact(List.mem_erase_of_ne t).mpr (hs b (by simp[y]))
   rw[List.length_erase_of_mem u]at this;have:=List.length_pos_of_mem u;simp only[length_cons];omega
theorem six{l:List Int}(m1:m<=6)(e:l.Nodup)(h:∀p∈l,0<=p/\p<m):l.length<=6:=by
 have:=j7 (l2:=[0,1,2,3,4,5]) e λq t=>by
  have:=h q t;have:q=0\/q=1\/q=2\/q=3\/q=4\/q=5:=by omega
  simpa using this
 simpa using this
theorem oF{fs:List Int}(h:iV ws fs p s=true):∃v g,ws[s.1]?=some v/\fs[s.1]?=some g/\frm v s.2=p/\0<lY v g s.2:=by
 unfold iV at h;split at h;.rename_i v g e t;simp at h;exact⟨v,g,e,t,h.1,h.2⟩
 .cases h
theorem vf(h:s.1<N):s∈fj N:=by unfold fj;rw[List.mem_flatMap];refine⟨s.1,by simp[h],?_⟩;obtain⟨j,f⟩:=s;cases f<;>simp
def fW(ws:List Wy)(b:Int):List aq->Int->Prop|[],a=>a=b|s::c,a=>∃v,ws[s.1]?=some v/\frm v s.2=a/\fW ws b c (too v s.2)
def hst(ws:List Wy)(s:aq):Int:=match ws[s.1]?with|some v=>hsp v s.2|none=>0
theorem fC(e:ws[s.1]?=some v):hst ws s=hsp v s.2:=by unfold hst;rw[e]
def bu(ws:List Wy):List aq->Int|[]=>0|s::c=>hst ws s+bu ws c
theorem iR{ws:List Wy}{c2:List aq}:∀{c1:List aq},bu ws (c1++c2)=bu ws c1+bu ws c2|[]=>by simp[bu]|s::c=>by rw[cons_append,bu,iR,bu];omega
def qC(ws:List Wy)(fs:List Int)(c:List aq):Prop:=∀s∈c,∃v,ws[s.1]?=some v/\iV ws fs (frm v s.2) s=true
theorem fW.app{ws:List Wy}{b q:Int}{c2:List aq}(t:fW ws b c2 q):∀{c1:List aq}{a:Int},fW ws q c1 a->fW ws b (c1++c2) a|[],a,h=>by have:a=q:=h;rw[this];exact t|s::c,a,⟨v,e,u,h⟩=>⟨v,e,u,fW.app t h⟩
theorem zK{ws:List Wy}{b:Int}{c2:List aq}:∀{c1:List aq}{a:Int},fW ws b (c1++c2) a->∃q,fW ws q c1 a/\fW ws b c2 q|[],a,h=>⟨a,rfl,h⟩|s::c,a,⟨v,e,t,h⟩=>by obtain⟨q,h1,u⟩:=zK (c1:=c) h;exact⟨q,⟨v,e,t,h1⟩,u⟩
def Pt(ws:List Wy)(fs:List Int)(F:Int->Int):Prop:=∀(s:aq)(v:Wy),ws[s.1]?=some v->iV ws fs (frm v s.2) s=true->F (too v s.2)<=F (frm v s.2)+hsp v s.2
theorem lu{ws:List Wy}{fs:List Int}{F:Int->Int}(h:Pt ws fs F){b:Int}:∀{c:List aq}{a:Int},fW ws b c a->qC ws fs c->F b<=F a+bu ws c|[],a,t,_=>by have:a=b:=t;rw[this,bu];omega|s::c,a,⟨v,e,z,t⟩,ho=>by have h1:=lu h t λu A=>ho u (mem_cons_of_mem _ A);obtain⟨C,y,o⟩:=ho s (by simp);rw[e]at y;cases y;have B:=h s v e o;rw[z]at B;rw[bu,fC e];omega
def xR(ws:List Wy)(s:aq):Int:=match ws[s.1]?with|some v=>too v s.2|none=>0
def uO(ws:List Wy):List aq->Int->List Int|[],a=>[a]|s::c,a=>a::uO ws c (xR ws s)
theorem yZ{ws:List Wy}:∀{c:List aq}{a:Int},(uO ws c a).length=c.length+1|[],_=>rfl|s::c,a=>by rw[uO,length_cons,yZ];rfl
theorem Ey{m:Int}{ws:List Wy}{b:Int}(t:HN m ws):∀{c:List aq}{a:Int},fW ws b c a->0<=a/\a<m->∀q∈uO ws c a,0<=q/\q<m
 |[],a,_,h,q,hq=>by rw[uO,mem_singleton]at hq;rw[hq];exact h|s::c,a,⟨v,e,y,u⟩,h,q,hq=>by
   rw[uO,mem_cons]at hq;rcases hq with rfl|hq;.exact h
   . have:xR ws s=too v s.2:=by unfold xR;rw[e]
     rw[this]at hq;exact Ey t u (FQ t e s.2) q hq
theorem zT{ws:List Wy}{b q:Int}:∀{c:List aq}{a:Int},fW ws b c a->q∈uO ws c a->∃c1 c2,c=c1++c2/\fW ws q c1 a/\fW ws b c2 q
 |[],a,h,hq=>by rw[uO,mem_singleton]at hq;exact⟨[],[],rfl,hq.symm,by rw[hq];exact h⟩|s::c,a,h,hq=>by
   rw[uO,mem_cons]at hq;rcases hq with rfl|hq;.exact⟨[],s::c,rfl,rfl,h⟩
   . obtain⟨v,e,t,u⟩:=h;have:xR ws s=too v s.2:=by unfold xR;rw[e]
     rw[this]at hq;obtain⟨c1,c2,rfl,h1,y⟩:=zT u hq;exact⟨s::c1,c2,rfl,⟨v,e,t,h1⟩,y⟩
theorem zr{ws:List Wy}{b:Int}:∀{c:List aq}{a:Int},fW ws b c a->¬(uO ws c a).Nodup->∃c1 c2 c3 q,c=c1++(c2++c3)/\0<c2.length/\fW ws q c1 a/\fW ws q c2 q/\fW ws b c3 q
 |[],a,_,h=>absurd (by simp[uO]) h|s::c,a,⟨v,e,u,y⟩,h=>by
   have B:xR ws s=too v s.2:=by unfold xR;rw[e]
   rw[uO,B,nodup_cons]at h;by_cases A:a∈uO ws c (too v s.2);.obtain⟨c1,c2,rfl,h1,t⟩:=zT y A;exact⟨[],s::c1,c2,a,rfl,by simp,rfl,⟨v,e,u,h1⟩,t⟩
   .obtain⟨c1,c2,c3,q,rfl,h0,h1,t,C⟩:=zr y λz=>h ⟨A,z⟩;exact⟨s::c1,c2,c3,q,rfl,h0,⟨v,e,u,h1⟩,t,C⟩
def Le(h:Int)(n:Nat)(h':Int)(e:Nat):Prop:=h<h'\/(h=h'/\n<=e)
theorem Le.refl{h:Int}:Le h n h n:=.inr ⟨rfl,bN⟩
theorem Le.trans{c:Int}{k:Nat}(h1:Le a k b l)(e:Le b l c n):Le a k c n:=by unfold Le at*;omega
theorem Le.add{k:Nat}(x:Int)(h1:Le a k b l):Le (a+x) (k+1) (b+x) (l+1):=by unfold Le at*;omega
theorem short{fs:List Int}(z:HN m ws)(h:Pt ws fs F)(A:0<=a/\a<m):∀(n:Nat){c:List aq},c.length<=n->fW ws b c a->qC ws fs c->∃e,fW ws b e a/\qC ws fs e/\e.length<=5/\Le (bu ws e) e.length (bu ws c) c.length/\(uO ws e a).Nodup:=by
 intro n;have done:∀{c:List aq},fW ws b c a->(uO ws c a).Nodup->c.length<=5:=λt u=>by have:=six z.m1 u (Ey z t A);rw[yZ]at this;omega
 induction n with|zero=>intro c hc t ho;have:c=[]:=List.eq_nil_of_length_eq_zero (by omega);subst this;exact⟨[],t,ho,by simp,.refl,by simp[uO]⟩|succ n B=>
   intro c hc t ho;by_cases u:(uO ws c a).Nodup;.exact⟨c,t,ho,done t u,.refl,u⟩
   .obtain⟨c1,c2,c3,q,rfl,h0,h1,C,E⟩:=zr t u;have y:qC ws fs c2:=λs hs=>ho s (by simp[hs]);have hr:=lu h C y;simp only[length_append]at hc;obtain⟨e,G,H,I,J,L⟩:=B (c:=c1++c3) (by simp only[length_append];omega) (fW.app E h1) λs hs=>ho s (by rcases mem_append.mp hs with hs|hs<;>simp[hs]);refine⟨e,G,H,I,J.trans ?_,L⟩;rw[iR,iR,iR];simp only[length_append];unfold Le;omega
structure Az(m:Int)(ws:List Wy)(fs:List Int)(bs:List (Int×Int))(es:List En):Prop where
 nd:(es.map (·.1)).Nodup
 Lw:∀p l o,(p,l,o)∈es->0<=p/\p<m
 z:(0,0,(none,0))∈es
 wk:∀p l o,(p,l,o)∈es->∃a b c,(a,b)∈bs/\fW ws p c a/\qC ws fs c/\c.length=l/\b+bu ws c=o.2
 stp:∀p l o,(p,l,o)∈es->(o.1=none/\(p,o.2)∈bs/\l=0)\/∃(s:aq)(v:Wy)(l':Nat)(o':Option aq×Int),o.1=some s/\ws[s.1]?=some v/\too v s.2=p/\iV ws fs (frm v s.2) s=true/\(frm v s.2,l',o')∈es/\Le (o'.2+hsp v s.2) (l'+1) o.2 l
theorem Az.len{fs:List Int}{bs:List (Int×Int)}(h:Az m ws fs bs es)(m1:m<=6):es.length<=6:=by
 have:=six m1 h.nd λp e=>by obtain⟨⟨p,l,o⟩,he,rfl⟩:=mem_map.mp e;exact h.Lw p l o he
 simpa using this
theorem gY{l:List En}{a b:Nat}{u:Option aq×Int}(e:(l.map (·.1)).Nodup)(h1:(p,a,o)∈l)(h:(p,b,u)∈l):a=b/\o=u:=by have:=qX e h1 h;cases this;exact⟨rfl,rfl⟩
def At(es:List En)(p h:Int)(n:Nat):Prop:=∃l o,(p,l,o)∈es/\Le o.2 l h n
theorem At.le{h h':Int}{e:Nat}(a:At es p h n)(z:Le h n h' e):At es p h' e:=by obtain⟨l,o,h1,t⟩:=a;exact⟨l,o,h1,t.trans z⟩
structure Wh(m:Int)(ws:List Wy)(fs:List Int)(bs:List (Int×Int))(n:Nat)(R:List Int)(es:List En):Prop where
 cm:Az m ws fs bs es
 row:∀p∈R,∃l o,(p,l,o)∈es
 nr:R.Nodup
 wl:∀a b c p,(a,b)∈bs->fW ws p c a->qC ws fs c->c.length<=n->At es p (b+bu ws c) c.length
 cl:∀l o(s:aq)v,ws[s.1]?=some v->frm v s.2∉R->(frm v s.2,l,o)∈es->iV ws fs (frm v s.2) s=true->At es (too v s.2) (o.2+hsp v s.2) (l+1)few:6<=n->R=[]
structure In(m:Int)(ws:List Wy)(fs:List Int)(bs:List (Int×Int))(n:Nat)(R:List Int)(qW:List En)(K:aq->Prop)(es:List En)(ch:List Int):Prop where
 wh:Wh m ws fs bs n R qW
 cm:Az m ws fs bs es
 le:∀p l o,(p,l,o)∈qW->At es p o.2 l
 out:∀p l o,p∉ch->(p,l,o)∈es->(p,l,o)∈qW
 chg:∀p∈ch,∃l o,(p,l,o)∈es
 nc:ch.Nodup
 dn:∀s,K s->∀v,ws[s.1]?=some v->∀l o,(frm v s.2,l,o)∈qW->At es (too v s.2) (o.2+hsp v s.2) (l+1)few:5<=n->ch=[]
theorem In.row{m:Int}{ws:List Wy}{fs:List Int}{bs:List (Int×Int)}{n:Nat}{R:List Int}{qW:List En}{K:aq->Prop}{es:List En}{ch:List Int}(h:In m ws fs bs n R qW K es ch){p:Int}(e:p∈R):∃l o,(p,l,o)∈es:=by obtain⟨l,o,z⟩:=h.wh.row p e;obtain⟨l,o,z,_⟩:=h.le _ _ _ z;exact⟨l,o,z⟩
theorem In.keep{fs:List Int}{bs:List (Int×Int)}{R:List Int}{K:aq->Prop}(h:In m ws fs bs n R qW K es ch)(e:ws[s.1]?=some v)(z:(frm v s.2,l,o)∈es)(A:At es (too v s.2) (o.2+hsp v s.2) (l+1)):In m ws fs bs n R qW (λu=>K u\/u=s) es ch:=by
 refine⟨h.wh,h.cm,h.le,h.out,h.chg,h.nc,λu t=>?_,h.few⟩;rcases t with t|rfl;.exact h.dn u t
 .intro E y G H h0;rw[e]at y;cases y;obtain⟨I,J,B,C⟩:=h.le _ _ _ h0;obtain⟨rfl,rfl⟩:=gY h.cm.nd z B;exact A.le (C.add _)
theorem In.put{fs:List Int}{bs:List (Int×Int)}{R:List Int}{K:aq->Prop}(h:In m ws fs bs n R qW K es ch)(L:HN m ws)(hF:Pt ws fs F)(hb:∀a b,(a,b)∈bs->0<=a/\a<m)(hZ:∀a b c,(a,b)∈bs->fW ws 0 c a->qC ws fs c->0<=b+bu ws c)(e:ws[s.1]?=some v)(M:(frm v s.2,l,o)∈es)(ho:iV ws fs (frm v s.2) s=true)(O:¬ At es (too v s.2) (o.2+hsp v s.2) (l+1)):In m ws fs bs n R qW (λu=>K u\/u=s) (mq es (too v s.2) (l+1,(some s,o.2+hsp v s.2))) (pg ch (too v s.2)):=by
 have m0:=L.m0;obtain⟨E,b0,c,c0,c1,c2,c3,c4⟩:=h.cm.wk _ _ _ M;have H:fW ws (too v s.2) (c++[s]) E:=fW.app (c2:=[s]) ⟨v,e,rfl,rfl⟩ c1;have U:qC ws fs (c++[s]):=λu hu=>by
  rcases mem_append.mp hu with hu|hu;.exact c2 u hu
  .rw[mem_singleton.mp hu];exact⟨v,e,ho⟩
 have w3:(c++[s]).length=l+1:=by simp[c3]
 have X:b0+bu ws (c++[s])=o.2+hsp v s.2:=by rw[iR,<-c4,bu,bu,fC e];omega
 have A:(too v s.2,l+1,(some s,o.2+hsp v s.2))∈mq es (too v s.2) (l+1,(some s,o.2+hsp v s.2)):=dZ.mpr (.inl ⟨rfl,rfl⟩);have mono:∀{q l2 t},(q,l2,t)∈es->At (mq es (too v s.2) (l+1,(some s,o.2+hsp v s.2))) q t.2 l2:=λ{q l2 t}z=>by
  by_cases c:q=too v s.2;.subst c;refine⟨_,_,A,?_⟩;have:¬ Le t.2 l2 (o.2+hsp v s.2) (l+1):=λy=>O ⟨_,_,z,y⟩;unfold Le at this ⊢;simp only;omega
  .exact⟨l2,t,dZ.mpr (.inr ⟨c,z⟩),.refl⟩
 have Lz:∀{q h n},At es q h n->At (mq es (too v s.2) (l+1,(some s,o.2+hsp v s.2))) q h n:=λ⟨l2,t,G,Y⟩=>(mono G).le Y;refine⟨h.wh,⟨by rw[An];exact zx h.cm.nd,λp l o z=>?_,?_,λp l2 t z=>?_,λp l2 t z=>?_⟩,λp l o z=>Lz (h.le p l o z),λp l o hc z=>?_,λp hc=>?_,zx h.nc,λu hu=>?_,λh5=>?_⟩
 . rcases dZ.mp z with⟨rfl,_⟩|⟨_,z⟩;.exact FQ L e s.2
   .exact h.cm.Lw p l o z
 .refine dZ.mpr (.inr ⟨λz=>O ?_,h.cm.z⟩);have:=hZ E b0 _ c0 (by rw[<-z]at H;exact H) U;rw[X]at this;rw[<-z];exact⟨_,_,h.cm.z,by unfold Le;simp only;omega⟩
 . rcases dZ.mp z with⟨rfl,y⟩|⟨_,z⟩;.cases y;exact⟨E,b0,_,c0,H,U,w3,X⟩
   .exact h.cm.wk p l2 t z
 . rcases dZ.mp z with⟨rfl,y⟩|⟨_,z⟩;.cases y;obtain⟨l',o',B,C⟩:=mono M;exact .inr ⟨s,v,l',o',rfl,e,rfl,ho,B,C.add _⟩
   . rcases h.cm.stp p l2 t z with z|⟨s',I,l',o',G,z3,z4,z5,z6,z7⟩;.exact .inl z
     .obtain⟨Z,o3,B,C⟩:=mono z6;exact .inr ⟨s',I,Z,o3,G,z3,z4,z5,B,(C.add _).trans z7⟩
 . rw[vd,not_or]at hc;rcases dZ.mp z with⟨rfl,_⟩|⟨_,z⟩;.exact absurd rfl hc.2
   .exact h.out p l o hc.1 z
 . rcases vd.mp hc with hc|rfl;.obtain⟨l2,t,z⟩:=h.chg p hc;obtain⟨Z,o3,z,_⟩:=mono z;exact⟨Z,o3,z⟩
   .exact⟨_,_,A⟩
 . rcases hu with hu|rfl;.exact λI J l0 o0 h0=>Lz (h.dn u hu I J l0 o0 h0)
   .intro I J l0 o0 h0;rw[e]at J;cases J;obtain⟨l1,o1,B,C⟩:=h.le _ _ _ h0;obtain⟨rfl,rfl⟩:=gY h.cm.nd M B;exact⟨_,_,A,C.add _⟩
 .obtain⟨c',B,C,q3,q4,_⟩:=short L hF (hb E b0 c0) _ (bN) H U;obtain⟨l1,o1,G,Y⟩:=h.wh.wl E b0 c' _ c0 B C (by omega);rw[w3]at q4;refine absurd ((h.le _ _ _ G).le (Y.trans ?_)) O;rw[<-X];unfold Le at q4 ⊢;omega
def bE(p:Int×Int):En:=(p.1,0,(none,p.2))
theorem Wh.start{fs:List Int}{bs:List (Int×Int)}(A:∀a b,(a,b)∈bs->0<=a/\a<m)(h0:(0,0)∈bs)(y:(bs.map (·.1)).Nodup):Wh m ws fs bs 0 (bs.map (·.1)) (bs.map bE):=by
 have B:(bs.map bE).map (·.1)=bs.map (·.1):=by rw[map_map];rfl
 have un:∀{p l o},(p,l,o)∈bs.map bE->l=0/\o.1=none/\(p,o.2)∈bs:=λ{p l o}z=>by obtain⟨⟨a,b⟩,h1,e⟩:=mem_map.mp z;cases e;exact⟨rfl,rfl,h1⟩
 have to:∀{a b},(a,b)∈bs->(a,0,(none,b))∈bs.map bE:=λh=>mem_map.mpr ⟨_,h,rfl⟩;refine⟨⟨by rw[B];exact y,λp l o z=>A _ _ (un z).2.2,to h0,λp l o z=>?_,λp l o z=>.inl ⟨(un z).2.1,(un z).2.2,(un z).1⟩⟩,λp t=>?_,y,λa b c p u t _ hc=>?_,λl o s v _ C z=>?_,λh=>by omega⟩;.exact⟨p,o.2,[],(un z).2.2,rfl,λs hs=>(by cases hs),(un z).1.symm,by rw[bu];omega⟩
 .obtain⟨⟨a,b⟩,h1,rfl⟩:=mem_map.mp t;exact⟨_,_,to h1⟩
 .cases c with|nil=>have:a=p:=t;subst this;exact⟨0,(none,b),to u,by unfold Le bu;simp⟩|cons _ _=>simp at hc
 .exact absurd (mem_map.mpr ⟨_,(un z).2.2,rfl⟩) C
theorem Wh.to{fs:List Int}{bs:List (Int×Int)}{R:List Int}(h:Wh m ws fs bs n R es):In m ws fs bs n R es (λ_=>False) es []:=⟨h,h.cm,λp l o z=>⟨l,o,z,.refl⟩,λp l o _ z=>z,λp e=>(by cases e),.nil,λs hs=>hs.elim,λ_=>rfl⟩
theorem In.out'{fs:List Int}{bs:List (Int×Int)}{R:List Int}(h:In m ws fs bs n R qW (λs=>∃p∈R,iV ws fs p s=true) es ch):Wh m ws fs bs (n+1) ch es:=by
 have t:∀{p h' k},At qW p h' k->At es p h' k:=λ⟨l,o,A,B⟩=>(h.le _ _ _ A).le B;have G:∀(s:aq)v l o,ws[s.1]?=some v->(frm v s.2,l,o)∈qW->iV ws fs (frm v s.2) s=true->At es (too v s.2) (o.2+hsp v s.2) (l+1):=λs v l o e z ho=>by
  by_cases c:frm v s.2∈R;.exact h.dn s ⟨_,c,ho⟩ v e l o z
  .exact t (h.wh.cl l o s v e c z ho)
 refine⟨h.cm,h.chg,h.nc,λa b c p y H ho hc=>?_,λl o s v e hc z hs=>G s v l o e (h.out _ _ _ hc z) hs,λO=>h.few (by omega)⟩;rcases List.eq_nil_or_concat c with rfl|⟨C,s,rfl⟩;.exact t (h.wh.wl a b [] p y H ho (pG))
 . rw[List.concat_eq_append]at*;obtain⟨q,h1,v,e,rfl,E⟩:=zK H;have E:too v s.2=p:=E;subst E;obtain⟨U,I,J⟩:=ho s (by simp);rw[e]at I;cases I;simp only[length_append,length_cons,length_nil]at hc;obtain⟨l,o,A,B⟩:=h.wh.wl a b C _ y h1 (λu L=>ho u (by simp[L])) (by omega);refine(G s v l o e A J).le ?_;have:=B.add (hsp v s.2);have M:bu ws (C++[s])=bu ws C+hsp v s.2:=by rw[iR,bu,bu,fC e];omega
   rw[M,<-Int.add_assoc];simpa using this
structure Fq(m:Int)(ws:List Wy)(fs:List Int)(bs:List (Int×Int))(es:List En):Prop where
 cm:Az m ws fs bs es
 cl:∀l o(s:aq)v,ws[s.1]?=some v->(frm v s.2,l,o)∈es->iV ws fs (frm v s.2) s=true->At es (too v s.2) (o.2+hsp v s.2) (l+1)bg:∀a b,(a,b)∈bs->At es a b 0
theorem Wh.fin{fs:List Int}{bs:List (Int×Int)}(h:Wh m ws fs bs n [] es):Fq m ws fs bs es:=⟨h.cm,λl o s v e z ho=>h.cl l o s v e (by simp) z ho,λa b t=>by have:=h.wl a b [] a t rfl (λs hs=>by cases hs) (pG);simpa[bu]using this⟩
abbrev Cme(m:Int)(ws:List Wy)(fs:List Int)(es:List En):Prop:=Az m ws fs [(0,0)] es
abbrev gb(m:Int)(ws:List Wy)(fs:List Int)(es:List En):Prop:=Fq m ws fs [(0,0)] es
theorem In.imp{fs:List Int}{bs:List (Int×Int)}{R:List Int}{K e:aq->Prop}(h:In m ws fs bs n R qW K es ch)(z:∀s,e s->K s):In m ws fs bs n R qW e es ch:=⟨h.wh,h.cm,h.le,h.out,h.chg,h.nc,λs hs=>h.dn s (z s hs),h.few⟩
theorem Qv{fs:List Int}{l:List aq}(e:0<=p/\p<m):at' ((rD (gH ws fs m.toNat l)).map D.lst) p=some (.lst ((l.filter (iV ws fs p)).map sD)):=by rw[xg e.1 (by simp[rD,gH];omega)];simp[rD,gH,show p.toNat<m.toNat by omega,Int.toNat_of_nonneg e.1]
@[simp]theorem cut3{a b c:D}:J8 (.tup [a,b,c]) (part (.con .non) .non) (part (.con (.int 2)) (.int 2))=some (.val (.tup [a,b])):=rfl
theorem PK{j:Int}:cm .lt (.tup [.int a,.int i]) (.tup [.int b,.int j])=some (aN [a,i] [b,j]):=rfl
theorem lex_lt{i:Nat}:aN [a,(i:Int)] [b,(j:Int)]=true↔¬ Le b j a i:=by unfold Le;simp[aN];omega
def vY(bs:List (Int×Int)):Sl:=.val false (.dv (bs.map (·.1)) (bs.map λp=>.int p.2))
abbrev bg:Sl:=vY [(0,0)]
inductive Za(m:Int)(ws:List Wy)(fs:List Int)(bs:List (Int×Int))(a0 a1 a2 a3 a6:Sl)(n:Nat)(R:List Int)(qW:List En)(pre:List Int)(p:Int)(r:List D)(ρ:List Sl):Prop where|mk(es:List En)(ch:List Int)(cA us:List aq)(s8 s9 pI:Sl)(q0:ρ=[a0,a1,a2,a3,.bV (es.map en),.val false (.int p),a6,.bV (ch.map xm),s8,s9,pI])(q1:A3 (fr s8=true) (fr s9=true) (fr pI=true))(q2:r=us.map sD)(q3:cA++us=(fj ws.length).filter (iV ws fs p))(q4:In m ws fs bs n R qW (λs=>(∃q∈pre,iV ws fs q s=true)\/s∈cA) es ch)
inductive JC1(m:Int)(ws:List Wy)(fs:List Int)(bs:List (Int×Int))(a0 a1 a2 a3 a6:Sl)(n:Nat)(R:List Int)(qW:List En)(r:List D)(ρ:List Sl):Prop where|mk(es:List En)(ch pre qs:List Int)(s5 s8 s9 pI:Sl)(q0:ρ=[a0,a1,a2,a3,.bV (es.map en),s5,a6,.bV (ch.map xm),s8,s9,pI])(q1:A4 (fr s5=true) (fr s8=true) (fr s9=true) (fr pI=true))(q2:r=qs.map D.int)(q3:pre++qs=R)(q4:In m ws fs bs n R qW (λs=>∃q∈pre,iV ws fs q s=true) es ch)
inductive JCw(m:Int)(ws:List Wy)(fs:List Int)(bs:List (Int×Int))(a0 a1 a2 a3:Sl)(M:Nat)(ρ:List Sl):Prop where|mk(n:Nat)(R:List Int)(es:List En)(s5 s7 s8 s9 pI:Sl)(q0:ρ=[a0,a1,a2,a3,.bV (es.map en),s5,.own false (R.map D.int),s7,s8,s9,pI])(q1:A4 (fr s5=true) (fr s8=true) (fr s9=true) (fr pI=true))(q2:(s7=.aP\/∃d,s7=.val false d))(q3:Wh m ws fs bs n R es)(q4:7<=n+M)
inductive JC0(a0 a1 a2 a3:Sl)(bs:List (Int×Int))(r:List D)(ρ:List Sl):Prop where|mk(cA us:List (Int×Int))(s5:Sl)(q0:ρ=[a0,a1,a2,a3,.bV ((cA.map bE).map en),s5,.aP,.aP,.aP,.aP,.aP])(q1:fr s5=true)(q2:r=(us.map (·.1)).map D.int)(q3:cA++us=bs)
theorem zA{a b:Int}:∀{bs:List (Int×Int)},(bs.map (·.1)).Nodup->(a,b)∈bs->ju ((bs.map (·.1)).zip (bs.map λp=>D.int p.2)) a=some (.int b)
 |[],_,h=>by cases h|p::bs,e,h=>by
   rw[map_cons,nodup_cons]at e;unfold ju;rw[map_cons,map_cons,List.zip_cons_cons,find?_cons];rcases mem_cons.mp h with h|h;.subst h;simp
   .have t:p.1≠a:=λz=>e.1 (by rw[z];exact mem_map.mpr ⟨_,h,rfl⟩);have:=zA e.2 h;unfold ju at this;simpa[t]using this
theorem Ai{s:Sl}{fs:List Int}{bs:List (Int×Int)}(hw:100<=w)(hF:Pt ws fs F)(hb:∀a b,(a,b)∈bs->0<=a/\a<m)(h0:(0,0)∈bs)(J:(bs.map (·.1)).Nodup)(hZ:∀a b c,(a,b)∈bs->fW ws 0 c a->qC ws fs c->0<=b+bu ws c)(hs:Vm s fs)(h:HN m ws)(hf:fs.length=ws.length)(k:∀es,Fq m ws fs bs es->Q (.val (jH es)) [.val false (bU m ws),s,vY bs]):(run Γ w (n+3) 5 [.val false (bU m ws),s,vY bs]).sat Q:=by
 have hn:=h.len;have m0:=h.m0;have m1:=h.m1;refine bf (d:=f5) rfl rfl (by decide) ?_;refine fX (λρ=>ρ=[.val false (bU m ws),s,vY bs,.val false (.lst ((rD (gH ws fs m.toNat (fj ws.length))).map D.lst)),.aP,.aP,.aP,.aP,.aP,.aP,.aP]) ?_ ?_;.have av:=hs;rcases hs with rfl|⟨b,rfl⟩;all_goals simp[f5,vY];refine DQ (by first|exact .inl rfl|exact .inr ⟨_,rfl⟩) h hf ?_;simp
 rintro _ rfl;generalize hA:((rD (gH ws fs m.toNat (fj ws.length))).map D.lst)=A;have aw:bs.length<=6:=by
  have:=six m1 J λp hp=>by obtain⟨⟨a,b⟩,h1,rfl⟩:=mem_map.mp hp;exact hb a b h1
  simpa using this
 apply ak;simp;apply ak;simp[vY];refine bW (JC0 (.val false (bU m ws)) s (vY bs) (.val false (.lst A)) bs) ?_ ?_ ⟨[],bs,.aP,rfl,rfl,by rw[map_map],rfl⟩;.rintro d r _⟨G,C,s5,rfl,U,hr,hd⟩;cases C with|nil=>cases hr|cons u C=>
     obtain⟨rfl,rfl⟩:d=.int u.1/\r=(C.map (·.1)).map D.int:=by simpa using hr
     have ai:(G++[u])++C=bs:=by rw[append_assoc];exact hd
     have hg:=zA (a:=u.1) (b:=u.2) J (by rw[<-hd];simp);have hk:pJ ((G.map bE).map en) u.1=false:=kin_no λ⟨l,o,z⟩=>by obtain⟨⟨a,b⟩,h1,e⟩:=mem_map.mp z;cases e;rw[<-hd,map_append,nodup_append]at J;exact J.2.2 u.1 (mem_map.mpr ⟨_,h1,rfl⟩) u.1 (by simp) rfl
     have hp:eU ((G.map bE).map en) u.1 (.tup [.int u.2,.int 0,.non])=((G++[u]).map bE).map en:=by rw[pA hk,map_append,map_append];rfl
     have ax:G.length<=bs.length:=by rw[<-hd];simp
     simp[U];apply ak;rw[map_map]at hp;simp[vY,hg];refine⟨λ_=>⟨G++[u],C,.val false (.int u.1),by rw[hp],rfl,(map_map ..).symm,ai⟩,by show _<16777216;omega⟩
 rintro _⟨G,C,s5,rfl,U,hr,hd⟩;have:C=[]:=by cases C with|nil=>rfl|cons _ _=>cases hr
 subst this;rw[append_nil]at hd;obtain rfl:bs=G:=hd.symm;simp;apply ak;simp[vY,show bs.length<=16777216 by omega];apply ak;simp;rw[show map (en ∘ bE) bs=(bs.map bE).map en from(map_map ..).symm,show map (D.int ∘ λx=>x.1) bs=(bs.map (·.1)).map D.int from(map_map ..).symm];refine gZ (JCw m ws fs bs _ _ _ _) ?_ (k:=w) (m:=50) (by omega) ⟨0,bs.map (·.1),bs.map bE,s5,.aP,.aP,.aP,.aP,rfl,⟨U,rfl,rfl,rfl⟩,.inl rfl,Wh.start hb h0 J,by omega⟩;rintro M _⟨n',R,es,s5,s7,s8,s9,pI,rfl,⟨U,X,Y,E⟩,h7,hW,hM⟩;by_cases hR:R=[];.subst hR;simp;apply ak;simp;have:=k es hW.fin;simp[Function.comp_def,en];exact this
 . have al:0<R.length:=by cases R with|nil=>exact absurd rfl hR|cons _ _=>simp
   simp[al];refine fX (λρ=>ρ=[.val false (bU m ws),s,vY bs,.val false (.lst A),.bV (es.map en),s5,.own false (R.map D.int),.bV [],s8,s9,pI]) ?_ ?_
   . rcases h7 with rfl|⟨d,rfl⟩;.simp[vY]
     .simp[vY]
   rintro _ rfl;symm;simp;refine bW (JC1 m ws fs bs _ _ _ _ _ n' R es) ?_ ?_ ⟨es,[],[],R,s5,s8,s9,pI,rfl,⟨U,X,Y,E⟩,rfl,rfl,hW.to.imp λs hs=>by obtain⟨q,hq,_⟩:=hs;cases hq⟩;.rintro d r _⟨t,ch,pre,qs,s5,s8,s9,pI,rfl,⟨U,X,Y,E⟩,hr,L,B⟩;cases qs with|nil=>cases hr|cons p qs=>
       obtain⟨rfl,rfl⟩:d=.int p/\r=qs.map D.int:=by simpa using hr
       have ah:p∈R:=by rw[<-L];simp
       have am:0<=p/\p<m:=by obtain⟨l,o,ho⟩:=B.row ah;exact B.cm.Lw _ _ _ ho
       have ae:=Qv (ws:=ws) (fs:=fs) (l:=fj ws.length) am;rw[hA]at ae;simp[U];apply ak;simp[ae];refine bW (Za m ws fs bs _ _ _ _ _ n' R es pre p) ?_ ?_ ⟨t,ch,[],_,s8,s9,pI,rfl,⟨X,Y,E⟩,rfl,rfl,B.imp λs hs=>by rcases hs with hs|hs;exact hs;cases hs⟩;.rintro d r _⟨t,ch,G,C,s8,s9,pI,rfl,⟨X,Y,E⟩,hr,O,B⟩;cases C with|nil=>cases hr|cons u C=>
           obtain⟨rfl,rfl⟩:d=sD u/\r=C.map sD:=by simpa using hr
           have hu:iV ws fs p u=true:=by
            have:u∈(fj ws.length).filter (iV ws fs p):=by rw[<-O];simp
            exact(List.mem_filter.mp this).2
           obtain⟨v,g,e1,e2,e3,e4⟩:=oF hu;have Wx:(G++[u])++C=(fj ws.length).filter (iV ws fs p):=by rw[append_assoc];exact O
           obtain⟨I,op,af⟩:=B.row ah;subst e3;have gp:=mQ B.cm.nd af;have ar:=B.cm.len m1;have ap:ch.length<=6:=six m1 B.nc λq hq=>by obtain⟨l,o,z⟩:=B.chg q hq;exact B.cm.Lw _ _ _ z
           have Wz:∀s,((∃q∈pre,iV ws fs q s=true)\/s∈G++[u])->((∃q∈pre,iV ws fs q s=true)\/s∈G)\/s=u:=λs hs=>by
            rcases hs with hs|hs;.exact .inl (.inl hs)
            . rcases mem_append.mp hs with hs|hs;.exact .inl (.inr hs)
              .exact .inr (by simpa using hs)
           simp[X];apply ak;simp[sD];refine jA e1 ?_;simp[Y];apply ak;simp[gp,zp];refine ql e1 ?_;simp[gp,zp,E];apply ak;have keep:At t (too v u.2) (op.2+hsp v u.2) (I+1)->Za m ws fs bs (.val false (bU m ws)) s (vY bs) (.val false (.lst A)) (.lent (R.map D.int)) n' R es pre (frm v u.2) (C.map sD) [.val false (bU m ws),s,vY bs,.val false (.lst A),.bV (t.map en),.val false (.int (frm v u.2)),.lent (R.map D.int),.bV (ch.map xm),.val false (du u.1 u.2),.val false (.int (too v u.2)),.val false (.tup [.int (op.2+hsp v u.2),.int ((I:Int)+1)])]:=λH=>⟨t,ch,G++[u],C,_,_,_,rfl,⟨rfl,rfl,rfl⟩,rfl,Wx,(B.keep e1 af H).imp Wz⟩;have WD:¬ At t (too v u.2) (op.2+hsp v u.2) (I+1)->Za m ws fs bs (.val false (bU m ws)) s (vY bs) (.val false (.lst A)) (.lent (R.map D.int)) n' R es pre (frm v u.2) (C.map sD) [.val false (bU m ws),s,vY bs,.val false (.lst A),.bV ((mq t (too v u.2) (I+1,(some u,op.2+hsp v u.2))).map en),.val false (.int (frm v u.2)),.lent (R.map D.int),.bV ((pg ch (too v u.2)).map xm),.val false (du u.1 u.2),.val false (.int (too v u.2)),.val false (.tup [.int (op.2+hsp v u.2),.int ((I:Int)+1)])]:=λH=>⟨_,_,G++[u],C,_,_,_,rfl,⟨rfl,rfl,rfl⟩,rfl,Wx,(B.put h hF hb hZ e1 af hu H).imp Wz⟩;have p1:eU (t.map en) (too v u.2) (.tup [.int (op.2+hsp v u.2),.int ((I:Int)+1),du u.1 u.2])=(mq t (too v u.2) (I+1,(some u,op.2+hsp v u.2))).map en:=by rw[<-Hr];simp[zp,oS,sD]
           have p2:eU (ch.map xm) (too v u.2) (.bl true)=(pg ch (too v u.2)).map xm:=JB;by_cases hq:∃l o,(too v u.2,l,o)∈t
           . obtain⟨l,o,Z⟩:=hq;have gt:=mQ B.cm.nd Z;have kt:pJ (t.map en) (too v u.2)=true:=wy.mpr ⟨l,o,Z⟩;have ag:=lex_lt (a:=op.2+hsp v u.2) (i:=I+1) (b:=o.2) (j:=l);rw[show((I+1:Nat):Int)=(I:Int)+1 by omega]at ag;simp[kt,gt,zp,PK];refine⟨λz=>?_,λz=>?_⟩
             . have H:¬ At t (too v u.2) (op.2+hsp v u.2) (I+1):=λ⟨l2,o2,y1,y2⟩=>by obtain⟨rfl,rfl⟩:=gY B.cm.nd Z y1;exact ag.mp z y2
               symm;simp[p1];refine⟨by decide,λ_=>?_,by show _<16777216;omega⟩;symm;simp[p2];refine⟨λ_=>WD H,by show _<16777216;omega⟩
             . have H:At t (too v u.2) (op.2+hsp v u.2) (I+1):=by
                refine⟨l,o,Z,?_⟩;by_cases y:Le o.2 l (op.2+hsp v u.2) (I+1);.exact y
                .rw[ag.mpr y]at z;cases z
               exact keep H
           .have kt:pJ (t.map en) (too v u.2)=false:=kin_no hq;simp[kt];apply ak;simp[p1];refine⟨by decide,λ_=>?_,by show _<16777216;omega⟩;symm;simp[p2];exact⟨λ_=>WD λ⟨l2,o2,y1,_⟩=>hq ⟨l2,o2,y1⟩,by show _<16777216;omega⟩
       . rintro _⟨t,ch,G,C,s8,s9,pI,rfl,⟨X,Y,E⟩,hr,O,B⟩;have:C=[]:=by cases C with|nil=>rfl|cons _ _=>cases hr
         subst this;rw[append_nil]at O;simp;refine⟨t,ch,pre++[p],qs,_,_,_,_,rfl,⟨rfl,X,Y,E⟩,rfl,by rw[append_assoc];exact L,B.imp λs hs=>?_⟩;obtain⟨q,hq,hs⟩:=hs;rcases mem_append.mp hq with hq|hq;.exact .inl ⟨q,hq,hs⟩
         . obtain rfl:q=p:=by simpa using hq
           refine .inr ?_;rw[O];obtain⟨v,g,e1,_⟩:=oF hs;exact List.mem_filter.mpr ⟨vf (dj e1).1,hs⟩
   . rintro _⟨t,ch,pre,qs,s5,s8,s9,pI,rfl,⟨U,X,Y,E⟩,hr,L,B⟩;have:qs=[]:=by cases qs with|nil=>rfl|cons _ _=>cases hr
     subst this;rw[append_nil]at L;subst L;have ap:ch.length<=6:=six m1 B.nc λq hq=>by obtain⟨l,o,z⟩:=B.chg q hq;exact B.cm.Lw _ _ _ z
     have hO:=B.out';have ay:n'<6:=by
      by_cases c:6<=n';.exact absurd (hW.few c) hR
      .omega
     simp;apply ak;simp[show ch.length<=16777216 by omega];exact⟨M-1,by omega,n'+1,ch,t,_,_,_,_,_,rfl,⟨U,X,Y,E⟩,.inr ⟨_,rfl⟩,hO,by omega⟩
theorem uv{s:Sl}{fs:List Int}(u:100<=w)(t:Pt ws fs F)(hs:Vm s fs)(h:HN m ws)(y:fs.length=ws.length)(k:∀es,gb m ws fs es->Q (.val (jH es)) [.val false (bU m ws),s,bg]):(run Γ w (n+3) 5 [.val false (bU m ws),s,bg]).sat Q:=by
 have m0:=h.m0;have one:∀{a b:Int},(a,b)∈[((0:Int),(0:Int))]->a=0/\b=0:=λe=>by have:=mem_singleton.mp e;cases this;exact⟨rfl,rfl⟩
 refine Ai u t (λa b e=>by obtain⟨rfl,rfl⟩:=one e;omega) (by simp) (by simp) (λa b c e z ho=>?_) hs h y k;obtain⟨rfl,rfl⟩:=one e;have:=lu t z ho;omega
theorem gb.all{m:Int}{ws:List Wy}{fs:List Int}{es:List En}(h:gb m ws fs es){b:Int}:∀{c:List aq}{a:Int}{l:Nat}{o:Option aq×Int},fW ws b c a->qC ws fs c->(a,l,o)∈es->At es b (o.2+bu ws c) (l+c.length)|[],a,l,o,t,_,z=>by have:a=b:=t;subst this;exact⟨l,o,z,by unfold Le bu;simp⟩|s::c,a,l,o,⟨v,e,A,t⟩,ho,z=>by subst A;obtain⟨J,y,B⟩:=ho s (by simp);rw[e]at y;cases y;obtain⟨L,M,C,O⟩:=h.cl l o s v e z B;obtain⟨l2,E,G,H⟩:=gb.all h t (λu I=>ho u (mem_cons_of_mem _ I)) C;refine⟨l2,E,G,H.trans ?_⟩;rw[bu,fC e,length_cons];unfold Le at*;omega
theorem gb.l5{fs:List Int}(h:gb m ws fs es)(t:HN m ws)(u:Pt ws fs F)(z:(p,l,o)∈es):l<=5:=by
 have m0:=t.m0;obtain⟨a,b,c,e,c1,c2,c3,c4⟩:=h.cm.wk p l o z;obtain⟨rfl,rfl⟩:a=0/\b=0:=by have:=mem_singleton.mp e;cases this;exact⟨rfl,rfl⟩
 obtain⟨G,y,A,H,B,_⟩:=short t u ⟨by omega,by omega⟩ _ (bN) c1 c2;obtain⟨l2,I,C,E⟩:=h.all y A h.cm.z;obtain⟨rfl,rfl⟩:=gY h.cm.nd z C;rw[Int.zero_add]at c4;rw[c3,c4]at B;unfold Le at*;simp only at E;omega
theorem gb.on{fs:List Int}(h:gb m ws fs es)(z:(p,l,o)∈es):(o=(none,0)/\p=0/\l=0)\/∃(s:aq)(v:Wy)(t:Nat)(e:Option aq×Int),o=(some s,e.2+hsp v s.2)/\l=t+1/\ws[s.1]?=some v/\too v s.2=p/\iV ws fs (frm v s.2) s=true/\(frm v s.2,t,e)∈es:=by
 rcases h.cm.stp p l o z with⟨h1,u,rfl⟩|⟨s,v,t,e,h1,y,rfl,A,B,E⟩
 . obtain⟨rfl,_⟩:p=0/\o.2=0:=by have:=mem_singleton.mp u;exact⟨congrArg Prod.fst this,congrArg Prod.snd this⟩
   exact .inl ⟨(gY h.cm.nd z h.cm.z).2,rfl,rfl⟩
 . obtain⟨l2,G,C,H⟩:=h.cl t e s v y B A;obtain⟨rfl,rfl⟩:=gY h.cm.nd z C;refine .inr ⟨s,v,t,e,?_,?_,y,rfl,A,B⟩;.exact Prod.ext_iff.mpr ⟨h1,by show _=e.2+hsp v s.2;unfold Le at*;omega⟩
   .unfold Le at*;omega
structure Kz(ws:List Wy)(fs:List Int)(es:List En)(p:Int)(L:Nat)(H:Int)(a:Int)(l:Nat)(h:Int)(c:List aq):Prop where
 GR:fW ws p c a
 gH:qC ws fs c
 nd:(c.map (·.1)).Nodup
 lv:∀s∈c,∀v,ws[s.1]?=some v->∃l1 o1 o2,(frm v s.2,l1,o1)∈es/\(too v s.2,l1+1,o2)∈es/\l<=l1
 len:c.length+l=L
 hrs:bu ws c+h=H
theorem jP{g:Bool}(h:g≠f):frm v g=too v f/\too v g=frm v f:=by cases f<;>cases g<;>first|exact absurd rfl h|exact⟨rfl,rfl⟩
theorem Kz.cons{m:Int}{ws:List Wy}{fs:List Int}{es:List En}{p:Int}{L l:Nat}{H x:Int}{c:List aq}{s:aq}{v:Wy}{o I:Option aq×Int}(hc:Cme m ws fs es)(h:Kz ws fs es p L H (too v s.2) (l+1) (x+hsp v s.2) c)(e:ws[s.1]?=some v)(h1:(too v s.2,l+1,o)∈es)(B:(frm v s.2,l,I)∈es)(ho:iV ws fs (frm v s.2) s=true):Kz ws fs es p L H (frm v s.2) l x (s::c):=by
 refine⟨⟨v,e,rfl,h.GR⟩,λu hu=>?_,?_,λu hu x ex=>?_,by have:=h.len;simp only[length_cons];omega,by have:=h.hrs;rw[bu,fC e];omega⟩
 . rcases mem_cons.mp hu with rfl|hu;.exact⟨v,e,ho⟩
   .exact h.gH u hu
 . rw[map_cons,nodup_cons];refine⟨λJ=>?_,h.nd⟩;obtain⟨t,ht,M⟩:=mem_map.mp J;obtain⟨C,E,G,y,A,O⟩:=h.lv t ht v (by rw[M];exact e);by_cases z:t.2=s.2;.rw[z]at y;have:=(gY hc.nd y B).1;omega
   .rw[(jP z).2]at A;have:=(gY hc.nd A B).1;omega
 . rcases mem_cons.mp hu with rfl|hu;.rw[e]at ex;cases ex;exact⟨l,_,_,B,h1,bN⟩
   .obtain⟨C,E,G,y,A,O⟩:=h.lv u hu x ex;exact⟨C,E,G,y,A,by omega⟩
theorem Ga(e:(es.map (·.1)).Nodup)(h:(p,x)∈es):ju ((es.map (·.1)).zip (es.map zp)) p=some (zp (p,x)):=by
 have:(es.map (·.1)).zip (es.map zp)=es.map en:=by rw[List.zip_map'];rfl
 rw[this];exact mQ e h
inductive JSt(m:Int)(ws:List Wy)(fs:List Int)(es:List En)(p:Int)(L:Nat)(H:Int)(a0 a1 a2:Sl)(M:Nat)(ρ:List Sl):Prop where|mk(a:Int)(l:Nat)(o:Option aq×Int)(c:List aq)(s5:Sl)(q0:ρ=[a0,a1,a2,.own false (c.reverse.map sD),.val false (.int a),s5])(q1:fr s5=true)(q2:(a,l,o)∈es)(q3:Kz ws fs es p L H a l o.2 c)(q4:l<=M)
theorem Ba{L:Nat}{fs:List Int}(G:100<=w)(h:gb m ws fs es)(H:L<=5)(B:(p,L,o)∈es)(k:∀c,Kz ws fs es p L o.2 0 0 0 c->Q (.val (.tup (c.map sD))) [.val false (bU m ws),.val false (jH es),.val false (.int p)]):(run Γ w (n+2) 6 [.val false (bU m ws),.val false (jH es),.val false (.int p)]).sat Q:=by
 refine bf (d:=f6) rfl rfl (by decide) ?_;symm;simp[f6];apply ak;simp;apply ak;simp;refine gZ (JSt m ws fs es p L o.2 _ _ _) ?_ (k:=w) (m:=L) (by omega) ⟨p,L,o,[],.aP,rfl,rfl,B,⟨rfl,λs hs=>(by cases hs),by simp,by simp,by simp,by rw[bu];omega⟩,bN⟩;rintro M _⟨a,l,I,c,s5,rfl,C,t,hc,J⟩;have u:=Ga h.cm.nd t;rcases h.on t with⟨rfl,rfl,rfl⟩|⟨s,v,z,E,rfl,rfl,e,rfl,ho,A⟩;.simp[jH,u,zp,oS];symm;simp;exact k c hc
 . simp[jH,u,zp,oS,sD,du];symm;simp[u,zp,oS,C];apply ak;have y:c.length<16777216:=by have:=hc.len;omega
   simp[y];apply ak;simp[sD];refine jA e ?_;simp;exact⟨z,by omega,frm v s.2,z,E,s::c,.val false (du s.1 s.2),by simp[jH,sD],rfl,A,hc.cons h.cm e t A ho,bN⟩
def sg(x:Int)(f:Bool):Int:=if f then x else-x
def kI(x:Int)(fs:List Int)(s:aq):List Int:=fs.set s.1 ((fs[s.1]?.getD 0)+sg x s.2)
def aug(x:Int)(fs:List Int)(c:List aq):List Int:=c.foldl (kI x) fs
@[simp]theorem uT{x:Int}{fs:List Int}{s:aq}:(kI x fs s).length=fs.length:=by simp[kI]
theorem rR{x:Int}:∀{c:List aq}{fs:List Int},(aug x fs c).length=fs.length|[],_=>rfl|s::c,fs=>by show(aug x (kI x fs s) c).length=_;rw[rR,uT]
theorem m7{x:Int}{j:Nat}:∀{c:List aq}{fs:List Int},j∉c.map (·.1)->(aug x fs c)[j]?=fs[j]?|[],_,_=>rfl|s::c,fs,h=>by rw[map_cons,mem_cons,not_or]at h;show(aug x (kI x fs s) c)[j]?=_;rw[m7 h.2];unfold kI;rw[getElem?_set_ne (λz=>h.1 z.symm)]
theorem wj{x:Int}:∀{c:List aq}{fs:List Int}{s:aq}{g:Int},(c.map (·.1)).Nodup->s∈c->fs[s.1]?=some g->(aug x fs c)[s.1]?=some (g+sg x s.2)
 |[],_,_,_,_,h,_=>by cases h|t::c,fs,s,g,u,h,e=>by
   rw[map_cons,nodup_cons]at u;show(aug x (kI x fs t) c)[s.1]?=_;have y:=(dj e).1;rcases mem_cons.mp h with rfl|h;.rw[m7 u.1];unfold kI;rw[getElem?_set_self y,e];rfl
   .refine wj u.2 h ?_;unfold kI;rw[getElem?_set_ne (λz=>u.1 (by rw[z];exact mem_map.mpr ⟨s,h,rfl⟩))];exact e
inductive JWt(x:Int)(fs:List Int)(c:List aq)(a0 a1 a2:Sl)(r:List D)(ρ:List Sl):Prop where|mk(cA us:List aq)(s4 s5:Sl)(q0:ρ=[a0,a1,a2,.own false ((aug x fs cA).map D.int),s4,s5])(q1:fr s4=true)(q2:fr s5=true)(q3:r=us.map sD)(q4:cA++us=c)
theorem Cr{s:Sl}{x:Int}{fs:List Int}(hs:Vm s fs)(hc:∀s∈c,s.1<fs.length)(k:Q (.own ((aug x fs c).map D.int)) [s,.val false (.tup (c.map sD)),.val false (.int x)]):(run Γ w (n+1) 7 [s,.val false (.tup (c.map sD)),.val false (.int x)]).sat Q:=by
 refine bf (d:=f7) rfl rfl (by decide) ?_;refine fX (λρ=>ρ=[s,.val false (.tup (c.map sD)),.val false (.int x),.own false (fs.map D.int),.aP,.aP]) ?_ ?_;.rcases hs with rfl|⟨b,rfl⟩;all_goals simp[f7]
 rintro _ rfl;symm;simp;refine bW (JWt x fs c _ _ _) ?_ ?_ ⟨[],c,.aP,.aP,rfl,rfl,rfl,rfl,rfl⟩;.rintro d r _⟨e,h,s4,s5,rfl,z,A,hr,hd⟩;cases h with|nil=>cases hr|cons u h=>
     obtain⟨rfl,rfl⟩:d=sD u/\r=h.map sD:=by simpa using hr
     have C:u.1<(aug x fs e).length:=by rw[rR];exact hc u (by rw[<-hd];simp)
     have y:(aug x fs e)[u.1]?=some (aug x fs e)[u.1]:=by simp[C]
     have B:gw (aug x fs e).length (u.1:Int)=some u.1:=by unfold gw;rw[if_pos (by omega),if_pos (by omega)];simp
     have he:aug x fs (e++[u])=(aug x fs e).set u.1 ((aug x fs e)[u.1]+sg x u.2):=by unfold aug;rw[List.foldl_append];show kI x (aug x fs e) u=_;unfold kI;rw[y];rfl
     have t:(e++[u])++h=c:=by rw[append_assoc];exact hd
     generalize(aug x fs e)[u.1]=g at*;simp[sD,du,z,A];apply ak;obtain⟨j,f⟩:=u;cases f with|true=>simp[gP y,B];exact⟨e++[(j,true)],h,_,_,by rw[he,map_set];rfl,rfl,rfl,rfl,t⟩|false=>simp[gP y,B];exact⟨e++[(j,false)],h,_,_,by rw[he,map_set];rfl,rfl,rfl,rfl,t⟩
 . rintro _⟨e,h,s4,s5,rfl,z,A,hr,hd⟩;have:h=[]:=by cases h with|nil=>rfl|cons _ _=>cases hr
   subst this;rw[append_nil]at hd;subst hd;simp;apply ak;simp;exact k
def BR(F:Int->Int)(D:Int):List En->Int->Int|[],p=>F p+D|e::es,p=>if e.1=p then e.2.2.2 else BR F D es p
theorem gf{F:Int->Int}{D p:Int}{l:Nat}{o:Option aq×Int}:∀{es:List En},(es.map (·.1)).Nodup->(p,l,o)∈es->BR F D es p=o.2
 |[],_,h=>by cases h|e::es,t,h=>by
   rw[map_cons,nodup_cons]at t;rw[BR];rcases mem_cons.mp h with rfl|h;.rw[if_pos rfl]
   .rw[if_neg (λz=>t.1 (by rw[z];exact mem_map.mpr ⟨_,h,rfl⟩))];exact gf t.2 h
theorem m5{F:Int->Int}{D p:Int}:∀{es:List En},(¬ ∃l o,(p,l,o)∈es)->BR F D es p=F p+D|[],_=>rfl|e::es,h=>by rw[BR,if_neg (λz=>h ⟨e.2.1,e.2.2,by rw[<-z];simp⟩)];exact m5 λ⟨l,o,z⟩=>h ⟨l,o,mem_cons_of_mem _ z⟩
theorem yN(F:Int->Int):∀(es:List En),∃D,∀p l o,(p,l,o)∈es->o.2<=F p+D
 |[]=>⟨0,λ_ _ _ h=>by cases h⟩|e::es=>by
   obtain⟨D,h⟩:=yN F es;refine⟨max D (e.2.2.2-F e.1),λp l o z=>?_⟩;rcases mem_cons.mp z with rfl|z;.simp only;omega
   .have:=h p l o z;omega
theorem gb.pt{fs:List Int}{D:Int}(h:gb m ws fs es)(t:Pt ws fs F)(u:∀p l o,(p,l,o)∈es->o.2<=F p+D):Pt ws fs (BR F D es):=λs v e ho=>by
 by_cases c:∃l o,(frm v s.2,l,o)∈es;.obtain⟨l,o,c⟩:=c;obtain⟨l2,y,c2,c3⟩:=h.cl l o s v e c ho;rw[gf h.cm.nd c,gf h.cm.nd c2];unfold Le at c3;omega
 . rw[m5 c];have h1:=t s v e ho;by_cases c2:∃l o,(too v s.2,l,o)∈es;.obtain⟨l2,y,c2⟩:=c2;rw[gf h.cm.nd c2];have:=u _ _ _ c2;omega
   .rw[m5 c2];omega
theorem Dk{fs:List Int}{G:Int->Int}(d:Int)(h:Pt ws fs F)(t:Pt ws fs G):Pt ws fs (λp=>min (F p) (G p+d)):=λs v e ho=>by have h1:=h s v e ho;have u:=t s v e ho;simp only;omega
theorem qJ{ws:List Wy}{fs:List Int}{F:Int->Int}(h:Pt ws fs F){b:Int}:∀{c:List aq}{a:Int},fW ws b c a->qC ws fs c->F b=F a+bu ws c->∀s∈c,∀v,ws[s.1]?=some v->F (too v s.2)=F (frm v s.2)+hsp v s.2
 |[],_,_,_,_,s,hs,_,_=>by cases hs|s::c,a,⟨v,e,y,z⟩,ho,he,u,hu,x,ex=>by
   have t:qC ws fs c:=λu hu=>ho u (mem_cons_of_mem _ hu);have h1:=lu h z t;obtain⟨C,A,o⟩:=ho s (by simp);rw[e]at A;cases A;have B:=h s v e o;rw[y]at B;rw[bu,fC e]at he;rcases mem_cons.mp hu with rfl|hu;.rw[e]at ex;cases ex;rw[y];omega
   .exact qJ h z t (by omega) u hu x ex
theorem nD{fs:List Int}{x:Int}{t:aq}(hc:qC ws fs c)(e:ws[t.1]?=some v)(h:iV ws (aug x fs c) (frm v t.2) t=true):iV ws fs (frm v t.2) t=true\/∃s∈c,s.1=t.1/\t.2≠s.2:=by
 by_cases z:t.1∈c.map (·.1)
 . obtain⟨s,hs,es⟩:=mem_map.mp z;by_cases q:t.2=s.2;.have:t=s:=Prod.ext_iff.mpr ⟨es.symm,q⟩;subst this;obtain⟨y,u,o⟩:=hc t hs;rw[e]at u;cases u;exact .inl o
   .exact .inr ⟨s,hs,es,q⟩
 .refine .inl ?_;unfold iV at h ⊢;rwa[m7 z]at h
theorem Pt.aug{ws:List Wy}{fs:List Int}{F:Int->Int}(h:Pt ws fs F){a b x:Int}{c:List aq}(y:fW ws b c a)(ho:qC ws fs c)(he:F b=F a+bu ws c):Pt ws (aug x fs c) F:=λt v e o=>by
 rcases nD ho e o with o|⟨u,z,A,ne⟩;.exact h t v e o
 . have:=qJ h y ho he u z v (by rw[A];exact e);rw[(jP ne).1,(jP ne).2];have:hsp v t.2=-hsp v u.2:=by cases h1:t.2<;>cases h2:u.2<;>simp[hsp]<;>(rw[h1,h2]at ne;exact absurd rfl ne)
   omega
def dW(G:Wy->Int):List Wy->List Int->Int|v::ws,g::fs=>G v*g+dW G ws fs|_,_=>0
def jd(H:Wy->Int):List Wy->Int|[]=>0|v::ws=>H v+jd H ws
theorem Cv{G H:Wy->Int}:∀{ws:List Wy}{fs:List Int},fs.length=ws.length->(∀(j:Nat)v g,ws[j]?=some v->fs[j]?=some g->G v*g<=H v)->dW G ws fs<=jd H ws|[],[],_,_=>Int.le_refl _|[],_::_,h,_=>by simp at h|_::_,[],h,_=>by simp at h|v::ws,g::fs,h,k=>by have h1:=k 0 v g rfl rfl;have u:=Cv (G:=G) (H:=H) (ws:=ws) (fs:=fs) (by simpa using h) λj v g e t=>k (j+1) v g (by simpa using e) (by simpa using t);rw[dW,jd];omega
theorem Cg{G H:Wy->Int}:∀{ws:List Wy}{fs:List Int},fs.length=ws.length->(∀(j:Nat)v g,ws[j]?=some v->fs[j]?=some g->H v<=G v*g)->jd H ws<=dW G ws fs|[],[],_,_=>Int.le_refl _|[],_::_,h,_=>by simp at h|_::_,[],h,_=>by simp at h|v::ws,g::fs,h,k=>by have h1:=k 0 v g rfl rfl;have u:=Cg (G:=G) (H:=H) (ws:=ws) (fs:=fs) (by simpa using h) λj v g e t=>k (j+1) v g (by simpa using e) (by simpa using t);rw[dW,jd];omega
theorem yG{G:Wy->Int}{v:Wy}{g y:Int}:∀{j:Nat}{ws:List Wy}{fs:List Int},ws[j]?=some v->fs[j]?=some g->dW G ws (fs.set j (g+y))=dW G ws fs+G v*y|_,[],_,e,_=>by simp at e|_,_::_,[],_,e=>by simp at e|0,u::ws,f::fs,h,t=>by simp at h t;subst h t;rw[List.set_cons_zero,dW,dW,mul_add];omega|j+1,u::ws,f::fs,h,t=>by rw[List.set_cons_succ,dW,dW,yG (j:=j) (by simpa using h) (by simpa using t)];omega
def gap(k:Int)(q:Int->Int)(v:Wy):Int:=q v.t-q v.s-k*v.h
theorem Ec{x:Int}:gap k q v*sg x f=x*(q (too v f)-q (frm v f)-k*hsp v f):=by cases f with|true=>show(q v.t-q v.s-k*v.h)*x=x*(q v.t-q v.s-k*v.h);exact mul_comm _ _|false=>show(q v.t-q v.s-k*v.h)*(-x)=x*(q v.s-q v.t-k*(-v.h));rw[mul_neg,mul_neg k,show q v.s-q v.t- -(k*v.h)=-(q v.t-q v.s-k*v.h)by omega,mul_neg,mul_comm]
theorem yC{k x:Int}{q:Int->Int}{ws:List Wy}{b:Int}:∀{c:List aq}{fs:List Int}{a:Int},fs.length=ws.length->fW ws b c a->dW (gap k q) ws (aug x fs c)=dW (gap k q) ws fs+x*(q b-q a-k*bu ws c)
 |[],fs,a,_,h=>by have:a=b:=h;subst this;show _=_+x*(q a-q a-k*0);simp;rfl|s::c,fs,a,u,⟨v,e,z,A⟩=>by
   show dW (gap k q) ws (aug x (kI x fs s) c)=_;have t:s.1<fs.length:=by rw[u];exact(dj e).1
   have y:fs[s.1]?=some fs[s.1]:=by simp[t]
   rw[yC (by rw[uT];exact u) A];have:kI x fs s=fs.set s.1 (fs[s.1]+sg x s.2):=by unfold kI;rw[y];rfl
   rw[this,yG e y,Ec,z,Int.add_assoc,<-mul_add,bu,fC e,mul_add k];congr 2;omega
structure J4(ws:List Wy)(fs:List Int):Prop where
 len:fs.length=ws.length
 ok:∀(j:Nat)v g,ws[j]?=some v->fs[j]?=some g->0<=g/\g<=v.r
theorem J4.aug{ws:List Wy}{fs:List Int}{c:List aq}{x:Int}(h:J4 ws fs)(B:(c.map (·.1)).Nodup)(C:0<x)(hc:∀s∈c,∃v g,ws[s.1]?=some v/\fs[s.1]?=some g/\x<=lY v g s.2):J4 ws (aug x fs c):=by
 refine⟨by rw[rR];exact h.len,λj v g t e=>?_⟩;by_cases z:j∈c.map (·.1);.obtain⟨s,hs,rfl⟩:=mem_map.mp z;obtain⟨E,g',u,y,A⟩:=hc s hs;rw[t]at u;cases u;rw[wj B hs y]at e;cases e;have:=h.ok _ _ _ t y;cases hf:s.2<;>rw[hf]at A<;>simp[lY,sg]at A ⊢<;>omega
 .rw[m7 z]at e;exact h.ok _ _ _ t e
def iw(q:Int->Int)(v:Wy):Int:=v.r*max 0 (q v.t-q v.s-v.h)
def eV(q:Int->Int)(ws:List Wy):Int:=jd (iw q) ws
theorem Vk:gap 1 q v=q v.t-q v.s-v.h:=by unfold gap;omega
theorem yW{fs:List Int}(h:J4 ws fs):dW (gap 1 q) ws fs<=eV q ws:=Cv h.len λj v g e u=>by
 have:=h.ok _ _ _ e u;rw[Vk];unfold iw;generalize q v.t-q v.s-v.h=y;by_cases c:0<=y;.rw[Int.max_eq_right c,mul_comm];exact Int.mul_le_mul_of_nonneg_right this.2 c
 .rw[Int.max_eq_left (by omega),mul_zero];exact Int.mul_nonpos_of_nonpos_of_nonneg (by omega) this.1
theorem JD{fs:List Int}(h:J4 ws fs)(A:Pt ws fs q):eV q ws=dW (gap 1 q) ws fs:=by
 refine Int.le_antisymm (Cg h.len λj v g e u=>?_) (yW h);have E:=h.ok _ _ _ e u;have C:0<v.r-g->q v.t<=q v.s+v.h:=λz=>A (j,true) v e (by rw[lH (s:=(j,true)) e u];simp[frm,lY];omega);have B:0<g->q v.s<=q v.t+-v.h:=λz=>A (j,false) v e (by rw[lH (s:=(j,false)) e u];simp[frm,lY];omega);rw[Vk];unfold iw;generalize G:q v.t-q v.s-v.h=y;by_cases c:g=v.r
 . subst c;by_cases c0:0<v.r;.have:=B c0;rw[Int.max_eq_right (by omega),mul_comm];exact Int.le_refl _
   . have:v.r=0:=by omega
     rw[this];simp
 . have:=C (by omega);rw[Int.max_eq_left (by omega),mul_zero];by_cases c0:0<g;.have:=B c0;rw[show y=0 by omega];simp
   .rw[show g=0 by omega];simp
def U5(fs:List Int)(x:List aq×Int):List Int:=aug x.2 fs x.1
def flow(N:Nat)(cs:List (List aq×Int)):List Int:=cs.foldl U5 (replicate N 0)
theorem Eb{x:List aq×Int}:flow N (cs++[x])=aug x.2 (flow N cs) x.1:=by unfold flow;rw[List.foldl_append];rfl
def cG(H:List aq×Int->Int):List (List aq×Int)->Int|[]=>0|x::cs=>H x+cG H cs
theorem j8{H:List aq×Int->Int}{x:List aq×Int}:∀{cs:List (List aq×Int)},cG H (cs++[x])=cG H cs+H x|[]=>by simp[cG]|y::cs=>by rw[cons_append,cG,cG,j8];omega
theorem mR{H K:List aq×Int->Int}:∀{cs:List (List aq×Int)},(∀x∈cs,H x=K x)->cG H cs=cG K cs|[],_=>rfl|x::cs,h=>by rw[cG,cG,h x (by simp),mR λy e=>h y (by simp[e])]
theorem Ew{H:List aq×Int->Int}:∀{cs:List (List aq×Int)},(∀x∈cs,1<=H x)->(cs.length:Int)<=cG H cs|[],_=>by simp[cG]|x::cs,h=>by have h1:=h x (by simp);have t:=Ew (H:=H) (cs:=cs) λy e=>h y (by simp[e]);rw[cG,length_cons];omega
def U8(ws:List Wy)(T:Int)(x:List aq×Int):Int:=if bu ws x.1<=T then x.2*(T-bu ws x.1+1)else 0
def val(ws:List Wy)(T:Int)(cs:List (List aq×Int)):Int:=cG (U8 ws T) cs
structure jl(m:Int)(ws:List Wy)(T v:Int):Prop where
 ex:∃q:Int->Int,q 0=0/\q (m-1)=T+1/\eV q ws=v
 le:∀q:Int->Int,q 0=0->q (m-1)=T+1->v<=eV q ws
theorem uJ{T:Int}{fs:List Int}{G:Int->Int}(fit:J4 ws fs)(dt:∀k q,dW (gap k q) ws fs=cG (λx=>x.2*(q (m-1)-q 0-k*bu ws x.1)) cs)(z:∀x∈cs,bu ws x.1<=T+1)(A:Pt ws fs G)(t:G 0=0)(u:G (m-1)=T+1):jl m ws T (val ws T cs):=by
 have y:∀q:Int->Int,q 0=0->q (m-1)=T+1->dW (gap 1 q) ws fs=val ws T cs:=λq e h=>by
  rw[dt,e,h];refine mR λx B=>?_;have:=z x B;unfold U8;split;.congr 1;omega
  .rw[show T+1-0-1*bu ws x.1=0 by omega,mul_zero]
 exact⟨⟨G,t,u,by rw[JD fit A,y G t u]⟩,λq e h=>by rw[<-y q e h];exact yW fit⟩
structure vX(m:Int)(ws:List Wy)(cs:List (List aq×Int))(fs:List Int)(F:Int->Int)(d:Int):Prop where
 fit:J4 ws fs
 pt:Pt ws fs F
 z:F 0=0
 e:F (m-1)=d
 d0:0<=d
 nn:(∀v∈ws,1<=v.h)->1<=d/\∀x∈cs,1<=bu ws x.1
 ch:∀x∈cs,bu ws x.1<=d/\0<x.2/\∀s∈x.1,s.1<ws.length
 dt:∀k q,dW (gap k q) ws fs=cG (λx=>x.2*(q (m-1)-q 0-k*bu ws x.1)) cs
 lst:∀T,0<=T->T+1<=d->jl m ws T (val ws T cs)
theorem uY{G:Wy->Int}:∀{ws:List Wy}{n:Nat},dW G ws (replicate n 0)=0|[],n=>by unfold dW;rfl|v::ws,0=>rfl|v::ws,n+1=>by rw[replicate_succ,dW,uY];simp
theorem xF(h:(replicate n (0:Int))[j]?=some g):g=0:=(List.mem_replicate.mp (mem_of_getElem? h)).2
def F01(b p:Int):Int:=if p=0 then 0 else b
theorem vX.zero(m0:2<=m)(A:∀v∈ws,0<=v.h)(hr:∀v∈ws,0<=v.r):∃b,vX m ws [] (replicate ws.length 0) (F01 b) b:=by
 have fit:J4 ws (replicate ws.length 0):=⟨by simp,λj v g t u=>by rw[xF u];exact⟨Int.le_refl _,hr v (mem_of_getElem? t)⟩⟩;have pt:∀b:Int,0<=b->(∀v∈ws,b<=v.h)->Pt ws (replicate ws.length 0) (F01 b):=λb b0 B s v e ho=>by obtain⟨E,g,t,u,_,y⟩:=oF ho;rw[e]at t;cases t;have:=xF u;subst this;have:=B v (mem_of_getElem? e);cases hf:s.2<;>rw[hf]at y<;>simp[lY,hsp,F01]at y ⊢;split<;>split<;>omega
 have dt:∀k q,dW (gap k q) ws (replicate ws.length 0)=cG (λx=>x.2*(q (m-1)-q 0-k*bu ws x.1)) []:=λk q=>by rw[uY];rfl
 have t:∀b,F01 b (m-1)=b:=λb=>by unfold F01;rw[if_neg (by omega)]
 by_cases c:∀v∈ws,1<=v.h;.exact⟨1,fit,pt 1 (by omega) c,rfl,t 1,by omega,λ_=>⟨Int.le_refl _,by simp⟩,by simp,dt,λT h1 C=>uJ fit dt (by simp) (pt 1 (by omega) c) rfl (by rw[t];omega)⟩
 .exact⟨0,fit,pt 0 (by omega) A,rfl,t 0,by omega,λz=>absurd z c,by simp,dt,λT h1 C=>by omega⟩
theorem vX.at{d T:Int}{fs:List Int}{G:Int->Int}(h:vX m ws cs fs F d)(e:d<=T+1)(t:Pt ws fs G)(u:G 0=0)(y:G (m-1)=T+1):jl m ws T (val ws T cs):=uJ h.fit h.dt (λx z=>Int.le_trans (h.ch x z).1 e) t u y
theorem vX.more{d:Int}{fs:List Int}{x:Int}(h:vX m ws cs fs F d)(t:gb m ws fs es)(u:(m-1,l,o)∈es)(hc:Kz ws fs es (m-1) l o.2 0 0 0 c)(A:0<x)(hr:∀s∈c,∃v g,ws[s.1]?=some v/\fs[s.1]?=some g/\x<=lY v g s.2):∃G,vX m ws (cs++[(c,x)]) (aug x fs c) G o.2:=by
 obtain⟨D,H⟩:=yN F es;have B:=t.pt h.pt H;have J:bu ws c=o.2:=by have:=hc.hrs;omega
 have C:BR F D es 0=0:=gf t.cm.nd t.cm.z;have E:BR F D es (m-1)=o.2:=gf t.cm.nd u;have hd:d<=o.2:=by have:=lu h.pt hc.GR hc.gH;rw[h.e,h.z]at this;omega
 refine⟨BR F D es,h.fit.aug hc.nd A hr,B.aug hc.GR hc.gH (by rw[C,E];omega),C,E,by have:=h.d0;omega,λz=>⟨by have:=(h.nn z).1;omega,λy hy=>?_⟩,λy hy=>?_,λk q=>?_,λT h0 h1=>?_⟩
 . rcases mem_append.mp hy with hy|hy;.exact(h.nn z).2 y hy
   .rw[mem_singleton.mp hy];show 1<=bu ws c;have:=(h.nn z).1;omega
 . rcases mem_append.mp hy with hy|hy;.have:=h.ch y hy;exact⟨by omega,this.2⟩
   .rw[mem_singleton.mp hy];refine⟨by show bu ws c<=_;omega,A,λs hs=>?_⟩;obtain⟨v,g,e,_⟩:=hr s hs;exact(dj e).1
 .rw[yC h.fit.len hc.GR,j8,h.dt]
 . have I:val ws T (cs++[(c,x)])=val ws T cs:=by unfold val;rw[j8];show _+(if bu ws c<=T then _ else 0)=_;rw[if_neg (by omega)];omega
   rw[I];by_cases q:T+1<=d;.exact h.lst T h0 q
   . refine h.at (by omega) (Dk (T+1-d) B h.pt) ?_ ?_;.have:=h.z;omega
     .have:=h.e;omega
theorem vX.least{d T:Int}{fs:List Int}(h:vX m ws cs fs F d)(t:gb m ws fs es)(u:¬ ∃l o,(m-1,l,o)∈es)(h0:0<=T):jl m ws T (val ws T cs):=by
 by_cases q:T+1<=d;.exact h.lst T h0 q
 . obtain⟨D,y⟩:=yN F es;have A:=t.pt (D:=max D (T+1-d)) h.pt λp l o z=>by have:=y p l o z;omega
   have B:BR F (max D (T+1-d)) es 0=0:=gf t.cm.nd t.cm.z;have C:BR F (max D (T+1-d)) es (m-1)=F (m-1)+max D (T+1-d):=m5 u;refine h.at (by omega) (Dk (T+1-d) A h.pt) ?_ ?_;.have:=h.z;omega
   .have:=h.e;omega
def BP(v:Wy)(f:Bool):Int:=7*hsp v f+1
def K5(ws:List Wy)(fs:List Int)(P:Int->Int):Prop:=∀(s:aq)(v:Wy),ws[s.1]?=some v->iV ws fs (frm v s.2) s=true->P (too v s.2)<=P (frm v s.2)+BP v s.2
def vW(ws:List Wy)(c:List aq):Int:=7*bu ws c+c.length
theorem oZ(e:ws[s.1]?=some v):vW ws (s::c)=BP v s.2+vW ws c:=by unfold vW BP;rw[bu,fC e,length_cons];omega
theorem wH{ws:List Wy}{fs:List Int}{P:Int->Int}(h:K5 ws fs P){b:Int}:∀{c:List aq}{a:Int},fW ws b c a->qC ws fs c->P b<=P a+vW ws c|[],a,t,_=>by have:a=b:=t;rw[this];simp[vW,bu]|s::c,a,⟨v,e,z,t⟩,ho=>by have h1:=wH h t λu A=>ho u (mem_cons_of_mem _ A);obtain⟨C,y,o⟩:=ho s (by simp);rw[e]at y;cases y;have B:=h s v e o;rw[z]at B;rw[oZ e];omega
theorem p8{ws:List Wy}{fs:List Int}{P:Int->Int}(h:K5 ws fs P){b:Int}:∀{c:List aq}{a:Int},fW ws b c a->qC ws fs c->P b=P a+vW ws c->∀s∈c,∀v,ws[s.1]?=some v->P (too v s.2)=P (frm v s.2)+BP v s.2
 |[],_,_,_,_,s,hs,_,_=>by cases hs|s::c,a,⟨v,e,y,z⟩,ho,he,u,hu,x,ex=>by
   have t:qC ws fs c:=λu hu=>ho u (mem_cons_of_mem _ hu);have h1:=wH h z t;obtain⟨C,A,o⟩:=ho s (by simp);rw[e]at A;cases A;have B:=h s v e o;rw[y]at B;rw[oZ e]at he;rcases mem_cons.mp hu with rfl|hu;.rw[e]at ex;cases ex;rw[y];omega
   .exact p8 h z t (by omega) u hu x ex
def tgt(ws:List Wy)(fs:List Int)(P:Int->Int)(s:aq):Bool:=match ws[s.1]?with|some v=>iV ws fs (frm v s.2) s&&decide (P (too v s.2)=P (frm v s.2)+BP v s.2)|none=>false
theorem DK{fs:List Int}{P:Int->Int}(e:ws[s.1]?=some v):tgt ws fs P s=(iV ws fs (frm v s.2) s&&decide (P (too v s.2)=P (frm v s.2)+BP v s.2)):=by unfold tgt;rw[e]
def Fx(ws:List Wy)(fs:List Int)(P:Int->Int):Nat:=((fj ws.length).filter (tgt ws fs P)).length
theorem yX{fs:List Int}{P:Int->Int}(h:ws.length<=12):Fx ws fs P<=24:=by have:=List.length_filter_le (tgt ws fs P) (fj ws.length);rw[uU]at this;unfold Fx;omega
theorem Es{p q:aq->Bool}(h:∀t,q t=true->p t=true):∀(l:List aq),(l.filter q).length<=(l.filter p).length|[]=>bN|t::l=>by have e:=Es h l;cases hq:q t with|true=>simp[hq,h t hq,e]|false=>cases hp:p t with|true=>simp[hq,hp];omega|false=>simp[hq,hp,e]
theorem CP{p q:aq->Bool}{s:aq}(h:∀t,q t=true->p t=true)(e:p s=true)(u:q s=false):∀{l:List aq},s∈l->(l.filter q).length<(l.filter p).length
 |[],hs=>by cases hs|t::l,hs=>by
   have le:=Es h l;rcases mem_cons.mp hs with rfl|hs;.simp[e,u];omega
   .have y:=CP h e u hs;cases hq2:q t with|true=>simp[hq2,h t hq2,y]|false=>cases hp2:p t with|true=>simp[hq2,hp2];omega|false=>simp[hq2,hp2,y]
theorem Ea{fs:List Int}(h:(c.map (·.1)).Nodup)(hs:s∈c)(e:ws[s.1]?=some v)(t:fs[s.1]?=some g):iV ws (aug (lY v g s.2) fs c) p s=false:=by
 rw[lH e (wj h hs t)];have:lY v (g+sg (lY v g s.2) s.2) s.2=0:=by cases s.2<;>simp[lY,sg]<;>omega
 rw[this];simp
theorem K5.aug{ws:List Wy}{fs:List Int}{P:Int->Int}(h:K5 ws fs P){a b:Int}{c:List aq}{s:aq}{v:Wy}{g:Int}(E:fW ws b c a)(ho:qC ws fs c)(G:(c.map (·.1)).Nodup)(he:P b=P a+vW ws c)(hs:s∈c)(e:ws[s.1]?=some v)(H:fs[s.1]?=some g):K5 ws (aug (lY v g s.2) fs c) P/\Fx ws (aug (lY v g s.2) fs c) P<Fx ws fs P:=by
 have A:=p8 h E ho he;have back:∀(t u:aq)(x:Wy),u∈c->u.1=t.1->t.2≠u.2->ws[t.1]?=some x->P (too x t.2)<P (frm x t.2)+BP x t.2:=λt u x y z ne ex=>by
  have h1:=A u y x (by rw[z];exact ex);rw[(jP ne).1,(jP ne).2];have B:hsp x t.2=-hsp x u.2:=by cases h1:t.2<;>cases B:u.2<;>simp[hsp]<;>(rw[h1,B]at ne;exact absurd rfl ne)
  unfold BP at*;omega
 refine⟨λt x ex o=>?_,?_⟩
 . rcases nD ho ex o with o|⟨u,y,z,ne⟩;.exact h t x ex o
   .have:=back t u x y z ne ex;omega
 . obtain⟨I,C,o⟩:=ho s hs;rw[e]at C;cases C;refine CP (s:=s) (λt ht=>?_) (by rw[DK e,o,A s hs v e];simp) (by rw[DK e,Ea G hs e H];rfl) (vf (dj e).1);unfold tgt at ht ⊢;split at ht
   . rename_i x ex;simp only[and_eq_true,decide_eq_true_eq]at ht ⊢;refine⟨?_,ht.2⟩;rcases nD ho ex ht.1 with o|⟨u,y,z,ne⟩;.exact o
     .have:=back t u x y z ne ex;omega
   .cases ht
abbrev K9:=List (Option Bool)
def je:List Wy->K9->Int|v::ws,some f::es=>BP v f+je ws es|_::ws,none::es=>je ws es|_,_=>0
def Bd(N:Nat):List aq->K9|[]=>replicate N none|s::c=>(Bd N c).set s.1 (some s.2)
theorem rK{N:Nat}:∀{c:List aq},(Bd N c).length=N|[]=>by simp[Bd]|s::c=>by rw[Bd,List.length_set,rK]
theorem zf{N j:Nat}:∀{c:List aq},j<N->j∉c.map (·.1)->(Bd N c)[j]?=some none|[],h,_=>by simp[Bd,h]|s::c,h,e=>by rw[map_cons,mem_cons,not_or]at e;rw[Bd,getElem?_set_ne (λz=>e.1 z.symm)];exact zf h e.2
theorem uo{v:Wy}{f:Bool}:∀{j:Nat}{ws:List Wy}{es:K9},ws[j]?=some v->es[j]?=some none->je ws (es.set j (some f))=je ws es+BP v f|_,[],_,e,_=>by simp at e|_,_::_,[],_,e=>by simp at e|0,u::ws,x::es,h,t=>by simp at h t;subst h t;rw[List.set_cons_zero,je,je];omega|j+1,u::ws,x::es,h,t=>by have y:=uo (f:=f) (j:=j) (ws:=ws) (es:=es) (by simpa using h) (by simpa using t);rw[List.set_cons_succ];cases x with|none=>rw[je,je,y]|some g=>rw[je,je,y];omega
theorem qz:∀{ws:List Wy}{n:Nat},je ws (replicate n none)=0|[],n=>by unfold je;rfl|v::ws,0=>rfl|v::ws,n+1=>by rw[replicate_succ,je,qz]
theorem tO{ws:List Wy}{b:Int}:∀{c:List aq}{a:Int},fW ws b c a->(c.map (·.1)).Nodup->je ws (Bd ws.length c)=vW ws c|[],_,_,_=>by rw[Bd,qz];simp[vW,bu]|s::c,a,⟨v,e,_,t⟩,h=>by rw[map_cons,nodup_cons]at h;rw[Bd,uo e (zf (dj e).1 h.1),tO t h.2,oZ e];omega
def pQ:Nat->List K9|0=>[[]]|n+1=>(pQ n).map (none::·)++((pQ n).map (some true::·)++(pQ n).map (some false::·))
theorem oH:∀{n:Nat},(pQ n).length=3^n|0=>rfl|n+1=>by rw[pQ,length_append,length_append,length_map,length_map,length_map,oH,Nat.pow_succ];omega
theorem pC:∀{e:K9},e∈pQ e.length|[]=>by simp[pQ]|x::e=>by have h:=pC (e:=e);rw[length_cons,pQ,mem_append,mem_append];cases x with|none=>exact .inl (mem_map.mpr ⟨e,h,rfl⟩)|some f=>cases f with|true=>exact .inr (.inl (mem_map.mpr ⟨e,h,rfl⟩))|false=>exact .inr (.inr (mem_map.mpr ⟨e,h,rfl⟩))
structure HJ(m:Int)(ws:List Wy)(k:Nat)(fs:List Int)(P:Int->Int)(lam:Int)(seen:List K9):Prop where
 pt:K5 ws fs P
 z:P 0=0
 e:P (m-1)=lam
 nd:seen.Nodup
 sl:∀e∈seen,e.length=ws.length/\je ws e<=lam
 cnt:k+Fx ws fs P<=25*(seen.length+1)
theorem HJ.few{t:Int}{k:Nat}{fs:List Int}{P:Int->Int}{seen:List K9}(h:HJ m ws k fs P t seen)(u:ws.length<=12):k<=13286050:=by
 have h1:=j7 (l2:=pQ ws.length) h.nd λe he=>by rw[<-(h.sl e he).1];exact pC
 rw[oH]at h1;have y:3^ws.length<=3^12:=Nat.pow_le_pow_right (by decide) u;have z:(3:Nat)^12=531441:=by decide
 have:=h.cnt;omega
theorem HJ.zero(y:ws.length<=12)(z:∀v∈ws,0<=v.h):HJ m ws 0 (replicate ws.length 0) (λ_=>0) 0 []:=by refine⟨λs v e ho=>?_,rfl,rfl,.nil,by simp,by have:=yX (fs:=replicate ws.length 0) (P:=λ_=>0) y;simp;omega⟩;obtain⟨B,g,t,A,_,u⟩:=oF ho;rw[e]at t;cases t;have:=xF A;subst this;have:=z v (mem_of_getElem? e);cases hf:s.2<;>rw[hf]at u<;>simp[lY,BP,hsp]at u ⊢;omega
def GZ(F:Int->Int)(D:Int):List En->Int->Int|[],p=>F p+D|e::es,p=>if e.1=p then 7*e.2.2.2+(e.2.1:Int)else GZ F D es p
theorem lJ{F:Int->Int}{D p:Int}{l:Nat}{o:Option aq×Int}:∀{es:List En},(es.map (·.1)).Nodup->(p,l,o)∈es->GZ F D es p=7*o.2+l
 |[],_,h=>by cases h|e::es,t,h=>by
   rw[map_cons,nodup_cons]at t;rw[GZ];rcases mem_cons.mp h with rfl|h;.rw[if_pos rfl]
   .rw[if_neg (λz=>t.1 (by rw[z];exact mem_map.mpr ⟨_,h,rfl⟩))];exact lJ t.2 h
theorem tR{F:Int->Int}{D p:Int}:∀{es:List En},(¬ ∃l o,(p,l,o)∈es)->GZ F D es p=F p+D|[],_=>rfl|e::es,h=>by rw[GZ,if_neg (λz=>h ⟨e.2.1,e.2.2,by rw[<-z];simp⟩)];exact tR λ⟨l,o,z⟩=>h ⟨l,o,mem_cons_of_mem _ z⟩
theorem Du(F:Int->Int):∀(es:List En),∃D,∀p l o,(p,l,o)∈es->7*o.2+(l:Int)<=F p+D
 |[]=>⟨0,λ_ _ _ h=>by cases h⟩|e::es=>by
   obtain⟨D,h⟩:=Du F es;refine⟨max D (7*e.2.2.2+(e.2.1:Int)-F e.1),λp l o z=>?_⟩;rcases mem_cons.mp z with rfl|z;.simp only;omega
   .have:=h p l o z;omega
theorem gb.pts{fs:List Int}{P:Int->Int}{D:Int}(h:gb m ws fs es)(t:HN m ws)(u:Pt ws fs F)(y:K5 ws fs P)(z:∀p l o,(p,l,o)∈es->7*o.2+(l:Int)<=P p+D):K5 ws fs (GZ P D es):=λs v e ho=>by
 by_cases c:∃l o,(frm v s.2,l,o)∈es;.obtain⟨l,o,c⟩:=c;obtain⟨l2,A,c2,c3⟩:=h.cl l o s v e c ho;rw[lJ h.cm.nd c,lJ h.cm.nd c2];have:=h.l5 t u c2;unfold Le at c3;unfold BP;omega
 . rw[tR c];have h1:=y s v e ho;by_cases c2:∃l o,(too v s.2,l,o)∈es;.obtain⟨l2,A,c2⟩:=c2;rw[lJ h.cm.nd c2];have:=z _ _ _ c2;omega
   .rw[tR c2];omega
theorem HJ.more{t:Int}{k:Nat}{fs:List Int}{P:Int->Int}{seen:List K9}(h:HJ m ws k fs P t seen)(B:HN m ws)(I:Pt ws fs F)(u:gb m ws fs es)(y:(m-1,l,o)∈es)(hc:Kz ws fs es (m-1) l o.2 0 0 0 c)(hs:s∈c)(e:ws[s.1]?=some v)(C:fs[s.1]?=some g):∃J L M,HJ m ws (k+1) (aug (lY v g s.2) fs c) J L M:=by
 have O:bu ws c=o.2:=by have:=hc.hrs;omega
 have U:c.length=l:=by have:=hc.len;omega
 have X:vW ws c=7*o.2+l:=by unfold vW;rw[O,U]
 have Y:t<=vW ws c:=by have:=wH h.pt hc.GR hc.gH;rw[h.e,h.z]at this;omega
 by_cases q:t=vW ws c;.have A:=h.pt.aug hc.GR hc.gH hc.nd (by rw[h.e,h.z];omega) hs e C;exact⟨P,t,seen,A.1,h.z,h.e,h.nd,h.sl,by have:=h.cnt;omega⟩
 . obtain⟨D,Z⟩:=Du P es;have hP:=u.pts B I h.pt Z;have E:GZ P D es 0=0:=by rw[lJ u.cm.nd u.cm.z];rfl
   have G:GZ P D es (m-1)=vW ws c:=by rw[lJ u.cm.nd y,X]
   have A:=hP.aug hc.GR hc.gH hc.nd (by rw[E,G];omega) hs e C;have H:=tO hc.GR hc.nd;refine⟨GZ P D es,vW ws c,seen++[Bd ws.length c],A.1,E,G,?_,λx hx=>?_,?_⟩;.rw[nodup_append];refine⟨h.nd,by simp,λa ha b hb ab=>?_⟩;have:=(h.sl a ha).2;rw[ab,mem_singleton.mp hb,H]at this;omega
   . rcases mem_append.mp hx with hx|hx;.have:=h.sl x hx;exact⟨this.1,by omega⟩
     .rw[mem_singleton.mp hx];exact⟨rK,by rw[H];exact Int.le_refl _⟩
   .have h1:=yX (fs:=fs) (P:=GZ P D es) B.len;have h2:=h.cnt;rw[length_append,List.length_singleton];omega
def cD(x:List aq×Int):D:=.tup [.tup (x.1.map sD),.int x.2]
theorem M6{ns:List Int}(h:ns≠[]):∃i,ns.min?=some i/\i∈ns/\∀j∈ns,i<=j:=by cases e:ns.min? with|none=>rw[List.min?_eq_none_iff]at e;exact absurd e h|some i=>have:=List.min?_eq_some_iff.mp e;exact⟨i,rfl,this.1,this.2⟩
def VB:D->aq|.tup [.int j,.bl f]=>(j.toNat,f)|_=>(0,true)
@[simp]theorem DG{s:aq}:VB (sD s)=s:=rfl
def Ko(ws:List Wy)(fs:List Int)(s:aq):Int:=match ws[s.1]?,fs[s.1]?with|some v,some g=>lY v g s.2|_,_=>0
def rmD(ws:List Wy)(fs:List Int)(d:D):D:=.int (Ko ws fs (VB d))
@[simp]theorem Ui{es:List En}{p:Int}:uX false (.int p) (jH es)=some (.val (.bl (pJ (es.map en) p))):=by show some (R.val (.bl ((es.map (·.1)).contains p)))=some (R.val (.bl ((G4 (es.map en)).contains p)));rw[xr]
def Chk(m:Int)(ws:List Wy)(x:List aq×Int):Prop:=x.1.length<=5/\(∀s∈x.1,s.1<ws.length)/\fW ws (m-1) x.1 0/\(x.1.map (·.1)).Nodup
structure Stg(m:Int)(ws:List Wy)(cA:List (List aq×Int))(x:List aq×Int):Prop where
 iv:∃F d,vX m ws cA (flow ws.length cA) F d
 ht:∃F,Pt ws (flow ws.length cA) F/\F 0=0/\F (m-1)=bu ws x.1
 op:qC ws (flow ws.length cA) x.1
 rm:∀s∈x.1,∃v g,ws[s.1]?=some v/\(flow ws.length cA)[s.1]?=some g/\x.2<=lY v g s.2
theorem vX.ht{d:Int}{fs:List Int}(h:vX m ws cs fs F d)(t:gb m ws fs es)(u:(m-1,l,o)∈es)(hc:Kz ws fs es (m-1) l o.2 0 0 0 c):(∃F,Pt ws fs F/\F 0=0/\F (m-1)=bu ws c)/\d<=bu ws c:=by
 obtain⟨D,y⟩:=yN F es;have A:bu ws c=o.2:=by have:=hc.hrs;omega
 refine⟨⟨BR F D es,t.pt h.pt y,gf t.cm.nd t.cm.z,by rw[gf t.cm.nd u,A]⟩,?_⟩;have:=lu h.pt hc.GR hc.gH;rw[h.e,h.z]at this;omega
def Aj(m:Int)(ws:List Wy)(cs:List (List aq×Int)):Prop:=cs.Pairwise (λa b=>bu ws a.1<=bu ws b.1)/\∀h x e,cs=h++x::e->Stg m ws h x
theorem Aj.snoc{y:List aq×Int}(h:Aj m ws cs)(h1:∀x∈cs,bu ws x.1<=bu ws y.1)(A:Stg m ws cs y):Aj m ws (cs++[y]):=by
 refine⟨?_,λu x t e=>?_⟩;.rw[pairwise_append];exact⟨h.1,by simp,λa B b C=>by rw[mem_singleton.mp C];exact h1 a B⟩
 . rcases List.eq_nil_or_concat t with rfl|⟨r,z,rfl⟩;.obtain⟨E,G⟩:=List.append_inj' e rfl;cases G;subst E;exact A
   . rw[List.concat_eq_append]at e;have H:cs++[y]=(u++x::r)++[z]:=by rw[e];simp
     exact h.2 u x r (List.append_inj' H rfl).1
structure Ends(m:Int)(ws:List Wy)(cs:List (List aq×Int))(fs:List Int)(F:Int->Int)(d:Int)(es:List En):Prop where
 fl:fs=flow ws.length cs
 iv:vX m ws cs fs F d
 cm:gb m ws fs es
 no:¬ ∃l o,(m-1,l,o)∈es
 ck:∀x∈cs,Chk m ws x
 st:Aj m ws cs
inductive FcE(a0 a1 a2 a3 a4 a5 a6:Sl)(ρ:List Sl):Prop where|mk(s:Sl)(q0:ρ=[a0,a1,a2,a3,a4,a5,a6,s])(q1:fr s=true)
inductive JE(m:Int)(ws:List Wy)(M:Nat)(ρ:List Sl):Prop where|mk(cs:List (List aq×Int))(fs:List Int)(es:List En)(F:Int->Int)(d:Int)(s5 s6:Sl)(q0:ρ=[.val false (bU m ws),.val false (.int (m-1)),.own false (fs.map D.int),.own false (cs.map cD),.val false (jH es),s5,s6])(q1:(fr s5=true/\fr s6=true))(q2:fs=flow ws.length cs)(q3:vX m ws cs fs F d)(q4:gb m ws fs es)(q5:(∃P lam seen,HJ m ws cs.length fs P lam seen))(q6:cs.length+M=13286050)(q7:(∀x∈cs,Chk m ws x))(q8:Aj m ws cs)
theorem Dt(hw:13286250<=w)(h:HN m ws)(hr:∀v∈ws,0<=v.r)(k:∀cs fs F d es,cs.length<=13286050->Ends m ws cs fs F d es->Q (.own (cs.map cD)) [.val false (bU m ws)]):(run Γ w (n+4) 8 [.val false (bU m ws)]).sat Q:=by
 have hn:=h.len;have m0:=h.m0;have m1:=h.m1;refine bf (d:=f8) rfl rfl (by decide) ?_;symm;simp[f8];refine fX (λρ=>ρ=[.val false (bU m ws),.val false (.int (m-1)),.own false ((flow ws.length []).map D.int),.aP,.aP,.aP,.aP]) ?_ ?_;.simp[flow];show _<=16777216;omega
 rintro _ rfl;have hh:∀v∈ws,0<=v.h:=λv hv=>(h.ok v hv).2.2;obtain⟨b0,I0⟩:∃b,vX m ws [] (flow ws.length []) (F01 b) b:=vX.zero m0 hh hr;symm;simp;apply ak;simp;refine uv (by omega) I0.pt (.inr ⟨true,rfl⟩) h I0.fit.len λes t=>?_;simp;apply ak;simp;refine gZ (JE m ws) ?_ (k:=w) (m:=13286050) (by omega) ⟨[],flow ws.length [],es,F01 b0,b0,.aP,.aP,rfl,⟨rfl,rfl⟩,rfl,I0,t,⟨_,_,_,HJ.zero hn hh⟩,by simp,by simp,by simp,λcA x ay e=>by cases cA<;>cases e⟩;rintro M _⟨cs,fs,es,F,d,s5,s6,rfl,⟨h5,h6⟩,E,G,t,⟨P,aE,seen,hS⟩,hM,L,hst⟩;have ae:=G.fit.len;by_cases hq:∃l o,(m-1,l,o)∈es
 . obtain⟨l,o,z⟩:=hq;have kt:pJ (es.map en) (m-1)=true:=wy.mpr ⟨l,o,z⟩;have af:=t.l5 h G.pt z;simp[kt];apply ak;simp;refine Ba (by omega) t af z λc hc=>?_;simp[h5];apply ak;have ag:c.length<=5:=by have:=hc.len;omega
   have J1:∀s∈c,∃v g,ws[s.1]?=some v/\fs[s.1]?=some g/\0<lY v g s.2:=λs hs=>by obtain⟨v,e,o⟩:=hc.gH s hs;obtain⟨v',g,A,C,_,e4⟩:=oF o;exact⟨v',g,A,C,e4⟩
   simp[show c.length<=16777216 by omega];refine iJ (FcE _ _ _ _ _ _ _) (rmD ws fs) ⟨.aP,rfl,rfl⟩ ?_ ?_;.rintro d hd _⟨s',rfl,O⟩;obtain⟨s,hs,rfl⟩:=mem_map.mp hd;obtain⟨v,g,A,C,_⟩:=J1 s hs;simp[O,sD];refine qj (.inr ⟨true,rfl⟩) A C ?_;simp;refine⟨?_,_,rfl,rfl⟩;show D.int (Ko ws fs (VB (sD s)))=_;rw[DG];unfold Ko;rw[A,C]
   rintro _⟨s',rfl,O⟩;have U:(c.map sD).map (rmD ws fs)=(c.map (Ko ws fs)).map D.int:=by rw[map_map,map_map];rfl
   rw[U];have ah:c≠[]:=by rintro rfl;have:(0:Int)=m-1:=hc.GR;omega
   obtain⟨x,ai,al,YH⟩:=M6 (ns:=c.map (Ko ws fs)) (by simpa using ah);obtain⟨s,hs,am⟩:=mem_map.mp al;obtain⟨v,g,A,C,e3⟩:=J1 s hs;have ap:lY v g s.2=x:=by rw[<-am];unfold Ko;rw[A,C]
   have ar:0<x:=by omega
   have H:∀s∈c,∃v g,ws[s.1]?=some v/\fs[s.1]?=some g/\x<=lY v g s.2:=λu J=>by obtain⟨v,g,A,C,_⟩:=J1 u J;refine⟨v,g,A,C,?_⟩;have:=YH _ (mem_map.mpr ⟨u,J,rfl⟩);unfold Ko at this;rw[A,C]at this;exact this
   have X:∀s∈c,s.1<ws.length:=λu J=>by obtain⟨v,g,A,_⟩:=J1 u J;exact(dj A).1
   obtain⟨F',I⟩:=G.more t z hc ar H;have Y:Aj m ws (cs++[(c,x)]):=by obtain⟨g1,g2⟩:=G.ht t z hc;refine hst.snoc (λy hy=>Int.le_trans (G.ch y hy).1 g2) ?_;have Z:=G;rw[E]at Z g1 H;exact⟨⟨_,_,Z⟩,g1,by rw[<-E];exact hc.gH,H⟩
   have B:=hS.more h G.pt t z hc hs A C;rw[ap]at B;obtain⟨P',QQ,GX,B⟩:=B;have aI:=B.few hn;generalize c.map (Ko ws fs)=ns at*;simp[oV,ai,h6];apply ak;simp[show cs.length<16777216 by omega];apply ak;simp;refine Cr (.inr ⟨true,rfl⟩) (λu J=>by rw[ae];exact X u J) ?_;simp;apply ak;have av:aug x fs c=flow ws.length (cs++[(c,x)]):=by rw[Eb,<-E]
   simp;refine uv (by omega) I.pt (.inr ⟨true,rfl⟩) h I.fit.len λaw ax=>?_;simp;refine⟨M-1,by omega,cs++[(c,x)],aug x fs c,aw,F',o.2,.val false (.tup (c.map sD)),.val false (.int x),by simp[cD],⟨rfl,rfl⟩,av,I,ax,⟨P',QQ,GX,by rw[length_append];exact B⟩,by simp;omega,λy hy=>?_,Y⟩;rcases mem_append.mp hy with hy|hy;.exact L y hy
   . obtain rfl:y=(c,x):=by simpa using hy
     exact⟨ag,X,hc.GR,hc.nd⟩
 .have kt:pJ (es.map en) (m-1)=false:=kin_no hq;simp[kt];apply ak;simp;exact k cs fs F d es (by omega) ⟨E,G,t,hq,L,hst⟩
theorem Cz{c:Call}{x:Nat}{k d:P}:ev c (.QH x k d) ρ=match ρ[x]?with
 |some (.eO _)=>(bF (isVar k) (ev c k) ρ).bind λe ρ=>(bF (isVar d) (ev c d) ρ).bind λh ρ=>match ρ[x]?with|some (.eO m)=>lift ((m.get e).bind λo=>(fG h).map λv=>.val (.int (o.getD v))) ρ|_=>.stuck
 |_=>.stuck:=(rfl)
theorem yO{c:Call}{x:Nat}:ex c n (.Bw x false) ρ=match ρ[x]?with|some .aP=>.ok .next (ρ.set x (.eO (.k [])))|_=>.stuck:=(rfl)
theorem yJ{c:Call}{x:Nat}{k e:P}:ex c n (.dput x k e) ρ=(ev c e ρ).bind λr ρ=>match ρ[x]?with
 |some (.eO _)=>(bF (isVar k) (ev c k) ρ).bind λh ρ=>match ρ[x]?,r with
   |some (.eO m),.val (.int v)=>match m.put h v with|some t=>.ok .next (ρ.set x (.eO t))|none=>.stuck
   |_,_=>.stuck
 |_=>.stuck:=(rfl)
@[simp]theorem QX{x:Nat}{k d:P}:isVar (.QH x k d)=none:=rfl
theorem Cp:(Dc.get (.k kvs) (.int i))=some ((kvs.find? λe=>decide (e.1=i)).map (·.2)):=rfl
theorem Kl{v:Int}(h:kvs.length<lim):Dc.put (.k kvs) (.int i) v=some (.k (putD kvs i v)):=by show(if _ then _ else _)=_;rw[if_pos h]
def hsD(ws:List Wy)(d:D):D:=.int (hst ws (VB d))
theorem zO{ws:List Wy}:∀{c:List aq},(c.map (hst ws)).sum=bu ws c|[]=>rfl|s::c=>by rw[map_cons,List.sum_cons,zO,bu]
inductive F2s(a b:Sl)(ρ:List Sl):Prop where|mk(s:Sl)(q0:ρ=[a,b,s])(q1:fr s=true)
theorem wB(hc:∀s∈c,s.1<ws.length)(A:c.length<=1000)(k:Q (.val (.int (bu ws c))) [.val false (bU m ws),.val false (.tup (c.map sD))]):(run Γ w (n+2) 3 [.val false (bU m ws),.val false (.tup (c.map sD))]).sat Q:=by
 refine bf (d:=f3) rfl rfl (by decide) ?_;symm;simp[f3,show c.length<=16777216 by omega];refine iJ (F2s _ _) (hsD ws) ⟨.aP,rfl,rfl⟩ ?_ ?_
 . rintro d hd _⟨z,rfl,h⟩;obtain⟨s,hs,rfl⟩:=mem_map.mp hd;have y:=hc s hs;have e:ws[s.1]?=some ws[s.1]:=by simp[y]
   simp[h,sD];refine ql e ?_;simp;refine⟨?_,_,rfl,rfl⟩;show D.int (hst ws (VB (sD s)))=_;rw[DG,fC e]
 rintro _⟨z,rfl,h⟩;have t:(c.map sD).map (hsD ws)=(c.map (hst ws)).map D.int:=by rw[map_map,map_map];rfl
 rw[t];have u:=zO (ws:=ws) (c:=c);generalize c.map (hst ws)=ns at*;simp[oV,u];exact k
def gv(kvs:List (Int×Int))(k:Int):Int:=((kvs.find? λe=>decide (e.1=k)).map (·.2)).getD 0
def Kh(W:Int->Int->Int):Prop:=∀k a b,W k (a+b)=W k a+W k b
def cN(W:Int->Int->Int):List (Int×Int)->Int|[]=>0|kv::r=>W kv.1 kv.2+cN W r
theorem j5{W:Int->Int->Int}{b:List (Int×Int)}:∀{a:List (Int×Int)},cN W (a++b)=cN W a+cN W b|[]=>by simp[cN]|x::a=>by rw[cons_append,cN,cN,j5];omega
theorem Cu{a b:List (Int×Int)}(h:a.Perm b):cN W a=cN W b:=by induction h with|nil=>rfl|cons a _ e=>rw[cN,cN,e]|swap a b l=>rw[cN,cN,cN,cN];omega|trans _ _ h1 t=>rw[h1,t]
theorem yR{k v:Int}:∀{r:List (Int×Int)},k∉r.map (·.1)->(r.map λe=>if e.1=k then(e.1,v)else e)=r|[],_=>rfl|x::r,h=>by rw[map_cons,mem_cons,not_or]at h;rw[map_cons,yR h.2,if_neg (λz=>h.1 z.symm)]
theorem yr{W:Int->Int->Int}(z:Kh W){k x:Int}:∀{r:List (Int×Int)},(r.map (·.1)).Nodup->k∈r.map (·.1)->cN W (r.map λe=>if e.1=k then(e.1,gv r k+x)else e)=cN W r+W k x
 |[],_,h=>by cases h|y::r,t,h=>by
   rw[map_cons,nodup_cons]at t;by_cases c:y.1=k
   . have u:gv (y::r) k=y.2:=by unfold gv;rw[find?_cons];simp[c]
     rw[u,map_cons,if_pos c,yR (by rw[<-c];exact t.1),cN,cN];show W y.1 (y.2+x)+_=_;rw[z,c];omega
   . have u:gv (y::r) k=gv r k:=by unfold gv;rw[find?_cons];simp[c]
     have A:k∈r.map (·.1):=by
      rcases mem_cons.mp h with h|h;.exact absurd h.symm c
      .exact h
     rw[u,map_cons,if_neg c,cN,cN,yr z t.2 A];omega
theorem NP(h:k∉r.map (·.1)):gv r k=0:=by
 unfold gv;rw[List.find?_eq_none.mpr];.rfl
 .intro x t;simp;intro e;exact h (mem_map.mpr ⟨x,t,e⟩)
theorem KC(h:∀t∈r,0<t.2):0<=gv r k:=by unfold gv;cases e:r.find? λt=>decide (t.1=k)with|none=>simp|some x=>have:=h x (List.mem_of_find?_eq_some e);simp;omega
theorem oU{x:Int}(u:(r.map (·.1)).Nodup):((putD r k (gv r k+x)).map (·.1)).Nodup/\(putD r k (gv r k+x)).length<=r.length+1/\(∀h∈putD r k (gv r k+x),h=(k,gv r k+x)\/h∈r)/\∀W,Kh W->cN W (putD r k (gv r k+x))=cN W r+W k x:=by
 have B:(r.any λh=>decide (h.1=k))=true↔k∈r.map (·.1):=by rw[any_eq_true,mem_map];exact⟨λ⟨y,h1,A⟩=>⟨y,h1,by simpa using A⟩,λ⟨y,h1,A⟩=>⟨y,h1,by simpa using A⟩⟩
 unfold putD;by_cases c:k∈r.map (·.1)
 . rw[if_pos (B.mpr c)];have e:(r.map λh=>if h.1=k then(h.1,gv r k+x)else h).map (·.1)=r.map (·.1):=by rw[map_map];refine map_congr_left λy _=>?_;show(if y.1=k then _ else _:Int×Int).1=y.1;split<;>rfl
   refine⟨by rw[e];exact u,by simp,λh t=>?_,λW C=>yr C u c⟩;obtain⟨y,E,rfl⟩:=mem_map.mp t;by_cases z:y.1=k;.rw[if_pos z,z];exact .inl rfl
   .rw[if_neg z];exact .inr E
 . rw[if_neg λz=>c (B.mp z),NP c,Int.zero_add];refine⟨?_,by simp,λh t=>?_,λW _=>?_⟩;.rw[map_append,nodup_append];exact⟨u,by simp,λa G b H e=>c (by
      have:b=k:=by simpa using H
      rw[<-this,<-e];exact G)⟩
   . rcases mem_append.mp t with hj|hj;.exact .inr hj
     .exact .inl (mem_singleton.mp hj)
   .rw[j5];simp[cN]
theorem NT{v:Int}(h:r.Pairwise (λa b=>a.1<b.1))(u:∀y∈r,y.1<=k):(putD r k v).Pairwise (λa b=>a.1<b.1):=by
 unfold putD;split;.rw[pairwise_map];refine h.imp λ{a b}e=>?_;split<;>split<;>exact e
 .rename_i A;rw[pairwise_append];refine⟨h,by simp,λa t b B=>?_⟩;have h1:=u a t;have C:a.1≠k:=λz=>A (any_eq_true.mpr ⟨a,t,by simpa using z⟩);rw[mem_singleton.mp B];show a.1<k;omega
def J5:D->Int×Int|.tup [.int a,.int b]=>(a,b)|_=>(0,0)
@[simp]theorem ab9{a b:Int}:J5 (.tup [.int a,.int b])=(a,b):=rfl
structure Ld(ws:List Wy)(cs:List (List aq×Int))(kvs:List (Int×Int)):Prop where
 nd:(kvs.map (·.1)).Nodup
 len:kvs.length<=cs.length
 nn:∀kv∈kvs,1<=kv.1/\0<kv.2
 key:∀kv∈kvs,∃x∈cs,kv.1=bu ws x.1
 so:kvs.Pairwise (λa b=>a.1<b.1)sm:∀W,Kh W->cN W kvs=cG (λx=>W (bu ws x.1) x.2) cs
theorem Ld.put(h:Ld ws cs kvs){x:List aq×Int}(h0:1<=bu ws x.1)(h1:0<x.2)(C:∀y∈cs,bu ws y.1<=bu ws x.1):Ld ws (cs++[x]) (putD kvs (bu ws x.1) (gv kvs (bu ws x.1)+x.2)):=by
 obtain⟨E,H,A,G⟩:=oU (k:=bu ws x.1) (x:=x.2) h.nd;have I:=h.len;refine⟨E,by simp;omega,λu t=>?_,λu t=>?_,NT h.so λu t=>?_,λW B=>?_⟩
 . rcases A u t with e|e;.have:=KC (k:=bu ws x.1) λu t=>(h.nn u t).2;rw[e];exact⟨h0,by show 0<_+_;omega⟩
   .exact h.nn u e
 . rcases A u t with e|e;.exact⟨x,by simp,by rw[e]⟩
   .obtain⟨y,z,e⟩:=h.key u e;exact⟨y,by simp[z],e⟩
 .obtain⟨y,z,e⟩:=h.key u t;rw[e];exact C y z
 .rw[G W B,h.sm W B,j8]
theorem FW{ws:List Wy}{b:Int}(h0:∀v∈ws,0<=v.h)(t:∀v∈ws,v.h<=1000000):∀{c:List aq}{a:Int},fW ws b c a->bu ws c<=1000000*(c.length:Int)
 |[],_,_=>by simp[bu]|s::c,a,⟨v,e,_,u⟩=>by
   have h1:=FW h0 t u;have y:=t v (mem_of_getElem? e);have z:=h0 v (mem_of_getElem? e);have A:hst ws s<=1000000:=by rw[fC e];unfold hsp;split<;>omega
   rw[bu,length_cons];omega
theorem Ld.few(h:Ld ws cs kvs)(y:∀x∈cs,Chk m ws x)(z:ws.length<=12):kvs.length<=531441:=by
 have h1:=j7 (l2:=(pQ ws.length).map λe=>je ws e/7) h.nd λk t=>by obtain⟨A,u,rfl⟩:=mem_map.mp t;obtain⟨x,B,e⟩:=h.key A u;obtain⟨c1,c2,c3,c4⟩:=y x B;refine mem_map.mpr ⟨Bd ws.length x.1,by have:=pC (e:=Bd ws.length x.1);rwa[rK]at this,?_⟩;rw[tO c3 c4,e];unfold vW;omega
 rw[length_map,length_map,oH]at h1;have C:3^ws.length<=3^12:=Nat.pow_le_pow_right (by decide) z;have E:(3:Nat)^12=531441:=by decide
 omega
@[simp]theorem Uq{kvs:List (Int×Int)}:blt .Bu [.cH (.k kvs)]=if kvs.length<=16777216 then some (.own (m9 (kvs.map cQ)))else none:=rfl
theorem V2(h:kvs.length<=16777216):sortable (kvs.map cQ)=true:=by
 have:(kvs.map cQ).all rF=true:=by rw[all_eq_true];intro x e;obtain⟨p,_,rfl⟩:=mem_map.mp e;rfl
 simp only[sortable,length_map,this,Bool.or_true,Bool.and_true,decide_eq_true_eq];omega
theorem MN(e:kvs.length<=16777216)(h:kvs.Pairwise (λa b=>a.1<b.1)):m9 (kvs.map cQ)=kvs.map cQ:=by refine(nG (V2 e) (.refl _) ?_).symm;rw[pairwise_map];refine h.imp λ{a b}h=>?_;show(!aN [b.1,b.2] [a.1,a.2])=true;simp[aN];omega
inductive JBn(m:Int)(ws:List Wy)(cs:List (List aq×Int))(r:List D)(ρ:List Sl):Prop where|mk(cA us:List (List aq×Int))(kvs:List (Int×Int))(s2 s3 s4:Sl)(q0:ρ=[.val false (bU m ws),.eO (.k kvs),s2,s3,s4])(q1:A3 (fr s2=true) (fr s3=true) (fr s4=true))(q2:r=us.map cD)(q3:cA++us=cs)(q4:Ld ws cA kvs)
theorem Ah(Z:13286250<=w)(h:Ed m ws)(k:∀cs fs F d es kvs,kvs.length<=531441->Ends m ws cs fs F d es->Ld ws cs kvs->kvs.Pairwise (λa b=>a.1<b.1)->(∀G∈kvs,G.1<=5000000)->Q (.own (kvs.map cQ)) [.val false (bU m ws)]):(run Γ w (n+5) 9 [.val false (bU m ws)]).sat Q:=by
 refine bf (d:=f9) rfl rfl (by decide) ?_;symm;simp[f9,yO];apply ak;simp;refine Dt Z (HN.of h) (λv B=>(h.ok v B).r0) λcs fs F d es hl z=>?_;simp;refine bW (JBn m ws cs) ?_ ?_ ⟨[],cs,[],.aP,.aP,.aP,rfl,⟨rfl,rfl,rfl⟩,rfl,rfl,⟨by simp,by simp,by simp,by simp,by simp,λW _=>rfl⟩⟩;.rintro d r _⟨C,A,kvs,s2,s3,s4,rfl,⟨H,U,X⟩,hr,hd,t⟩;cases A with|nil=>cases hr|cons u A=>
     obtain⟨rfl,rfl⟩:d=cD u/\r=A.map cD:=by simpa using hr
     have I:u∈cs:=by rw[<-hd];simp
     have E:=z.ck u I;have ae:C.length<=cs.length:=by rw[<-hd];simp
     have J:=t.len;have L:(C++[u])++A=cs:=by rw[append_assoc];exact hd
     simp[cD,H,U];apply ak;simp;refine wB E.2.1 (by have:=E.1;omega) ?_;simp[X];apply ak;simp[yJ,Cz,Cp];rw[Kl (by show _<16777216;omega)];simp;refine⟨C++[u],A,_,_,_,_,rfl,⟨rfl,rfl,rfl⟩,rfl,L,t.put ((z.iv.nn λv B=>(h.ok v B).h0).2 u I) (z.iv.ch u I).2.1 λy hy=>?_⟩;have hst:=z.st.1;rw[<-hd,pairwise_append]at hst;exact hst.2.2 y hy u (by simp)
 . rintro _⟨C,A,kvs,s2,s3,s4,rfl,⟨H,U,X⟩,hr,hd,t⟩;have:A=[]:=by cases A with|nil=>rfl|cons _ _=>cases hr
   subst this;rw[append_nil]at hd;subst hd;have J:=t.len;simp;apply ak;have M:=MN (show kvs.length<=16777216 by omega) t.so;simp[show kvs.length<=16777216 by omega,M];refine k C fs F d es kvs (t.few z.ck (HN.of h).len) z t t.so λG O=>?_;obtain⟨x,Y,e⟩:=t.key G O;have h1:=FW (λv B=>((HN.of h).ok v B).2.2) (λv B=>(h.ok v B).h1) (z.ck x Y).2.2.1;have H:=(z.ck x Y).1;rw[e];omega
def vt(T k v:Int):Int:=if k<=T then v*(T-k+1)else 0
def gt(T k v:Int):Int:=if k<=T then v else 0
theorem Dn{T:Int}:Kh (vt T):=λk a b=>by
 unfold vt;split;.exact Int.add_mul ..
 .rfl
theorem Ze{T:Int}:Kh (gt T):=λk a b=>by unfold gt;split<;>rfl
def cT(m:Int)(ws:List Wy)(cs:List (List aq×Int)):Prop:=(∀v∈ws,1<=v.h)/\∃fs F d es,Ends m ws cs fs F d es
def Rt(ws:List Wy)(cs:List (List aq×Int))(T:Int):Int:=cG (λx=>gt T (bu ws x.1) x.2) cs
def Tot(cs:List (List aq×Int)):Int:=cG (λx=>x.2) cs
theorem jl.uniq{T v e:Int}(h:jl m ws T v)(h':jl m ws T e):v=e:=by obtain⟨q,t,u,y⟩:=h.ex;obtain⟨r,r0,r1,z⟩:=h'.ex;have:=h.le r r0 r1;have:=h'.le q t u;omega
theorem cT.least{m:Int}{ws:List Wy}{cs:List (List aq×Int)}(h:cT m ws cs){T:Int}(h0:0<=T):jl m ws T (val ws T cs):=by obtain⟨t,fs,F,d,es,e⟩:=h;exact e.iv.least e.cm e.no h0
theorem vA{H K:List aq×Int->Int}:∀{cs:List (List aq×Int)},cG (λx=>H x-K x) cs=cG H cs-cG K cs|[]=>rfl|x::cs=>by rw[cG,cG,cG,vA];omega
theorem rZ{H K:List aq×Int->Int}:∀{cs:List (List aq×Int)},(∀x∈cs,H x<=K x)->cG H cs<=cG K cs|[],_=>Int.le_refl _|x::cs,h=>by have h1:=h x (by simp);have t:=rZ (H:=H) (K:=K) (cs:=cs) λy e=>h y (by simp[e]);rw[cG,cG];omega
theorem wu{T:Int}:Rt ws cs T=val ws T cs-val ws (T-1) cs:=by
 unfold Rt val;rw[<-vA];refine mR λx _=>?_;show gt T (bu ws x.1) x.2=vt T (bu ws x.1) x.2-vt (T-1) (bu ws x.1) x.2;unfold gt vt;by_cases c:bu ws x.1<=T-1;.rw[if_pos (by omega),if_pos (by omega),if_pos c,<-Int.mul_sub,show T-bu ws x.1+1-(T-1-bu ws x.1+1)=1 by omega,mul_one]
 . by_cases c2:bu ws x.1<=T;.rw[if_pos c2,if_pos c2,if_neg c,show T-bu ws x.1+1=1 by omega,mul_one];omega
   .rw[if_neg c2,if_neg c2,if_neg c];rfl
theorem cT.nn{m:Int}{ws:List Wy}{cs:List (List aq×Int)}(h:cT m ws cs):∀x∈cs,1<=bu ws x.1/\0<x.2:=by obtain⟨e,fs,F,d,es,t⟩:=h;exact λx u=>⟨(t.iv.nn e).2 x u,(t.iv.ch x u).2.1⟩
theorem cT.bZ(h:cT m ws cs){T:Int}(h0:T<=0):val ws T cs=0:=by
 have:val ws T cs=cG (λ_=>0) cs:=mR λx e=>by have:=(h.nn x e).1;show vt T (bu ws x.1) x.2=0;unfold vt;rw[if_neg (by omega)]
 rw[this];clear this h;induction cs with|nil=>rfl|cons x cs t=>rw[cG,t];rfl
theorem cT.val_eq{e:List (List aq×Int)}(h:cT m ws cs)(h':cT m ws e)(T:Int):val ws T cs=val ws T e:=by
 by_cases c:0<=T;.exact(h.least c).uniq (h'.least c)
 .rw[h.bZ (by omega),h'.bZ (by omega)]
theorem cT.abD{e:List (List aq×Int)}(h:cT m ws cs)(h':cT m ws e)(T:Int):Rt ws cs T=Rt ws e T:=by rw[wu,wu,h.val_eq h',h.val_eq h']
theorem cT.mono(h:cT m ws cs){T U:Int}(t:T<=U):Rt ws cs T<=Rt ws cs U:=rZ λx e=>by have:=(h.nn x e).2;unfold gt;split<;>split<;>omega
theorem cT.abB(h:cT m ws cs){T:Int}:Rt ws cs T<=Tot cs:=rZ λx e=>by have:=(h.nn x e).2;unfold gt;split<;>omega
theorem cT.abE(h:cT m ws cs){T:Int}:0<=Rt ws cs T:=by
 have h1:=h.mono (T:=min T 0) (U:=T) (by omega);have:Rt ws cs (min T 0)=0:=by rw[wu,h.bZ (by omega),h.bZ (by omega)];rfl
 omega
theorem iB(h:a<=1000000000000000000000):a<big:=by show _<(1606938044258990275541962092341162602522202993782792835301376:Int);omega
theorem K3{ns:List Int}{lo hi:Int}(h0:0<=i)(h1:i<(ns.length:Int))(k:∀x∈ns,lo<=x/\x<=hi):∃r,at' (ns.map D.int) i=some (.int r)/\lo<=r/\r<=hi:=by
 have e:i.toNat<ns.length:=by omega
 refine⟨ns[i.toNat],?_,k _ (getElem_mem e)⟩;rw[xg h0 (by simpa using h1)];simp[e]
theorem fO{x y z:Int}(h0:0<m)(e:m<big)(k:∀d x z:Int,0<=d->d<m->Q (.val (.int d)) [.own true [.int x,.int y,.int z],.val false (.int m)]):(run Γ w (n+2) 12 [.own true [.int x,.int y,.int z],.val false (.int m)]).sat Q:=by refine bf (d:=Xc) rfl rfl (by decide) ?_;symm;simp[Xc];refine dw (by decide) (by decide) λa x z h t=>?_;simp;refine dw (by decide) (by decide) λb x z b0 b1=>?_;simp[h0];exact k _ _ _ (Int.emod_nonneg _ (by omega)) (Int.emod_lt_of_pos _ h0)
theorem QB{e:Type}{xs:List e}{lo hi:Option Int}:(cut xs lo hi).length<=xs.length:=by unfold cut;simp;omega
theorem Jg{cs:List Int}{a b:Option Int}:cut (cs.map D.int) a b=(cut cs a b).map D.int:=by unfold cut;simp
theorem Y4{e:List D}{b:TJ}{ps:List P}:J8 (.lst e) (part (.con .non) .non) (part (.blt b ps) (.int i))=some (.own (cut e none (some i))):=rfl
inductive aak(ns:List Int)(_:Nat)(ρ:List Sl):Prop where|mk(cs:List Int)(s:Sl)(q0:ρ=[.val false (.lst (ns.map D.int)),.val false (.int 16),.own false (cs.map D.int),s])(q1:fr s=true)(q2:cs.length=16)
theorem wG{ns:List Int}(A:ns.length<=63)(k:∀cs:List Int,cs.length<=16->Q (.own (cs.map D.int)) [.val false (.lst (ns.map D.int)),.val false (.int 16)]):(run Γ w (n+1) 16 [.val false (.lst (ns.map D.int)),.val false (.int 16)]).sat Q:=by
 refine bf (d:=Xw) rfl rfl (by decide) ?_;refine fX (λρ=>ρ=[.val false (.lst (ns.map D.int)),.val false (.int 16),.own false ((replicate 16 (0:Int)).map D.int),.aP]) ?_ ?_;.simp[Xw];decide
 rintro _ rfl;symm;simp[show(ns.length:Int)<=1000000000 by omega];refine gR (aak ns) ?_ ?_ ⟨replicate 16 0,.aP,by simp,rfl,by simp⟩;.rintro i _ hi⟨cs,s,rfl,hs,e⟩;obtain⟨j,t,h⟩:∃j:Nat,(i:Int)%16=(j:Int)/\j<cs.length:=⟨i%16,by omega,by omega⟩;have u:at' (cs.map D.int) (j:Int)=some (.int cs[j]):=gP (by simp[h]);have y:at' (ns.map D.int) (i:Int)=some (.int ns[i]):=gP (by simp[hi]);have z:gw cs.length (j:Int)=some j:=Nt h;simp[hs];apply ak;simp[t,u,y,z];exact⟨cs.set j (cs[j]*1000003+ns[i]),.val false (.int i),by simp[map_set],rfl,by simpa using e⟩
 .rintro _⟨cs,s,rfl,hs,e⟩;symm;simp[Y4,Jg];exact k _ (le_trans QB (by omega))
theorem Vz{T:Int}:∀{l:List (Int×Int)},(∀e∈l,0<e.2)->0<=cN (gt T) l|[],_=>Int.le_refl _|x::l,h=>by have h1:=h x (by simp);have u:=Vz (T:=T) (l:=l) λy t=>h y (by simp[t]);show 0<=gt T x.1 x.2+cN (gt T) l;unfold gt at*;split<;>omega
theorem rH{T:Int}:∀{l:List (Int×Int)},(∀e∈l,T<e.1)->cN (gt T) l=0|[],_=>rfl|x::l,h=>by have h1:=h x (by simp);have t:=rH (T:=T) (l:=l) λy u=>h y (by simp[u]);show gt T x.1 x.2+cN (gt T) l=0;rw[t];unfold gt;rw[if_neg (by omega)];rfl
theorem qK{x:Int×Int}{l:List (Int×Int)}(h:(x::l).Pairwise (λa b=>a.1<b.1)):cN (gt x.1) (x::l)=x.2:=by have h:=List.pairwise_cons.mp h;show gt x.1 x.1 x.2+cN (gt x.1) l=_;rw[rH h.1];unfold gt;rw[if_pos (Int.le_refl _)];omega
theorem qR:∀{a b:List (Int×Int)},a.Pairwise (λa b=>a.1<b.1)->b.Pairwise (λa b=>a.1<b.1)->(∀t∈a,0<t.2)->(∀t∈b,0<t.2)->(∀T,cN (gt T) a=cN (gt T) b)->a=b
 |[],[],_,_,_,_,_=>rfl|[],y::b,_,u,_,B,h=>by have h1:=h y.1;rw[qK u]at h1;have I:=B y (by simp);have J:cN (gt y.1) []=0:=rfl;omega|x::a,[],A,_,C,_,h=>by have h1:=h x.1;rw[qK A]at h1;have I:=C x (by simp);have J:cN (gt x.1) []=0:=rfl;omega|x::a,y::b,A,u,C,B,h=>by
   have O:=C x (by simp);have U:=B y (by simp);have E:=List.pairwise_cons.mp A;have G:=List.pairwise_cons.mp u;have lt:¬ x.1<y.1:=λz=>by
    have h1:=h x.1;rw[qK A,rH λt hkv=>?_]at h1;.omega
    . rcases mem_cons.mp hkv with rfl|hkv;.exact z
      .have:=G.1 t hkv;omega
   have L:¬ y.1<x.1:=λz=>by
    have h1:=h y.1;rw[qK u,rH λt hkv=>?_]at h1;.omega
    . rcases mem_cons.mp hkv with rfl|hkv;.exact z
      .have:=E.1 t hkv;omega
   have H:x.1=y.1:=by omega
   have M:x.2=y.2:=by have h1:=h x.1;rw[qK A,H,qK u]at h1;exact h1
   have e:x=y:=Prod.ext_iff.mpr ⟨H,M⟩;subst e;rw[qR E.2 G.2 (λt z=>C t (by simp[z])) (λt z=>B t (by simp[z])) λT=>?_];have h1:gt T x.1 x.2+cN (gt T) a=gt T x.1 x.2+cN (gt T) b:=h T;omega
theorem Dm{T:Int}:∀{l:List (Int×Int)},cN (gt T) l=cN (vt T) l-cN (vt (T-1)) l
 |[]=>rfl|x::l=>by
   have e:=Dm (T:=T) (l:=l);have h:cN (gt T) (x::l)=gt T x.1 x.2+cN (gt T) l:=rfl;have t:cN (vt T) (x::l)=vt T x.1 x.2+cN (vt T) l:=rfl;have u:cN (vt (T-1)) (x::l)=vt (T-1) x.1 x.2+cN (vt (T-1)) l:=rfl;have y:gt T x.1 x.2=vt T x.1 x.2-vt (T-1) x.1 x.2:=by
    unfold gt vt;by_cases c:x.1<=T
    . by_cases d:x.1<=T-1;.rw[if_pos c,if_pos c,if_pos d,<-Int.mul_sub,show T-x.1+1-(T-1-x.1+1)=1 by omega,mul_one]
      .rw[if_pos c,if_pos c,if_neg d,show T-x.1+1=1 by omega,mul_one];omega
    .rw[if_neg c,if_neg c,if_neg (by omega)];rfl
   omega
theorem rE{T v:Int}:vt T k v=v*max 0 (T+1-k):=by
 unfold vt;split;.congr 1;omega
 .rw[Int.max_eq_left (by omega),mul_zero]
theorem jZ{H:Wy->Int}{b:List Wy}:∀{a:List Wy},jd H (a++b)=jd H a+jd H b|[]=>by simp[jd]|x::a=>by rw[cons_append,jd,jd,jZ];omega
def jc(ws:List Wy)(j:Nat)(v:Wy):List Wy:=ws.take j++v::ws.drop j
theorem p7:eV q (jc ws j v)=eV q ws+iw q v:=by
 unfold eV jc;rw[jZ];have:jd (iw q) ws=jd (iw q) (ws.take j)+jd (iw q) (ws.drop j):=by rw[<-jZ,List.take_append_drop]
 rw[this,jd];omega
theorem uP:(jc ws j v).length=ws.length+1:=by unfold jc;rw[length_append,length_cons,length_take,length_drop];omega
theorem kj{u:Wy}(h:u∈jc ws j v):u=v\/u∈ws:=by
 unfold jc at h;rcases mem_append.mp h with h|h;.exact .inr (List.mem_of_mem_take h)
 . rcases mem_cons.mp h with h|h;.exact .inl h
   .exact .inr (List.mem_of_mem_drop h)
theorem u6{q r:Int->Int}:∀{ws:List Wy},(∀v∈ws,q v.s=r v.s/\q v.t=r v.t)->eV q ws=eV r ws|[],_=>rfl|v::ws,h=>by have h1:=h v (by simp);have e:=u6 (q:=q) (r:=r) (ws:=ws) λu y=>h u (by simp[y]);show iw q v+eV q ws=iw r v+eV r ws;rw[e];unfold iw;rw[h1.1,h1.2]
structure G5(m:Int)(p:Nat)(ws:List Wy)(rs:List (Int×Int)):Prop where
 ok:∀v∈ws,v.Ok m
 tch:∀v∈ws,(v.s<=(p:Int))/\(v.t<=(p:Int)\/v.t=m-1)pos:∀r∈rs,1<=r.1/\0<=r.2
 le:∀T q,q 0=0->q (m-1)=T+1->cN (vt T) rs<=eV q ws
 ex:∀T,∃q:Int->Int,q 0=0/\q (m-1)=T+1/\eV q ws=cN (vt T) rs
theorem G5.least{T:Int}{p:Nat}(h:G5 m p ws rs):jl m ws T (cN (vt T) rs):=⟨h.ex T,h.le T⟩
theorem jO{l:List (Int×Int)}{v:Int}:cN W (l++[(k,v)])=cN W l+W k v:=by rw[j5];show cN W l+(W k v+0)=_;omega
theorem G5.one{r e:Int}(h:G5 m 0 ws rs)(m0:2<=m)(r0:0<=r)(r1:r<=1000000000)(h0:1<=e)(h1:e<=1000000):G5 m 0 (ws++[⟨0,m-1,r,e⟩]) (rs++[(e,r)]):=by
 have hd:∀q,eV q (ws++[⟨0,m-1,r,e⟩])=eV q ws+r*max 0 (q (m-1)-q 0-e):=λq=>by unfold eV;rw[jZ];show _+(iw q _+0)=_;rw[Int.add_zero];rfl
 refine⟨λv hv=>?_,λv hv=>?_,λx hx=>?_,λT q t u=>?_,λT=>?_⟩
 . rcases mem_append.mp hv with hv|hv;.exact h.ok v hv
   .rw[mem_singleton.mp hv];exact⟨by show(0:Int)<=0;omega,by show(0:Int)<m;omega,by show 0<=m-1;omega,by show m-1<m;omega,by show(0:Int)≠m-1;omega,r0,r1,h0,h1⟩
 . rcases mem_append.mp hv with hv|hv;.exact h.tch v hv
   .rw[mem_singleton.mp hv];exact⟨by show(0:Int)<=_;omega,.inr rfl⟩
 . rcases mem_append.mp hx with hx|hx;.exact h.pos x hx
   .rw[mem_singleton.mp hx];exact⟨h0,r0⟩
 .have:=h.le T q t u;rw[hd,jO,rE,t,u,show T+1-0-e=T+1-e by omega];omega
 .obtain⟨q,t,u,y⟩:=h.ex T;exact⟨q,t,u,by rw[hd,jO,rE,t,u,y,show T+1-0-e=T+1-e by omega]⟩
theorem Qe{r s:Int}(r0:0<=r)(s0:0<=s):min r s*max 0 (a+b)<=r*max 0 a+s*max 0 b:=by have h1:min r s*max 0 a<=r*max 0 a:=Int.mul_le_mul_of_nonneg_right (by omega) (by omega);have h:min r s*max 0 b<=s*max 0 b:=Int.mul_le_mul_of_nonneg_right (by omega) (by omega);have e:min r s*max 0 (a+b)<=min r s*(max 0 a+max 0 b):=Int.mul_le_mul_of_nonneg_left (by omega) (by omega);rw[mul_add]at e;omega
theorem G5.two{r s h:Int}{p i:Nat}(e:G5 m p ws rs)(E:(p:Int)+1<m-1)(r0:0<=r)(r1:r<=1000000000)(s0:0<=s)(s1:s<=1000000000)(y:1<=g)(z:g<=1000000)(h0:1<=h)(h1:h<=1000000):G5 m (p+1) (jc (jc ws i ⟨0,(p:Int)+1,r,g⟩) j ⟨(p:Int)+1,m-1,s,h⟩) (rs++[(g+h,min r s)]):=by
 have hd:∀q,eV q (jc (jc ws i ⟨0,(p:Int)+1,r,g⟩) j ⟨(p:Int)+1,m-1,s,h⟩)=eV q ws+(r*max 0 (q ((p:Int)+1)-q 0-g)+s*max 0 (q (m-1)-q ((p:Int)+1)-h)):=λq=>by rw[p7,p7];show eV q ws+r*max 0 (q ((p:Int)+1)-q 0-g)+s*max 0 (q (m-1)-q ((p:Int)+1)-h)=_;omega
 refine⟨λv hv=>?_,λv hv=>?_,λx hx=>?_,λT q t u=>?_,λT=>?_⟩
 . rcases kj hv with rfl|hv;.exact⟨by show(0:Int)<=(p:Int)+1;omega,by show(p:Int)+1<m;omega,by show 0<=m-1;omega,by show m-1<m;omega,by show(p:Int)+1≠m-1;omega,s0,s1,h0,h1⟩
   . rcases kj hv with rfl|hv;.exact⟨by show(0:Int)<=0;omega,by show(0:Int)<m;omega,by show 0<=(p:Int)+1;omega,by show(p:Int)+1<m;omega,by show(0:Int)≠(p:Int)+1;omega,r0,r1,y,z⟩
     .exact e.ok v hv
 . rcases kj hv with rfl|hv;.exact⟨by show(p:Int)+1<=((p+1:Nat):Int);omega,.inr rfl⟩
   . rcases kj hv with rfl|hv;.exact⟨by show(0:Int)<=((p+1:Nat):Int);omega,.inl (by show(p:Int)+1<=((p+1:Nat):Int);omega)⟩
     .have:=e.tch v hv;exact⟨by omega,by omega⟩
 . rcases mem_append.mp hx with hx|hx;.exact e.pos x hx
   .rw[mem_singleton.mp hx];exact⟨by show 1<=g+h;omega,by show 0<=min r s;omega⟩
 .have:=e.le T q t u;have A:=Qe (a:=q ((p:Int)+1)-q 0-g) (b:=q (m-1)-q ((p:Int)+1)-h) r0 s0;rw[show q ((p:Int)+1)-q 0-g+(q (m-1)-q ((p:Int)+1)-h)=T+1-(g+h)by omega]at A;rw[hd,jO,rE];omega
 . obtain⟨q,t,u,B⟩:=e.ex T;have fin:∀x:Int,r*max 0 (x-g)+s*max 0 (T+1-x-h)=min r s*max 0 (T+1-(g+h))->∃q:Int->Int,q 0=0/\q (m-1)=T+1/\eV q (jc (jc ws i ⟨0,(p:Int)+1,r,g⟩) j ⟨(p:Int)+1,m-1,s,h⟩)=cN (vt T) (rs++[(g+h,min r s)]):=λx hx=>by
    refine⟨λa=>if a=(p:Int)+1 then x else q a,?_,?_,?_⟩;.show(if(0:Int)=(p:Int)+1 then x else q 0)=0;rw[if_neg (by omega)];exact t
    .show(if m-1=(p:Int)+1 then x else q (m-1))=_;rw[if_neg (by omega)];exact u
    . rw[hd,jO,rE,<-hx];have C:eV (λa=>if a=(p:Int)+1 then x else q a) ws=eV q ws:=u6 λv hv=>by have:=e.tch v hv;exact⟨if_neg (by omega),if_neg (by omega)⟩
      rw[C,B];show _+(r*max 0 ((if(p:Int)+1=(p:Int)+1 then x else q ((p:Int)+1))-(if(0:Int)=(p:Int)+1 then x else q 0)-g)+s*max 0 ((if m-1=(p:Int)+1 then x else q (m-1))-(if(p:Int)+1=(p:Int)+1 then x else q ((p:Int)+1))-h))=_;rw[if_pos rfl,if_neg (by omega),if_neg (by omega),t,u,show x-0-g=x-g by omega]
   by_cases c:r<=s;.refine fin (T+1-h) ?_;rw[show T+1-(T+1-h)-h=0 by omega,show T+1-h-g=T+1-(g+h)by omega,show min r s=r by omega];simp
   .refine fin g ?_;rw[show g-g=0 by omega,show T+1-g-h=T+1-(g+h)by omega,show min r s=s by omega];simp
theorem Dj{c:Call}{x:Nat}{i e:P}:ex c n (.ins x i e) ρ=(lift (xG ρ x) ρ).bind λ_ ρ=>(bF (isVar i) (ev c i) ρ).bind λk ρ=>(ev c e ρ).bind λr ρ=>match ρ[x]?,k with|some (.own b h),.int j=>if 0<=j/\j<=1000000/\h.length<lim then .ok .next (ρ.set x (.own b (h.take j.toNat++r.d::h.drop j.toNat)))else .stuck|_,_=>.stuck:=(rfl)
theorem ins_map:(ws.map Wy.d).take j++v.d::(ws.map Wy.d).drop j=(jc ws j v).map Wy.d:=by unfold jc;rw[map_append,map_cons,List.map_take,map_drop]
inductive JD1(y b p l m:Int)(i:Nat)(ρ:List Sl):Prop where|mk(x z:Int)(ws:List Wy)(rs:List (Int×Int))(s6:Sl)(q0:ρ=[.own false [.int x,.int y,.int z],.val false (.int b),.val false (.int p),.val false (.int l),.own false (ws.map Wy.d),.own false (rs.map cQ),s6,.aP,.aP,.aP])(q1:fr s6=true)(q2:G5 m 0 ws rs)(q3:ws.length=i)(q4:rs.length=i)
inductive JD2(y b p l m:Int)(N:Nat)(a6:Sl)(i:Nat)(ρ:List Sl):Prop where|mk(x z:Int)(ws:List Wy)(rs:List (Int×Int))(s7 s8 s9:Sl)(q0:ρ=[.own false [.int x,.int y,.int z],.val false (.int b),.val false (.int p),.val false (.int l),.own false (ws.map Wy.d),.own false (rs.map cQ),a6,s7,s8,s9])(q1:A3 (fr s7=true) (fr s8=true) (fr s9=true))(q2:G5 m i ws rs)(q3:ws.length=N+2*i)(q4:rs.length=N+i)
structure Drn(m:Int)(ws:List Wy)(rs:List (Int×Int)):Prop where
 ok:Ed m ws
 pos:∀r∈rs,1<=r.1/\0<=r.2
 lst:∀T,jl m ws T (cN (vt T) rs)len:rs.length<=8
theorem Ay{x y z:Int}(k:∀(m:Int)(ws:List Wy)(rs:List (Int×Int))(s:Sl),Drn m ws rs->Q (.val (.tup [bU m ws,.lst (rs.map cQ)])) [s]):(run Γ w (n+3) 13 [.own false [.int x,.int y,.int z]]).sat Q:=by
 refine bf (d:=Yo) rfl rfl (by decide) ?_;symm;simp[Yo];refine dw (by decide) (by decide) λb x z b0 b1=>?_;simp;apply ak;simp;refine dw (by decide) (by decide) λe x z B H=>?_;obtain⟨p,ep,p0,p1⟩:=K3 (ns:=[4,3,1000000001]) (lo:=1) (hi:=1000000001) B (by simpa using H) (by simp);simp only[map_cons,map_nil]at ep;simp[ep];apply ak;simp;refine dw (by decide) (by decide) λe x z B H=>?_;obtain⟨l,U,l0,l1⟩:=K3 (ns:=[3,6,1000000]) (lo:=1) (hi:=1000000) B (by simpa using H) (by simp);simp only[map_cons,map_nil]at U;simp[U];apply ak;simp;apply ak;simp;obtain⟨m,hm⟩:∃m,m=b+2:=⟨_,rfl⟩;symm;simp;refine dw (by decide) (by decide) λc x z c0 c1=>?_;simp[show c<=1000000000 by omega];refine⟨by omega,?_⟩;refine gR (JD1 y b p l m) ?_ ?_ ⟨x,z,[],[],.aP,rfl,rfl,⟨by simp,by simp,by simp,λT q _ _=>Int.le_refl _,λT=>⟨λa=>if a=0 then 0 else T+1,rfl,if_neg (by omega),rfl⟩⟩,rfl,rfl⟩
 . rintro i _ hi⟨x,z,ws,rs,s6,rfl,X,t,I,u⟩;simp[X];apply ak;simp;refine fO (by omega) (iB (by omega)) λr x z r0 r1=>?_;simp;refine fO (by omega) (iB (by omega)) λh x z h0 h1=>?_;have B:ws.map Wy.d++[D.tup [.int 0,.int (b+1),.int r,.int (1+h)]]=(ws++[(⟨0,m-1,r,1+h⟩:Wy)]).map Wy.d:=by rw[map_append];show _=_++[D.tup [.int 0,.int (m-1),.int r,.int (1+h)]];rw[show m-1=b+1 by omega]
   simp[show ws.length<16777216 by omega];apply ak;simp[Jj,show rs.length<16777216 by omega];rw[B];have er:(rs++[(1+h,r)]).map cQ=rs.map cQ++[D.tup [.int (1+h),.int r]]:=by rw[map_append];rfl
   exact⟨x,z,ws++[⟨0,m-1,r,1+h⟩],rs++[(1+h,r)],_,by rw[er],rfl,t.one (by omega) r0 (by omega) (by omega) (by omega),by simp;omega,by simp;omega⟩
 rintro _⟨x,z,ws,rs,s6,rfl,X,t,I,u⟩;simp;apply ak;simp[show b+1<=1000000000 by omega,show-1000000000<=b+1 by omega];refine gR (JD2 y b p l m c.toNat s6) ?_ ?_ ⟨x,z,ws,rs,.aP,.aP,.aP,rfl,⟨rfl,rfl,rfl⟩,t,by omega,by omega⟩
 . rintro i _ hi⟨x,z,ws,rs,s7,s8,s9,rfl,⟨h7,h8,h9⟩,t,I,u⟩;have af:(i:Int)<b:=by omega
   simp[h7];apply ak;simp;refine fO (by omega) (iB (by omega)) λr x z r0 r1=>?_;simp;refine fO (by omega) (iB (by omega)) λg x z g0 g1=>?_;simp[h8];apply ak;simp;refine fO (by omega) (iB (by omega)) λs x z s0 s1=>?_;simp;refine fO (by omega) (iB (by omega)) λh x z h0 h1=>?_;simp[h9];have e8:D.tup [.int 0,.int (1+(i:Int)),.int r,.int (1+g)]=Wy.d ⟨0,(i:Int)+1,r,1+g⟩:=by rw[Int.add_comm 1 (i:Int)];rfl
   have e9:D.tup [.int (1+(i:Int)),.int (b+1),.int s,.int (1+h)]=Wy.d ⟨(i:Int)+1,m-1,s,1+h⟩:=by rw[Int.add_comm 1 (i:Int),show b+1=m-1 by omega];rfl
   have hT:=λa c=>t.two (i:=a) (j:=c) (by omega) r0 (by omega) s0 (by omega) (show 1<=1+g by omega) (by omega) (show 1<=1+h by omega) (by omega);rw[e8,e9];generalize J:(⟨0,(i:Int)+1,r,1+g⟩:Wy)=Y at*;generalize L:(⟨(i:Int)+1,m-1,s,1+h⟩:Wy)=Z at*;symm;simp[Dj];refine dw (by omega) (iB (by omega)) λC x z j0 ag=>?_;simp[show 0<=C by omega,show C<=1000000 by omega,show ws.length<lim by show _<16777216;omega];rw[<-List.map_take,<-map_drop,List.map_take,map_drop,ins_map];have ah:=uP (ws:=ws) (j:=C.toNat) (v:=Y);generalize M:jc ws C.toNat Y=A at*;symm;simp[Dj];refine dw (by omega) (iB (by omega)) λE x z ai ae=>?_;simp[show 0<=E by omega,show E<=1000000 by omega,show A.length<lim by show _<16777216;omega];rw[<-List.map_take,<-map_drop,List.map_take,map_drop,ins_map];have al:=uP (ws:=A) (j:=E.toNat) (v:=Z);have G:=hT C.toNat E.toNat;rw[M]at G;generalize am:jc A E.toNat Z=O at*;symm;rw[<-J,<-L];simp[Wy.d,show rs.length<16777216 by omega];have em:(if s<r then s else r)=min r s:=by split<;>omega
   rw[em];refine⟨x,z,O,rs++[(1+g+(1+h),min r s)],_,_,_,by rw[map_append];rfl,⟨rfl,rfl,rfl⟩,G,by omega,by simp;omega⟩
 rintro _⟨x,z,ws,rs,s7,s8,s9,rfl,_,t,I,u⟩;symm;simp;rw[show b+2=m by omega];exact k m ws rs _ ⟨⟨by omega,by omega,by omega,t.ok⟩,t.pos,λT=>t.least,by omega⟩
structure Due(rs us:List (Int×Int)):Prop where
 so:us.Pairwise (λa b=>a.1<b.1)pos:∀kv∈us,0<kv.2
 sm:∀W,Kh W->cN W us=cN W rs
 len:us.length<=rs.length
structure Duk(rs kvs:List (Int×Int)):Prop where
 nd:(kvs.map (·.1)).Nodup
 pos:∀kv∈kvs,0<kv.2
 sm:∀W,Kh W->cN W kvs=cN W rs
 len:kvs.length<=rs.length
theorem UL(h:Kh W):W k 0=0:=by have:=h k 0 0;rw[Int.add_zero]at this;omega
theorem Duk.m9{rs kvs:List (Int×Int)}(h:Duk rs kvs)(G:kvs.length<=16777216):∃t,HH.m9 (kvs.map cQ)=t.map cQ/\Due rs t:=by
 have A:=o7 (kvs.map cQ);have hs:=nH (kvs.map cQ);have B:((HH.m9 (kvs.map cQ)).map J5).map cQ=HH.m9 (kvs.map cQ):=by rw[map_map];refine(map_congr_left λd hd=>?_).trans (List.map_id _);obtain⟨p,_,rfl⟩:=mem_map.mp (A.mem_iff.mp hd);rfl
 have u:((HH.m9 (kvs.map cQ)).map J5).Perm kvs:=by have:=A.map J5;rw[map_map]at this;have e:kvs.map (J5 ∘ cQ)=kvs:=(map_congr_left λp _=>rfl).trans (List.map_id _);rw[e]at this;exact this
 refine⟨(HH.m9 (kvs.map cQ)).map J5,B.symm,⟨?_,λC y=>h.pos C (u.mem_iff.mp y),λW E=>by rw[Cu u,h.sm W E],by rw[u.length_eq];exact h.len⟩⟩;have nd:(((HH.m9 (kvs.map cQ)).map J5).map (·.1)).Nodup:=(u.map (·.1)).nodup_iff.mpr h.nd;rw[<-B]at hs;generalize(HH.m9 (kvs.map cQ)).map J5=t at*;rw[pairwise_map]at hs;have z:t.Pairwise λa b=>a.1≠b.1:=pairwise_map.mp nd;refine(hs.and z).imp λ{a b}⟨h1,h2⟩=>?_;have h1:(!aN [b.1,b.2] [a.1,a.2])=true:=h1;simp[aN]at h1;omega
inductive JDu(rs:List (Int×Int))(s0:Sl)(r:List D)(ρ:List Sl):Prop where|mk(cA us kvs:List (Int×Int))(s2 s3:Sl)(q0:ρ=[s0,.eO (.k kvs),s2,s3])(q1:(fr s2=true/\fr s3=true))(q2:r=us.map cQ)(q3:cA++us=rs)(q4:Duk cA kvs)
theorem Hd(I:∀r∈rs,1<=r.1/\0<=r.2)(Y:rs.length<=8)(k:∀h,Due rs h->Q (.own (h.map cQ)) [.val false (.lst (rs.map cQ))]):(run Γ w (n+1) 14 [.val false (.lst (rs.map cQ))]).sat Q:=by
 refine bf (d:=Xv) rfl rfl (by decide) ?_;symm;simp[Xv,yO];apply ak;simp;refine bW (JDu rs _) ?_ ?_ ⟨[],rs,[],.aP,.aP,rfl,⟨rfl,rfl⟩,rfl,rfl,⟨by simp,by simp,λW _=>rfl,by simp⟩⟩;.rintro d r _⟨y,h,kvs,s2,s3,rfl,⟨E,G⟩,hr,hd,t⟩;cases h with|nil=>cases hr|cons u h=>
     obtain⟨rfl,rfl⟩:d=cQ u/\r=h.map cQ:=by simpa using hr
     have Z:=I u (by rw[<-hd];simp);have J:y.length<=rs.length:=by rw[<-hd];simp
     have B:=t.len;have z:(y++[u])++h=rs:=by rw[append_assoc];exact hd
     simp[cQ,E,G];apply ak;by_cases c:0<u.2
     . simp[c];symm;simp[yJ,Cz,Cp];rw[Kl (by show _<16777216;omega)];simp;obtain⟨L,q2,M,O⟩:=oU (k:=u.1) (x:=u.2) t.nd;refine⟨y++[u],h,putD kvs u.1 (gv kvs u.1+u.2),_,_,rfl,⟨rfl,rfl⟩,rfl,z,⟨L,λH C=>?_,λW A=>?_,by simp;omega⟩⟩
       . rcases M H C with e|e;.have:=KC (k:=u.1) t.pos;rw[e];show 0<_+_;omega
         .exact t.pos H e
       .rw[O W A,t.sm W A,j5];show _=_+(W u.1 u.2+0);omega
     .simp[c];refine⟨y++[u],h,_,_,_,rfl,⟨rfl,rfl⟩,rfl,z,⟨t.nd,t.pos,λW A=>?_,by simp;omega⟩⟩;rw[t.sm W A,j5,show u=(u.1,0)from Prod.ext_iff.mpr ⟨rfl,by show u.2=0;omega⟩];show _=_+(W u.1 0+0);rw[UL A];omega
 . rintro _⟨y,h,kvs,s2,s3,rfl,⟨E,G⟩,hr,hd,t⟩;have:h=[]:=by cases h with|nil=>rfl|cons _ _=>cases hr
   subst this;rw[append_nil]at hd;subst hd;have B:=t.len;obtain⟨h,U,X⟩:=t.m9 (by omega);simp;apply ak;simp[show kvs.length<=16777216 by omega,U];exact k h X
theorem Dq{fs:List Int}{d:Int}{t:List (Int×Int)}(u:Drn m ws rs)(C:Ends m ws cs fs F d es)(y:Ld ws cs kvs)(A:Due rs t):kvs=t:=by
 have e:cT m ws cs:=⟨λv h=>(u.ok.ok v h).h0,fs,F,d,es,C⟩;have h:∀T,cN (vt T) kvs=cN (vt T) t:=λT=>by
  rw[y.sm _ Dn,A.sm _ Dn];have E:cG (λx=>vt T (bu ws x.1) x.2) cs=val ws T cs:=rfl;rw[E];by_cases c:0<=T;.exact(e.least c).uniq (u.lst T)
  . rw[e.bZ (by omega)];have:∀l:List (Int×Int),(∀r∈l,1<=r.1/\0<=r.2)->cN (vt T) l=0:=λl=>by induction l with|nil=>intro _;rfl|cons x l G=>intro B;have h1:=B x (by simp);have H:=G λr hr=>B r (by simp[hr]);show vt T x.1 x.2+cN (vt T) l=0;rw[H];unfold vt;rw[if_neg (by omega)];rfl
    exact(this rs u.pos).symm
 exact qR y.so A.so (λI z=>(y.nn I z).2) A.pos λT=>by rw[Dm,Dm,h,h]
theorem qm(k:Q (.val (.bl true)) [.val false (.int i)]):(run Γ w (n+1) 15 [.val false (.int i)]).sat Q:=by refine bf (d:=XR) rfl rfl (by decide) ?_;symm;simp[XR];exact k
theorem U0{e:List (Int×Int)}(h:e.length<=1000):gd 2 (.lst (e.map cQ))=true:=by show(decide ((e.map cQ).length<=1000)&&(e.map cQ).all (gd 1))=true;rw[and_eq_true];refine⟨by simpa using h,?_⟩;rw[all_eq_true];intro d hd;obtain⟨p,_,rfl⟩:=mem_map.mp hd;rfl
inductive J28(v:Sl)(r:List D)(ρ:List Sl):Prop where|mk(s1:Sl)(s2:Sl)(s3:Sl)(s4:Sl)(s5:Sl)(s6:Sl)(q0:ρ=[v,s1,s2,s3,s4,s5,s6])(q1:A6 (fr s1=true) (fr s2=true) (fr s3=true) (fr s4=true) (fr s5=true) (fr s6=true))(q2:∀d∈r,∃i,d=D.int i)
inductive K28(a0 a1 a2 a3 a4:Sl)(_:Nat)(ρ:List Sl):Prop where|mk(s5:Sl)(s6:Sl)(q0:ρ=[a0,a1,a2,a3,a4,s5,s6])(q1:(fr s5=true/\fr s6=true))
theorem Ia(ns:List Int)(I:ns.length<=63):∃as,run Γ 100000000 40 17 [.val false (.lst (ns.map D.int))]=.ok (.val (.bl true)) as:=by
 suffices h:(run Γ 100000000 40 17 [.val false (.lst (ns.map D.int))]).sat λr _=>r=.val (.bl true)by obtain⟨a,ρ,e,rfl⟩:=sat_iff.mp h;exact⟨ρ,e⟩
 refine bf (d:=WL) rfl rfl (by decide) ?_;symm;simp[WL];refine wG I λcs J=>?_;simp;refine bW (J28 (.val false (.lst (ns.map D.int)))) ?_ ?_ ⟨_,_,_,_,_,_,rfl,⟨rfl,rfl,rfl,rfl,rfl,rfl⟩,λd hd=>?_⟩
 . rintro d r _⟨s1,s2,s3,s4,s5,s6,rfl,⟨h1,L,M,O,u,z⟩,hd⟩;obtain⟨x,rfl⟩:=hd d (by simp);simp[h1];apply ak;simp;refine Dz λa y c=>?_;simp;refine Ay λm ws rs s A=>?_;have B:∀s ρ,bk [Arg.tmp [D.int a,D.int y,D.int c]] [s] ρ=ρ:=λs ρ=>rfl;simp[B,L,M];apply ak;simp;refine Hd A.pos A.len λU H=>?_;have Z:=H.len;have ae:=A.len;have C:=ne_self (k:=2) (d:=.lst (U.map cQ)) (by omega) (U0 (by omega));simp[O];apply ak;simp;refine gR (K28 _ _ _ _ _) ?_ ?_ ⟨s5,s6,rfl,u,z⟩
   . rintro t _ ht⟨s5,s6,rfl,u,z⟩;simp[u];apply ak;simp;refine Ah (by omega) A.ok λcs fs F d es kvs _ hE hb _ _=>?_;obtain rfl:=Dq A hE hb H;simp[z];apply ak;simp[C,show kvs.length<=16777216 by omega];refine iJ (λρ=>∃s,ρ=[_,_,_,_,_,_,.lent (kvs.map cQ),s]/\fr s=true) (λ_=>.bl true) ⟨.aP,rfl,rfl⟩ ?_ ?_;.rintro d hd _⟨s,rfl,hs⟩;obtain⟨p,_,rfl⟩:=mem_map.mp hd;simp[hs,cQ]
     rintro _⟨s,rfl,hs⟩;have E:((kvs.map cQ).map λ_=>D.bl true).mapM wW=some ((kvs.map cQ).map λ_=>true):=yL;have G:((kvs.map cQ).map λ_=>true).all id=true:=all_true;generalize((kvs.map cQ).map λ_=>D.bl true)=X at*;generalize((kvs.map cQ).map λ_=>true)=Y at*;simp[E,G];apply ak;simp[show kvs.length<=16777216 by omega];refine iJ (λρ=>∃s,ρ=[_,_,_,_,_,_,.lent (kvs.map cQ),s]/\fr s=true) (λ_=>.bl true) ⟨.aP,rfl,rfl⟩ ?_ ?_;.rintro d hd _⟨s,rfl,hs⟩;obtain⟨p,_,rfl⟩:=mem_map.mp hd;simp[hs,cQ];refine qm ?_;simp;refine qm ?_;simp
     rintro _⟨s,rfl,hs⟩;have E:((kvs.map cQ).map λ_=>D.bl true).mapM wW=some ((kvs.map cQ).map λ_=>true):=yL;have G:((kvs.map cQ).map λ_=>true).all id=true:=all_true;generalize((kvs.map cQ).map λ_=>D.bl true)=X at*;generalize((kvs.map cQ).map λ_=>true)=Y at*;simp[E,G];apply ak;simp[show kvs.length<16777216 by omega];exact⟨_,_,rfl,rfl,rfl⟩
   .rintro _⟨s5,s6,rfl,u,z⟩;simp;exact⟨_,_,_,_,_,_,rfl,⟨rfl,rfl,rfl,rfl,u,z⟩,λd h=>hd d (mem_cons_of_mem _ h)⟩
 .rintro _⟨s1,s2,s3,s4,s5,s6,rfl,_,hd⟩;symm;simp
 .obtain⟨i,_,rfl⟩:=mem_map.mp hd;exact⟨_,rfl⟩
end T
end
structure PySem.W.Fast:Prop where(tw3155739968094045793 tw5103386140566377212 tw1307647850624721733 tw13694713524678649569 tw10034931833782014155 tw17038303170465943322 tw2667162771473680058 tw6136263283618692402 tw2829406075383534748 tw4419830984987348692 tw16138917450811816737 tw14565082436421172938 tw13666572675198777551 tw784547864204413549 tw8610459725318682677 tw458627783004263132 tw1667182195223776857 tw1717588013552186528 tw15039600896608138946 tw15632879443894877844 tw10573939300555971382 tw3889996043532825721 tw11494662662072728882 tw10192274268069352657 tw17293532545915509623 tw72196814765264091 tw2658099856662082674 tw5890626003324005443 tw7496275444080702276 tw14378195331346102239 tw2885961775627232638 tw16989528334585595786 tw5730561631822241782 tw8400878405069583115 tw17730683287509853076 tw4269864156186686338 tw9412280794857808840 tw12444397430713043871 tw5794011662063491426 tw9999161544776458089 tw6702034055353543910 tw3598057049688817147 tw9734127654000741761 tw5752573688341039865 tw18273750097449954440 tw4292229883090833812 tw14288745516445602377 tw15882837066442295564 tw4685952152464571366 tw18332241986791554507 tw18318645991001091905 tw1228945088324120660 tw14690188252719575133 tw2881725364642327590 tw9126960135982079427 tw9250668312734723908 tw16200836271128010189 tw15498938332039927847 tw4974799378770238119 tw12330950441223375223 tw9419649524216645947 tw13471351452582082970 tw1268766112383974104 tw14743623994795884946 tw4564720274845746891 tw16231079109045067923 tw10252768151532420855 tw6447242293656123621 tw9642549012205492259 tw12701735620373092323 tw2677495928617955343 tw7459068592064376415 tw14227931767273496619 tw1523681608035355989 tw10979063894623635079 tw14548296651972209138 tw1772349713904451515 tw8947194816035342592 tw10835777925691337897 tw18395248461304213154 tw12803300547755427807 tw3434812202590782411 tw11119553290501889271 tw5303294139024966752 tw16960093257066766974 tw2477342009167674852 tw18311343721289756538 tw1712648360693260756 tw10711769989550013902 tw4940176132446548403 tw6031913280703538806 tw22240641956341859 tw6772132064873282344 tw16607900663791431833 tw5430388819726280631 tw12027639469963551394 tw6427742644768854567 tw10489139822759107257 tw11961631239448870446 tw8740405546960869466 tw4921748969358662744 tw1603589243705205263 tw10529180011281800515 tw1150243773599555528 tw12506348421275807410 tw2999850662396948582 tw13078560216000398554 tw4121725623258084239 tw4725913685173317396 tw11367993432822946506 tw17615831103951454573 tw15563115577067753682 tw6223567809723145492 tw6056393536307880282 tw15708102863902992959 tw16875094555836151127 tw7193109125744342237:True)
namespace T
open PySem L2 PySem.Spec PyProof.Rows HH
theorem Te{P:List Value → Prop}{n:Nat}(h:∀(a:Value)(b:List Value),b.length=n → P (a::b))(b:List Value)(c:b.length=n+1):P b:=by cases b with|nil=>cases c|cons a b=>exact h a b (Nat.succ.inj c)
theorem lk0{P:List Value → Prop}(h:P [])(b:List Value)(c:b.length=0):P b:=by cases b with|nil=>exact h|cons a b=>cases c
theorem wX{P:List Value → Prop}(h:∀a,P [a]):∀b:List Value,b.length=1 → P b:=Te λa=>lk0 (h a)
theorem xn{P:List Value → Prop}(h:∀a b,P [a,b]):∀c:List Value,c.length=2 → P c:=Te λa=>wX (h a)
theorem Jh{P:List Value → Prop}(h:∀a b c,P [a,b,c]):∀e:List Value,e.length=3 → P e:=Te λa=>xn (h a)
theorem lk4{P:List Value → Prop}(h:∀a b c d,P [a,b,c,d]):∀e:List Value,e.length=4 → P e:=Te λa=>Jh (h a)
theorem lk5{P:List Value → Prop}(h:∀a b c d e,P [a,b,c,d,e]):∀f:List Value,f.length=5 → P f:=Te λa=>lk4 (h a)
local macro_rules|`(term|‹$p›)=>`(λ_ _ _ _ _ _=>$p)
structure Txt(K:PySem.W.Frag):Prop where
 D0:cI K "step_places" s0
 D1:cI K "step_hours" s1
 D2:cI K "step_room" s2
 D3:cI K "steps_hours" s3
 D4:cI K "open_steps" s4
 D5:cI K "shortest_come" s5
 D6:cI K "steps_to" s6
 D7:cI K "stream_with" s7
 D8:cI K "chains_to_end" s8
 D9:cI K "bends_of" s9
 D10:cI K "_law_pool" pI
 D11:cI K "_law_next" Ym
 D12:cI K "_law_wide" s12
 D13:cI K "_law_drawn" s13
 D14:cI K "_law_due" Z9
 D15:cI K "_law_whole" s15
 D16:cI K "_law_folded" Y9
 D17:cI K "law" s17
 vR:PySem.W.nsIn K mainGlobals "all"=some none
 yd:PySem.W.nsIn K mainGlobals "bool"=some none
 GQ:PySem.W.nsIn K mainGlobals "int"=some none
 aY:PySem.W.nsIn K mainGlobals "isinstance"=some none
 dC:PySem.W.nsIn K mainGlobals "len"=some none
 eN:PySem.W.nsIn K mainGlobals "list"=some none
 qU:PySem.W.nsIn K mainGlobals "max"=some none
 kJ:PySem.W.nsIn K mainGlobals "min"=some none
 bM:PySem.W.nsIn K mainGlobals "range"=some none
 jE:PySem.W.nsIn K mainGlobals "reversed"=some none
 fP:PySem.W.nsIn K mainGlobals "sorted"=some none
 GP:PySem.W.nsIn K mainGlobals "sum"=some none
 dm:PySem.W.nsIn K mainGlobals "tuple"=some none
noncomputable def qH{K:PySem.W.Frag}(T:Txt K):Nat->Addr:=λk=>0
structure Oks(Pg:Program)(w:World)(K:PySem.W.Frag)(mg:Str->Option Value)(base:Heap)(cl:Nat->Addr)(n:Nat):Prop where
 c0:bj Pg w K mg base n (run Γ 100000000 n) 0 "step_places" 2
 c1:bj Pg w K mg base n (run Γ 100000000 n) 1 "step_hours" 2
 c2:bj Pg w K mg base n (run Γ 100000000 n) 2 "step_room" 3
 c3:bj Pg w K mg base n (run Γ 100000000 n) 3 "steps_hours" 2
 c4:bj Pg w K mg base n (run Γ 100000000 n) 4 "open_steps" 2
 c5:bj Pg w K mg base n (run Γ 100000000 n) 5 "shortest_come" 3
 c6:bj Pg w K mg base n (run Γ 100000000 n) 6 "steps_to" 3
 c7:bj Pg w K mg base n (run Γ 100000000 n) 7 "stream_with" 3
 c8:bj Pg w K mg base n (run Γ 100000000 n) 8 "chains_to_end" 1
 c9:bj Pg w K mg base n (run Γ 100000000 n) 9 "bends_of" 1
 YJ:bj Pg w K mg base n (run Γ 100000000 n) 10 "_law_pool" 1
 YK:bj Pg w K mg base n (run Γ 100000000 n) 11 "_law_next" 2
 c12:bj Pg w K mg base n (run Γ 100000000 n) 12 "_law_wide" 2
 YL:bj Pg w K mg base n (run Γ 100000000 n) 13 "_law_drawn" 1
 YM:bj Pg w K mg base n (run Γ 100000000 n) 14 "_law_due" 1
 YQ:bj Pg w K mg base n (run Γ 100000000 n) 15 "_law_whole" 1
 c16:bj Pg w K mg base n (run Γ 100000000 n) 16 "_law_folded" 2
 c17:bj Pg w K mg base n (run Γ 100000000 n) 17 "law" 1
set_option maxHeartbeats 0 in
theorem Ge{Pg:Program}{w:World}{K:PySem.W.Frag}{mg:Str->Option Value}{base:Heap}(T:Txt K)(X:K.In base)(G:base.Ns mainGlobals mg):∀n,Oks Pg w K mg base (qH T) n
 |0=>{
   c0:=dg (ps:=["net","step"]) X G T.D0 rfl ‹xn λ_ _=>rfl›
   c1:=dg (ps:=["net","step"]) X G T.D1 rfl ‹xn λ_ _=>rfl›
   c2:=dg (ps:=["net","stream","step"]) X G T.D2 rfl ‹Jh λ_ _ _=>rfl›
   c3:=dg (ps:=["net","steps"]) X G T.D3 rfl ‹xn λ_ _=>rfl›
   c4:=dg (ps:=["net","stream"]) X G T.D4 rfl ‹xn λ_ _=>rfl›
   c5:=dg (ps:=["net","stream","begun"]) X G T.D5 rfl ‹Jh λ_ _ _=>rfl›
   c6:=dg (ps:=["net","come","place"]) X G T.D6 rfl ‹Jh λ_ _ _=>rfl›
   c7:=dg (ps:=["stream","steps","loads"]) X G T.D7 rfl ‹Jh λ_ _ _=>rfl›
   c8:=dg (ps:=["net"]) X G T.D8 rfl ‹wX λ_=>rfl›
   c9:=dg (ps:=["net"]) X G T.D9 rfl ‹wX λ_=>rfl›
   YJ:=dg (ps:=["cell"]) X G T.D10 rfl ‹wX λ_=>rfl›
   YK:=dg (ps:=["pool","base"]) X G T.D11 rfl ‹xn λ_ _=>rfl›
   c12:=dg (ps:=["pool","base"]) X G T.D12 rfl ‹xn λ_ _=>rfl›
   YL:=dg (ps:=["pool"]) X G T.D13 rfl ‹wX λ_=>rfl›
   YM:=dg (ps:=["rails"]) X G T.D14 rfl ‹wX λ_=>rfl›
   YQ:=dg (ps:=["found"]) X G T.D15 rfl ‹wX λ_=>rfl›
   c16:=dg (ps:=["script","most"]) X G T.D16 rfl ‹xn λ_ _=>rfl›
   c17:=dg (ps:=["script"]) X G T.D17 rfl ‹wX λ_=>rfl›}|n+1=>have a:=Ge (Pg:=Pg) (w:=w) (base:=base) T X G n
   {c0:=cX (ps:=["net","step"]) X G T.D0 rfl rfl ‹xn λ_ _=>rfl› λ_ _ F=>d0 (cl:=qH T) F
    c1:=cX (ps:=["net","step"]) X G T.D1 rfl rfl ‹xn λ_ _=>rfl› λ_ _ F=>d1 (cl:=qH T) F
    c2:=cX (ps:=["net","stream","step"]) X G T.D2 rfl rfl ‹Jh λ_ _ _=>rfl› λ_ _ F=>d2 (cl:=qH T) F
    c3:=cX (ps:=["net","steps"]) X G T.D3 rfl rfl ‹xn λ_ _=>rfl› λ_ _ F=>d3 (cl:=qH T) F (mg_none_of X G T.GP) a.c1
    c4:=cX (ps:=["net","stream"]) X G T.D4 rfl rfl ‹xn λ_ _=>rfl› λ_ _ F=>d4 (cl:=qH T) F (mg_none_of X G T.dC) (mg_none_of X G T.bM) a.c0 a.c2
    c5:=cX (ps:=["net","stream","begun"]) X G T.D5 rfl rfl ‹Jh λ_ _ _=>rfl› λ_ _ F=>d5 (cl:=qH T) F (mg_none_of X G T.dC) (mg_none_of X G T.eN) a.c4 a.c1 a.c0
    c6:=cX (ps:=["net","come","place"]) X G T.D6 rfl rfl ‹Jh λ_ _ _=>rfl› λ_ _ F=>d6 (cl:=qH T) F (mg_none_of X G T.jE) (mg_none_of X G T.dm) a.c0
    c7:=cX (ps:=["stream","steps","loads"]) X G T.D7 rfl rfl ‹Jh λ_ _ _=>rfl› λ_ _ F=>d7 (cl:=qH T) F (mg_none_of X G T.eN)
    c8:=cX (ps:=["net"]) X G T.D8 rfl rfl ‹wX λ_=>rfl› λ_ _ F=>d8 (cl:=qH T) F (mg_none_of X G T.dC) (mg_none_of X G T.kJ) a.c5 a.c2 a.c6 a.c7
    c9:=cX (ps:=["net"]) X G T.D9 rfl rfl ‹wX λ_=>rfl› λ_ _ F=>d9 (cl:=qH T) F (mg_none_of X G T.fP) a.c8 a.c3
    YJ:=cX (ps:=["cell"]) X G T.D10 rfl rfl ‹wX λ_=>rfl› λ_ _ F=>d10 (cl:=qH T) F (mg_none_of X G T.qU)
    YK:=cX (ps:=["pool","base"]) X G T.D11 rfl rfl ‹xn λ_ _=>rfl› λ_ _ F=>d11 (cl:=qH T) F
    c12:=cX (ps:=["pool","base"]) X G T.D12 rfl rfl ‹xn λ_ _=>rfl› λ_ _ F=>d12 (cl:=qH T) F a.YK
    YL:=cX (ps:=["pool"]) X G T.D13 rfl rfl ‹wX λ_=>rfl› λ_ _ F=>d13 (cl:=qH T) F (mg_none_of X G T.dC) (mg_none_of X G T.kJ) (mg_none_of X G T.bM) (mg_none_of X G T.dm) a.YK a.c12
    YM:=cX (ps:=["rails"]) X G T.D14 rfl rfl ‹wX λ_=>rfl› λ_ _ F=>d14 (cl:=qH T) F (mg_none_of X G T.fP)
    YQ:=cX (ps:=["found"]) X G T.D15 rfl rfl ‹wX λ_=>rfl› λ_ _ F=>d15 (cl:=qH T) F (mg_none_of X G T.yd) (mg_none_of X G T.GQ) (mg_none_of X G T.aY)
    c16:=cX (ps:=["script","most"]) X G T.D16 rfl rfl ‹xn λ_ _=>rfl› λ_ _ F=>d16 (cl:=qH T) F (mg_none_of X G T.dC) (mg_none_of X G T.qU) (mg_none_of X G T.kJ) (mg_none_of X G T.bM)
    c17:=cX (ps:=["script"]) X G T.D17 rfl rfl ‹wX λ_=>rfl› λ_ _ F=>d17 (cl:=qH T) F (mg_none_of X G T.vR) (mg_none_of X G T.aY) (mg_none_of X G T.eN) (mg_none_of X G T.bM) (mg_none_of X G T.dm) a.YL a.YM a.c16 a.YJ a.YQ a.c9}
set_option maxHeartbeats 0 in
theorem N7{Pg:Program}{w:World}{K:PySem.W.Frag}{mg:Str->Option Value}{h:Heap}{i:Addr}(T:Txt K)(X:K.In h)(G:h.Ns mainGlobals mg)(g:mg "law"=some (.ref i)):∃fd:FuncData,(∀(s:Shared)(u:Value),BindsTo s fd ⟨[u],[]⟩ [("script",u)])/\∀base:Heap,K.In base->base.Ns mainGlobals mg->lg Pg w K mg base Gm 40 i fd ["script"] (Il K 1 (run Γ 100000000 40 17)):=by
 obtain⟨f,fd,a,F⟩:=T.D17.ex;have e:=g.symm.trans (mg_of X G a);cases e;refine⟨fd,λs u=>?_,λbase j l=>?_⟩;.obtain⟨oc,q,kV,m,r,t,cdv,ct,o,rfl,lk,p⟩:=F.ex;exact .of_eq rfl
 .have b:=Ge (Pg:=Pg) (w:=w) (base:=base) T j l 39;exact d17 (cl:=qH T) (k:=39) (n:=100000000) (c:=run Γ 100000000 39) F (mg_none_of X G T.vR) (mg_none_of X G T.aY) (mg_none_of X G T.eN) (mg_none_of X G T.bM) (mg_none_of X G T.dm) b.YL b.YM b.c16 b.YJ b.YQ b.c9
end T
open PySem PySem.W PyProof.Rows
set_option maxRecDepth 100000 in
set_option maxHeartbeats 0 in
theorem PySem.Challenge.cw_hourhaul_k28_bends_of_rails_holds : PySem.Challenge.rw_hourhaul_k28_bends_of_rails.Holds := by
 w_on;o_law;k_head;(case hw=>w_witness2);k_fill;refine L2.Gq (l:=PySem.Challenge.rw_hourhaul_k28_bends_of_rails) (n:=63) (k:=40) (x:="script") (CX:=L2.Gm) (sp:=λK=>HH.Il K 1 (HH.run T.Γ 100000000 40 17)) rfl (by decide) rfl ⟨rfl,by decide,by decide⟩ (λw h Y=>PySem.W.kIn_of Y) ?F ?S ?C;case F=>
  intro w mg j h f G b;refine T.N7 ?T f G b;constructor;iterate 18(· refine' HH.Pa ?a ?l ?c ?k;case a|l|c|k=>k_is)
  iterate 13(· k_is)
 case S=>intro K H a ns g m i;obtain⟨as,e⟩:=T.Ia ns g;exact HH.Ab i e
 case C=>exact λH s e o z=>z
