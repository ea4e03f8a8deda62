import PyProof.Rows.All
import Wide.All
import OpenK.AllK
import Wide.FinOn
import Lean
import PyProof.EqAt
import PyProof.EqKinds
import PyProof.TupleCall
import PySem.Str
import PySem.Builtin.Int.W1All
import PyProof.NeKinds
import PyProof.ZipIter
import PyProof.SumWalkG
import PyProof.MinMaxWalk
import PyProof.WalksMore
import PyProof.SeqI3
import PyProof.WalkInts
import PyProof.Rows.CallKwBuiltin
import PyProof.Rows.Tup
import PyProof.CollectIter
import PyProof.EnumMake
import PyProof.TupleOfSeq
import PyProof.ListNew
import PyProof.ReprLoop
import PyProof.StationsW
import PyProof.ExcClass3
import PyProof.Rows.CatchBare
import OpenK.KOwn
import KE.KIsAll
import PyProof.NsDelKeeps
import PyProof.RulesAs
import PyProof.ExcArgsOwn
import PyProof.ListRange
import KE.RegKIsAll
import KE.KRevIter
import PyProof.Rows.SortRuns
import KE.KSortTup
import PyProof.DictWalks
import KE.KDictList
import KE.KItemsList
import PyProof.ExcBaseAll.ValueError
import PySem.Challenge.RW_hourhaul_k32_clocks_judged
set_option Elab.async false
set_option linter.all false
set_option maxRecDepth 100000
set_option genSizeOf false
set_option compiler.extract_closed false
set_option bootstrap.genMatcherCode false
open List(replicate mem_map getElem?_set_ne mem_cons map_cons size_toArray getElem?_set_self map_map length_cons mem_append length_map mem_singleton mem_cons_of_mem nodup_cons getElem?_append_left length_append all_eq_true append_nil getElem?_map mem_of_getElem? append_assoc lookup_cons find?_cons mem_append_right any_cons map_nil getD map_append all_cons filterMap_cons mem_cons_self replicate_succ not_mem_nil length_take foldl drop_eq_getElem_cons getElem_mem map_congr_left contains_iff_mem getElem?_append_right getD_eq_getElem?_getD getElem?_eq_getElem of_mem_zip getElem?_replicate map_set mem_filter reverse_cons flatten_cons foldl_cons nil_append length_range drop_eq_nil_iff getElem?_set getElem?_of_mem cons_append nodup_append map sum_cons length_set forIn_cons forIn_nil all_map length_zip length_nil)
open PySem.W(mg_none_of keepIn methodObj mg_of kitx_dict)
open PySem.Heap(get?_push_of_some lt_size get?_push_size size_push get?_update_other get?_update_self SameBut IsTuple IsList)
open Nat(le_refl ne_of_lt lt_of_lt_of_le le_trans zero_le lt_irrefl le_of_lt)
open PySem.Builtin.SmallTypes(nextOf ownedTupleIsFree ownedTupleHandOut)
open PySem.Builtin.Tuple(tupleExact tupleItemsOf)
open Bool(and_eq_true false_eq_true or_eq_true)
open Option(map_eq_some_iff bind_some isSome_map getD_none getD_some)
open PySem.Builtin.Slice(slicePlaces sliceAdjust sliceApplied)
open PySem.Builtin.List(listTooLong listExtendWith listLengthHint listSameRef)
open PySem.SeqAt.EqAt(int_str str_int none_bool none_int none_str bool_none bool_bool bool_int bool_str int_none int_bool int_int str_none str_bool str_str)
open Array(length_toList toList)
open PySem.F(slot_tuple_add entry_tuple_add args_tuple_add_2 slot_tuple_mul plainAttrs_list)
open PySem.SeqAt.RcAt(lists_lengths)
open Int(sub_zero mul_comm mul_add mul_neg)
open PySem.SeqAt.RcNeAt(int_list str_list list_int list_str)
theorem dR{h:PySem.Heap}{o b:PySem.Obj}{a:PySem.Addr}(e:h.get? a=some o):(h.push b).get? a=some o:=PySem.Heap.get?_push_of_some _ e
theorem eX{b:Type}{l:List b}{i:Nat}{a:b}(h:l[i]?=some a):∃h:i<l.length,l[i]=a:=List.getElem?_eq_some_iff.mp h
theorem gO{b:Type}{l:List b}{i j:Nat}{a:b}(h:j≠i):(l.set i a)[j]?=l[j]?:=List.getElem?_set_ne (Ne.symm h)
theorem BZ{n:Nat}:0<=n:=Nat.zero_le n
theorem dm{n:Nat}:n<=n:=Nat.le_refl n
section
namespace L2
open PySem PySem.Spec PyProof.Rows
variable{w:World}{h:Heap}{t' i:Nat}{M:Model}{A:Around}{s:Shared}{pos:Pos}{pins:List (Addr×Obj)}{op:CmpOp}{K:PySem.W.Frag}{tg:Expr}{us:List Value}
noncomputable abbrev Key:=Sum Int Str
noncomputable def qG:Key->Value->Bool|.inl k,v=>Value.isInt k v|.inr x,v=>Value.isStrOf x v
noncomputable def abD(w:World):Key->Int|.inl k=>hashInt k|.inr x=>hashStr w x
theorem bT:∀{k:Key}{v:Value},qG k v=true->(∃i t,k=Sum.inl i/\v=Value.int i t)\/(∃x t,k=Sum.inr x/\v=Value.str x t)|.inl i,v,h=>by obtain⟨t,e⟩:=Value.isInt_shape (k:=i) (v:=v) h;exact .inl ⟨i,t,rfl,e⟩|.inr x,v,h=>by obtain⟨t,e⟩:=Value.isStrOf_shape (x:=x) (v:=v) h;exact .inr ⟨x,t,rfl,e⟩
theorem Cp(i:Int)(t:Tok):qG (.inl i) (.int i t)=true:=by simp[qG,Value.isInt]
theorem Ed(x:Str)(t:Tok):qG (.inr x) (.str x t)=true:=by simp[qG,Value.isStrOf]
theorem Q3(a b:Int):decide ((Sum.inl a:Key)=Sum.inl b)=(a==b):=by
 by_cases e:a=b;.subst e;simp
 .have h:¬(Sum.inl a:Key)=Sum.inl b:=λq=>e (Sum.inl.inj q);rw[decide_eq_false h];exact(beq_eq_false_iff_ne.mpr e).symm
theorem RM(a b:Str):decide ((Sum.inr a:Key)=Sum.inr b)=decide (a=b):=by
 by_cases e:a=b;.subst e;simp
 .have h:¬(Sum.inr a:Key)=Sum.inr b:=λq=>e (Sum.inr.inj q);rw[decide_eq_false h,decide_eq_false e]
theorem Qa(a:Int)(b:Str):decide ((Sum.inl a:Key)=Sum.inr b)=false:=decide_eq_false (λq=>nomatch q)
theorem QV(a:Str)(b:Int):decide ((Sum.inr a:Key)=Sum.inl b)=false:=decide_eq_false (λq=>nomatch q)
noncomputable def bY(prog:Program)(w:World):PySem.KeyKind prog w Key where
 is:=qG;hash:=abD w;inj:=λv a b g f=>by
  rcases bT g with⟨i,t,rfl,rfl⟩|⟨x,t,rfl,rfl⟩
  . rcases bT f with⟨j,u,rfl,e⟩|⟨y,u,rfl,e⟩;.injection e with e1 _;rw[e1]
    .exact nomatch e
  . rcases bT f with⟨j,u,rfl,e⟩|⟨y,u,rfl,e⟩;.exact nomatch e
    .injection e with e1 _;rw[e1]
 byValue:=λk v h=>by rcases bT h with⟨i,t,rfl,rfl⟩|⟨x,t,rfl,rfl⟩<;>rfl
 pyHash:=λc h=>by
  rcases bT c with⟨i,t,rfl,rfl⟩|⟨x,t,rfl,rfl⟩;.exact wpAny_pyHash_int h
  .exact wpAny_pyHash_str h
 eqBool:=λl c h=>by
  rcases bT l with⟨i,t,rfl,rfl⟩|⟨x,t,rfl,rfl⟩
  . rcases bT c with⟨j,u,rfl,rfl⟩|⟨y,u,rfl,rfl⟩;.rw[Q3]at h;exact wpAny_eqBool_int h
    .rw[Qa]at h;exact int_str i t y u _ _ _ _ h
  . rcases bT c with⟨j,u,rfl,rfl⟩|⟨y,u,rfl,rfl⟩;.rw[QV]at h;exact str_int x t j u _ _ _ _ h
    .rw[RM]at h;exact wpAny_eqBool_str h
 «strs»:=λk x t v h=>by
  rcases bT h with⟨i,u,rfl,e⟩|⟨y,u,rfl,e⟩;.exact nomatch e
  .injection e with e1 _;subst e1;cases v<;>rfl
theorem wu(prog:Program)(w:World)(i:Int)(t:Tok):(bY prog w).is (.inl i) (.int i t)=true:=Cp i t
theorem v8(prog:Program)(w:World)(x:Str)(t:Tok):(bY prog w).is (.inr x) (.str x t)=true:=Ed x t
inductive V where|non|bl(b:Bool)|int(i:Int)|str(x:Str)|byt(b:Array UInt8)|flt(b:UInt64)|ref(a:Addr)|ty(n:String)deriving DecidableEq
def RelV:V->Value->Prop|.non,u=>u=Value.none|.bl b,u=>u=Value.bool b|.int i,u=>∃t,u=Value.int i t|.str x,u=>∃t,u=Value.str x t|.byt b,u=>∃t,u=Value.bytes b t|.flt b,u=>∃t,u=Value.float b t|.ref a,u=>u=Value.ref a|.ty n,u=>u=Value.type n
abbrev Vals:List V->List Value->Prop:=Paired RelV
theorem Vals.length{xs:List V}{us:List Value}(r:Vals xs us):xs.length=us.length:=Paired.length r
theorem Vals.get:∀{xs:List V}{us:List Value}{i:Nat}{x:V},Vals xs us->xs[i]?=some x->∃u,us[i]?=some u/\RelV x u|_,_,_,_,.nil,e=>by simp at e|_,_,0,_,.cons r _,e=>by simp at e;subst e;exact⟨_,rfl,r⟩|_,_,i+1,x,.cons _ t,e=>by obtain⟨u,h1,a⟩:=Vals.get (i:=i) (x:=x) t (by simpa using e);exact⟨u,by simpa using h1,a⟩
theorem Vals.set{x:V}{u:Value}(r:RelV x u):∀{xs:List V}{us:List Value}(i:Nat),Vals xs us->Vals (xs.set i x) (us.set i u)|_,_,_,.nil=>.nil|_,_,0,.cons _ t=>.cons r t|_,_,i+1,.cons q t=>.cons q (Vals.set r i t)
theorem Vals.append:∀{xs ys:List V}{us ws:List Value},Vals xs us->Vals ys ws->Vals (xs++ys) (us++ws)|_,_,_,_,.nil,s=>s|_,_,_,_,.cons r t,s=>.cons r (Vals.append t s)
theorem Vals.take:∀{xs:List V}{us:List Value}(n:Nat),Vals xs us->Vals (xs.take n) (us.take n)|_,_,0,_=>.nil|_,_,_+1,.nil=>.nil|_,_,n+1,.cons r t=>.cons r (Vals.take n t)
theorem Vals.drop:∀{xs:List V}{us:List Value}(n:Nat),Vals xs us->Vals (xs.drop n) (us.drop n)|_,_,0,r=>r|_,_,_+1,.nil=>.nil|_,_,n+1,.cons _ t=>Vals.drop n t
def rG:Option V->Option Value->Prop|some v,some u=>RelV v u|none,none=>True|_,_=>False
def KV{a:Type}:List (a×V)->List (a×Value)->Prop:=Paired λ(p:a×V)(q:a×Value)=>p.1=q.1/\RelV p.2 q.2
noncomputable def kV:Key->V|.inl i=>.int i|.inr x=>.str x
inductive HO where|lst(xs:List V)|tup(xs:List V)|dK(kvs:List (Key×V))|dT(kvs:List (List Key×V))|set(S:Int->Bool)(n:Nat)|ins(C dx:Addr)(fs:List (Str×V))|own(x:Addr)|xd(fs:List (Str×V))|met(f x:Addr)|rO(lo hi:Int)|cM(o:Obj)(u:HO)|Tp(ps:Array Value)|ext(φ:Heap->Prop)
noncomputable abbrev Hp:=Addr->Option HO
variable{H:Hp}
noncomputable def upd(H:Hp)(a:Addr)(o:HO):Hp:=λb=>if b=a then some o else H b
theorem aM{a:Addr}{o:HO}:upd H a o a=some o:=by unfold upd;rw[if_pos rfl]
theorem aD{a b:Addr}{o:HO}(h:b≠a):upd H a o b=H b:=by unfold upd;rw[if_neg h]
theorem uL{a:Addr}{o u:HO}:upd (upd H a o) a u=upd H a u:=by funext b;unfold upd;split<;>rfl
theorem WN{a b:Addr}{o u:HO}(h:H a=some o)(h':H b=some u)(d:o≠u):a≠b:=by intro e;subst e;rw[h]at h';exact d (Option.some.inj h')
theorem gJ{a b:Addr}{o:HO}(h:H a=some o)(h':H b=none):a≠b:=by intro e;subst e;rw[h]at h';cases h'
section
variable(P:Program)(w:World)
def cz(H:Hp)(h:Heap)(a:Addr):HO->Prop|.lst xs=>xs.length<=sizeLine/\∃(b:List Value)(n:Nat),Vals xs b/\h.get? a=some {cls:=.type "list",data:=.seq b.toArray n}|.tup xs=>xs.length<=sizeLine/\∃b:List Value,Vals xs b/\IsTup h a b.toArray|.dK kvs=>kvs.length<=sizeLine/\(a==sysModules)=false/\∃vs,KV kvs vs/\h.DictOf (bY P w) a vs|.dT kvs=>kvs.length<=sizeLine/\(a==sysModules)=false/\∃xs:List (List Key×Addr×Value),Paired (λ(p:List Key×V)(q:List Key×Addr×Value)=>p.1=q.1/\H q.2.1=some (.tup (p.1.map kV))/\RelV p.2 q.2.2) kvs xs/\∃o es ep,h.get? a=some o/\o.ExactDict/\o.data=.dict es ep/\es.toList=xs.map (entryOfKey (tupleKind (bY P w)))/\(xs.map (·.1)).Nodup|.set S n=>h.SetOf (intKind P w) a S n|.ins C e fs=>H e=some (.own a)/\fs.length<=1000/\e≠a/\h.get? a=some (PySem.W.instObj C e)/\∃c,h.Ns1 e c/\(∀f,rG (fs.lookup f) (c f))/\PySem.Within c (fs.map (·.1))|.own _=>∃o,h.get? a=some o|.xd fs=>∃c,h.Ns1 a c/\∀f,rG (fs.lookup f) (c f)|.rO lo hi=>∃t u v,h.get? a=some {cls:=.type "range",data:=.fields #[.int lo t,.int hi u,.int 1 v]}|.cM o u=>h.get? a=some o/\cz H h a u|.Tp ps=>h.get? a=some {cls:=.none,data:=.fields ps}|.met f x=>h.get? a=some (methodObj (.ref f) (.ref x))|.ext g=>g h/\(∃o,h.get? a=some o)/\∀h1 j:Heap,g h1->(∀o,h1.get? a=some o->j.get? a=some o)->g j
def mW(H:Hp)(h:Heap):Prop:=∀a o,H a=some o->cz P w H h a o
end
section
variable{P:Program}{w:World}{H H':Hp}{h h':Heap}{a:Addr}{o:HO}
theorem cz.lt(x:cz P w H h a o):a<h.objs.size:=by cases o with|lst xs=>obtain⟨_,_,_,_,e⟩:=x;exact lt_size e|tup xs=>obtain⟨_,_,_,p⟩:=x;exact p.lt|dK kvs=>obtain⟨_,_,_,_,o,_,_,e,_⟩:=x;exact lt_size e|dT kvs=>obtain⟨_,_,_,_,o,_,_,e,_⟩:=x;exact lt_size e|set S n=>obtain⟨o,_,_,_,e,_⟩:=x;exact lt_size e|ins C b fs=>obtain⟨_,_,_,e,_⟩:=x;exact lt_size e|own y=>obtain⟨_,e⟩:=x;exact lt_size e|xd fs=>obtain⟨_,⟨_,_,_,e,_⟩,_⟩:=x;exact lt_size e|rO lo hi=>obtain⟨_,_,_,e⟩:=x;exact lt_size e|cM c u=>obtain⟨e,_⟩:=x;exact lt_size e|Tp ps=>exact lt_size (show h.get? a=some _ from x)|met f y=>exact lt_size (show h.get? a=some _ from x)|ext g=>obtain⟨_,⟨_,e⟩,_⟩:=x;exact lt_size e
theorem Paired.Pb{g j:Type}{F G:g->j->Prop}:∀{c:List g}{e:List j},Paired F c e->(∀a b,F a b->G a b)->Paired G c e|_,_,.nil,_=>.nil|_,_,.cons r t,f=>.cons (f _ _ r) (Paired.Pb t f)
theorem cz.stay(x:cz P w H h a o)(k:∀b u,(b=a\/H b=some (.own a))->h.get? b=some u->h'.get? b=some u)(ho:∀b,H b=some (.own a)->H' b=some (.own a))(ht:∀b xs,H b=some (.tup xs)->H' b=some (.tup xs)):cz P w H' h' a o:=by induction o with|lst xs=>obtain⟨z,j,n,r,e⟩:=x;exact⟨z,j,n,r,k _ _ (.inl rfl) e⟩|tup xs=>obtain⟨z,j,r,g,e,c⟩:=x;exact⟨z,j,r,g,k _ _ (.inl rfl) e,c⟩|dK kvs=>obtain⟨z,y,vs,r,g,es,ep,e,c⟩:=x;exact⟨z,y,vs,r,g,es,ep,k _ _ (.inl rfl) e,c⟩|dT kvs=>obtain⟨z,y,xs,r,g,es,ep,e,c⟩:=x;exact⟨z,y,xs,Paired.Pb r λp q z=>⟨z.1,ht _ _ z.2.1,z.2.2⟩,g,es,ep,k _ _ (.inl rfl) e,c⟩|set S n=>obtain⟨g,es,ep,t,e,c⟩:=x;exact⟨g,es,ep,t,k _ _ (.inl rfl) e,c⟩|ins C G fs=>obtain⟨d,z,ne,e,l,⟨m,es,ep,B,c⟩,r⟩:=x;exact⟨ho _ d,z,ne,k _ _ (.inl rfl) e,l,⟨m,es,ep,k _ _ (.inr d) B,c⟩,r⟩|own y=>obtain⟨g,e⟩:=x;exact⟨g,k _ _ (.inl rfl) e⟩|xd fs=>obtain⟨l,⟨m,es,ep,e,c⟩,r⟩:=x;exact⟨l,⟨m,es,ep,k _ _ (.inl rfl) e,c⟩,r⟩|rO lo hi=>obtain⟨t,u,v,e⟩:=x;exact⟨t,u,v,k _ _ (.inl rfl) e⟩|cM g u E=>obtain⟨e,q⟩:=x;exact⟨k _ _ (.inl rfl) e,E q⟩|Tp ps=>have e:h.get? a=some {cls:=.none,data:=.fields ps}:=x;show h'.get? a=some {cls:=.none,data:=.fields ps};exact k a _ (.inl rfl) e|met f y=>have e:h.get? a=some (methodObj (.ref f) (.ref y)):=x;show h'.get? a=some (methodObj (.ref f) (.ref y));exact k a _ (.inl rfl) e|ext I=>obtain⟨p,⟨o,e⟩,st⟩:=x;exact⟨st _ _ p λo q=>k _ _ (.inl rfl) q,⟨o,k _ _ (.inl rfl) e⟩,st⟩
theorem mW.lt(x:mW P w H h)(e:H a=some o):a<h.objs.size:=(x a o e).lt
theorem mW.fresh(x:mW P w H h)(e:h.objs.size<=a):H a=none:=by cases q:H a with|none=>rfl|some u=>exact absurd (lt_of_lt_of_le (x.lt q) e) (lt_irrefl _)
theorem mW.kept(x:mW P w H h)(k:∀b u,h.get? b=some u->h'.get? b=some u):mW P w H h':=λa o e=>(x a o e).stay (λb u _ q=>k b u q) (λ_ q=>q) λ_ _ q=>q
theorem mW.laid(x:mW P w H h)(k:∀b u,h.get? b=some u->h'.get? b=some u)(l:h.objs.size<=a)(f:cz P w (upd H a o) h' a o):mW P w (upd H a o) h':=λb u e=>by
 have g:=x.fresh l;by_cases j:b=a;.subst j;rw[aM]at e;cases e;exact f
 .rw[aD j]at e;exact(x b u e).stay (λc v _ q=>k c v q) (λc q=>by rw[aD (gJ q g)];exact q) λc xs q=>by rw[aD (gJ q g)];exact q
end
def Rd(H:Hp)(a:Addr)(u:HO):Prop:=H a=some u\/∃o,H a=some (.cM o u)
theorem Rd.ok{P:Program}{a:Addr}{u:HO}(r:Rd H a u)(x:mW P w H h):cz P w H h a u:=by
 rcases r with r|⟨o,r⟩;.exact x a u r
 .obtain⟨_,q⟩:=x a _ r;exact q
def Wu:Option HO->Prop|some (.lst _)=>True|some (.dK _)=>True|some (.dT _)=>True|some (.set _ _)=>True|some (.ins _ _ _)=>True|some (.ext _)=>True|_=>False
section
variable{P:Program}{w:World}{H:Hp}{h h':Heap}{x e:Addr}{o':HO}
theorem mW.write(ok:mW P w H h)(f:Wu (H x))(he:e=x\/H e=some (.own x))(k:∀b u,b≠e->h.get? b=some u->h'.get? b=some u)(j:∃u,h'.get? e=some u)(l:cz P w (upd H x o') h' x o'):mW P w (upd H x o') h':=λb u q=>by
 have n:∀c y,H c=some (.own y)->c≠x:=λc y r z=>by subst z;rw[r]at f;exact f
 have m:∀c xs,H c=some (.tup xs)->c≠x:=λc xs r z=>by subst z;rw[r]at f;exact f
 by_cases g:b=x;.subst g;rw[aM]at q;cases q;exact l
 . rw[aD g]at q;by_cases a:b=e
   . have o:H b=some (.own x):=by
      rcases he with z|z;.exact absurd (a.trans z) g
      .rw[a];exact z
     rw[q]at o;cases o;obtain⟨v,p⟩:=j;exact⟨v,by rw[a];exact p⟩
   . refine(ok b u q).stay (λc v hc r=>k c v ?_ r) (λc r=>by rw[aD (n c b r)];exact r) λc xs r=>by rw[aD (m c xs r)];exact r
     rcases hc with rfl|hc;.exact a
     . rintro rfl;rcases he with z|z;.exact n c b hc z
       .rw[hc]at z;cases z;exact g rfl
end
structure Un(fs ex:List Addr)(H H':Hp)(h h':Heap):Prop where
 keep:∀b o,h.get? b=some o->H b=none->b∉fs->b∉ex->h'.get? b=some o
 slot:∀b o,h.get? b=some o->H b=none->b∈fs->b∉ex->∃sl,h'.get? b=some {o with slots:=sl}free:∀b o,h.get? b=some o->H b=none->b∉ex->H' b=none
 there:∀b o,h.get? b=some o->b∉ex->∃o',h'.get? b=some o'
 tups:∀b xs,H b=some (.tup xs)->H' b=some (.tup xs)vq:∀b o u,H b=some (.cM o u)->H' b=some (.cM o u)xF:∀b ps,H b=some (.Tp ps)->∃more,H' b=some (.Tp (ps++more))
section
variable{fs fs' ex ex':List Addr}{H H1 H2:Hp}{h h1 h2 h':Heap}{a x e:Addr}{o:HO}
theorem Un.any(u:Un fs ex H H1 h h1){b:Addr}{c:Obj}(q:h.get? b=some c)(n:H b=none)(f:b∉ex):∃sl,h1.get? b=some {c with slots:=sl}:=by
 by_cases g:b∈fs;.exact u.slot b c q n g f
 .exact⟨c.slots,u.keep b c q n g f⟩
theorem Un.kept(k:∀b u,h.get? b=some u->h'.get? b=some u):Un fs ex H H h h':=⟨λb c q _ _ _=>k b c q,λb c q _ _ _=>⟨c.slots,k b c q⟩,λ_ _ _ n _=>n,λb c q _=>⟨c,k b c q⟩,λ_ _ q=>q,λ_ _ _ q=>q,λ_ ps q=>⟨#[],by rw[q];simp⟩⟩
theorem Un.refl:Un fs ex H H h h:=Un.kept λ_ _ q=>q
theorem Un.laid(k:∀b u,h.get? b=some u->h'.get? b=some u)(f:h.objs.size<=a)(c:H a=none):Un fs ex H (upd H a o) h h' where
 keep:=λb u q _ _ _=>k b u q;slot:=λb u q _ _ _=>⟨u.slots,k b u q⟩;free:=λb u q n _=>by rw[aD (ne_of_lt (lt_of_lt_of_le (lt_size q) f))];exact n
 there:=λb u q _=>⟨u,k b u q⟩;tups:=λb xs q=>by rw[aD (gJ q c)];exact q
 vq:=λb u xs q=>by rw[aD (gJ q c)];exact q
 xF:=λb ps q=>⟨#[],by rw[aD (gJ q c),q];simp⟩
theorem Un.write(f:Wu (H x))(he:e=x\/H e=some (.own x))(k:∀b u,b≠e->h.get? b=some u->h'.get? b=some u)(g:∃u,h'.get? e=some u):Un fs ex H (upd H x o) h h':=by
 have l:∀b,H b=none->b≠x:=λb n z=>by subst z;rw[n]at f;exact f
 have m:∀b,H b=none->b≠e:=λb n z=>by
  subst z;rcases he with r|r;.exact l b n r
  .rw[n]at r;cases r
 have j:∀b u,H b=some u->¬ Wu (some u)->b≠x:=λb u q p z=>by subst z;rw[q]at f;exact p f
 refine⟨λb u q n _ _=>k b u (m b n) q,λb u q n _ _=>⟨u.slots,k b u (m b n) q⟩,λb u q n _=>by rw[aD (l b n)];exact n,λb u q _=>?_,λb xs q=>by rw[aD (j b _ q λz=>z)];exact q,λb u xs q=>by rw[aD (j b _ q λz=>z)];exact q,λb ps q=>⟨#[],by rw[aD (j b _ q λz=>z),q];simp⟩⟩;by_cases c:b=e;.subst c;exact g
 .exact⟨u,k b u c q⟩
end
noncomputable def trk(h:Heap)(H:Hp):List Addr:=(List.range h.objs.size).filter λa=>(H a).isSome
noncomputable def ue(h:Heap)(H:Hp):Heap:=PySem.W.hideAll h (trk h H)
theorem Dg(h:Heap)(H:Hp):(ue h H).objs.size=h.objs.size:=PySem.W.hideAll_size _ _
theorem GC{b:Addr}{o:Obj}(e:h.get? b=some o)(n:H b=none):(ue h H).get? b=some o:=PySem.W.hideAll_get _ e λa=>by have q:(H b).isSome=true:=(mem_filter.mp a).2;rw[n]at q;simp at q
theorem JF{b:Addr}{o:Obj}(e:(ue h H).get? b=some o):h.get? b=some o/\H b=none:=by have a:h.get? b=some o:=PySem.W.of_hideAll (trk h H) e;refine⟨a,?_⟩;cases q:H b with|none=>rfl|some x=>have c:b∈trk h H:=mem_filter.mpr ⟨List.mem_range.mpr (lt_size a),by simp[q]⟩;have z:(ue h H).get? b=none:=PySem.W.hideAll_none (trk h H) c;rw[z]at e;cases e
structure Mod(K:PySem.W.Frag)(mg:Str->Option Value)(base:Heap):Prop where
 oM:K.In base
 glob:base.Ns mainGlobals mg
 blt:∃mb,base.Ns builtinsNs mb/\∀x:Str,x≠"__name__"->mb x=bootBuiltins x
 nolimit:base.NoLimit
structure Cx where
 prog:Program
 w:World
 K:PySem.W.Frag
 mg:Str->Option Value
 base:Heap
 A:Around
 N:List Str
 s₀:Shared
 H₀:Hp
 env:Env
 outer:List Env
 stack:List Env
 ex:List Addr
 fn:Str->Bool
 calm:Bool
 pn:List (Addr×Obj)xe:Value->Shared->Prop
variable{X:Cx}
noncomputable def frs(l:List Env):List Addr:=l.filterMap (·.frame)
noncomputable abbrev Cx.fs(X:Cx):List Addr:=frs X.outer
def xQ(a:Scope)(x:Str):Prop:=a.names.lookup x=some .local\/a.names.lookup x=some .cell\/a.names.lookup x=some .free
def Loc(a:Scope)(x:Str):Prop:=a.names.lookup x=some .local\/a.names.lookup x=some .cell
def Look(env:Env)(h:Heap)(m:Str->Option Value)(x:Str)(u:Value):Prop:=(env.kindOf x=some .local/\m x=some u)\/((env.kindOf x=some .cell\/env.kindOf x=some .free)/\∃c,env.cells.lookup x=some c/\h.IsCell c (some u))
structure Cx.Ok(X:Cx):Prop where
 mod:Mod X.K X.mg X.base
 kind:X.env.scope.kind=.function
 glob:X.env.globals=mainGlobals
 blt:X.env.builtins=builtinsNs
 above:X.s₀.heap.objs.size<=X.env.locals
 inj:∀x y c,X.env.cells.lookup x=some c->X.env.cells.lookup y=some c->x=y
 has:∀x,(X.env.kindOf x=some .cell\/X.env.kindOf x=some .free)->∃c,X.env.cells.lookup x=some c
 cab:∀x c,X.fn x=true->X.env.cells.lookup x=some c->X.s₀.heap.objs.size<=c
 hd:X.calm=true->X.A.handled=none
 frames:X.A.frames=some X.stack
 stk:X.stack=X.outer\/(X.stack=X.env::X.outer/\X.env.frame=some X.env.locals)exf:∀b∈X.ex,b≠X.env.locals/\∀x c,X.env.cells.lookup x=some c->c≠b
 bs:∀b o,X.base.get? b=some o->X.s₀.heap.get? b=some o/\X.H₀ b=none
 Ol:X.base.objs.size<=X.s₀.heap.objs.size
 Jd:∀b o,X.base.get? b=some o->b∉X.ex
 Mj:∀b∈X.ex,b∉X.fs
 pU:X.s₀.heap.FunFrames X.base X.outer
 Vr:∀b∈X.fs,X.H₀ b=none
structure Inv(X:Cx)(pins:List (Addr×Obj))(σ:List (Option V))(H:Hp)(s:Shared):Prop where
 ok:X.Ok
 os:s.os=X.s₀.os
 bare:AllBare s.gens
 base:Un X.fs X.ex X.H₀ H X.s₀.heap s.heap
 loc:∃m,s.heap.Ns X.env.locals m/\∀(i:Nat)(x:Str)(v:V),X.N[i]?=some x->σ[i]?=some (some v)->xQ X.env.scope x->∃u,RelV v u/\Look X.env s.heap m x u
 cell:∀x c,X.env.cells.lookup x=some c->∃v,s.heap.IsCell c v
 free:H X.env.locals=none
 kO:∀x c,X.env.cells.lookup x=some c->H c=none
 pin:∀p∈X.pn++pins,s.heap.get? p.1=some p.2/\H p.1=none/\p.1≠X.env.locals/\p.1∉X.fs/\∀v,p.2.data≠.cell v
 hok:mW X.prog X.w H s.heap
 len:σ.length=X.N.length
section
variable{X:Cx}{pins:List (Addr×Obj)}{σ:List (Option V)}{H H':Hp}{s:Shared}{h':Heap}
theorem Cx.Ok.abI(ok:X.Ok){b:Addr}{o:Obj}(e:X.base.get? b=some o):b∉X.fs:=λa=>by have:=(ok.pU.mem a).1;rw[e]at this;cases this
theorem Inv.bs(I:Inv X pins σ H s):∀b o,X.base.get? b=some o->s.heap.get? b=some o/\H b=none:=λb o e=>⟨I.base.keep b o (I.ok.bs b o e).1 (I.ok.bs b o e).2 (I.ok.abI e) (I.ok.Jd b o e),I.base.free b o (I.ok.bs b o e).1 (I.ok.bs b o e).2 (I.ok.Jd b o e)⟩
theorem Inv.bk(I:Inv X pins σ H s):∀b o,X.base.get? b=some o->s.heap.get? b=some o:=λb o e=>(I.bs b o e).1
theorem Inv.mod(I:Inv X pins σ H s):Mod X.K X.mg X.base:=I.ok.mod
theorem Inv.Ql(I:Inv X pins σ H s):X.K.In s.heap:=I.ok.mod.oM.keeps I.bk
theorem Inv.lt(I:Inv X pins σ H s):X.env.locals<s.heap.objs.size:=let⟨_,hn,_⟩:=I.loc;hn.lt
theorem Inv.sz(I:Inv X pins σ H s):X.s₀.heap.objs.size<=s.heap.objs.size:=le_trans I.ok.above (le_of_lt I.lt)
theorem Inv.adv(I:Inv X pins σ H s){a:Addr}(h:s.heap.objs.size<=a):a∉X.fs:=λb=>by obtain⟨_,o,ho,_⟩:=I.ok.pU.mem b;exact absurd (lt_of_lt_of_le (lt_size ho) (le_trans I.sz h)) (lt_irrefl _)
theorem Inv.RD(I:Inv X pins σ H s):∀x c,X.env.cells.lookup x=some c->c≠X.env.locals:=λx c e z=>by obtain⟨v,o,ho,hd⟩:=I.cell x c e;obtain⟨m,⟨f,es,ep,a,b,_⟩,_⟩:=I.loc;rw[z,a]at ho;cases ho;rw[b]at hd;cases hd
theorem Inv.pU(I:Inv X pins σ H s):s.heap.FunFrames X.base X.outer:=by
 have all:∀(l:List Env),(∀b∈frs l,b∈X.fs)->X.s₀.heap.FunFrames X.base l->s.heap.FunFrames X.base l:=by intro l;induction l with|nil=>intro _ _;trivial|cons env r g=>intro hs j;obtain⟨k,⟨L,o,a,m,ho,hd⟩,hr⟩:=j;have c:L∈X.fs:=hs L (by unfold frs;rw[filterMap_cons,a];exact mem_cons_self);obtain⟨sl,e⟩:=I.base.slot L o ho (I.ok.Vr L c) c λz=>I.ok.Mj L z c;exact⟨k,⟨L,_,a,m,e,hd⟩,g (λb f=>hs b (by unfold frs;rw[filterMap_cons,a];exact mem_cons_of_mem _ f)) hr⟩
 exact all X.outer (λ_ f=>f) I.ok.pU
theorem Inv.stack(I:Inv X pins σ H s):s.heap.FunFrames X.base X.stack:=by
 rcases I.ok.stk with e|⟨e,a⟩;.rw[e];exact I.pU
 .rw[e];obtain⟨m,b,_⟩:=I.loc;refine .cons (by rw[I.ok.kind];decide) a b ?_ I.pU;exact Heap.get?_none_of_le (le_trans I.ok.Ol I.ok.above)
theorem Inv.ur(I:Inv X pins σ H s):∀b∈frs X.stack,b∈X.env.locals::X.fs:=λb a=>by
 rcases I.ok.stk with e|⟨e,c⟩;.rw[e]at a;exact mem_cons_of_mem _ a
 .rw[e]at a;unfold frs at a;rw[filterMap_cons,c]at a;exact a
theorem Inv.Bp(I:Inv X pins σ H s):∀b∈frs X.stack,H b=none:=λb hb=>by
 rcases mem_cons.mp (I.ur b hb)with e|hb;.rw[e];exact I.free
 .obtain⟨_,o,ho,_⟩:=I.ok.pU.mem hb;exact I.base.free b o ho (I.ok.Vr b hb) λz=>I.ok.Mj b z hb
theorem Inv.step{g':Array GenState}{d':Drawn}{ch:List Addr}(I:Inv X pins σ H s)(f:∀b∈ch,(b∈X.ex\/X.s₀.heap.objs.size<=b)/\b≠X.env.locals/\(∀x c,X.env.cells.lookup x=some c->c≠b)/\∀p∈X.pn++pins,p.1≠b)(keep:∀b o,b≠X.env.locals->b∉X.fs->b∉ch->s.heap.get? b=some o->H b=none->h'.get? b=some o)(slot:∀b o,b≠X.env.locals->b∈X.fs->b∉ch->s.heap.get? b=some o->H b=none->∃sl,h'.get? b=some {o with slots:=sl})(free:∀b o,b∉ch->s.heap.get? b=some o->H b=none->H' b=none)(there:∀b o,b∉ch->s.heap.get? b=some o->∃B,h'.get? b=some B)(tups:∀b xs,H b=some (.tup xs)->H' b=some (.tup xs))(vq:∀b o u,H b=some (.cM o u)->H' b=some (.cM o u))(xF:∀b ps,H b=some (.Tp ps)->∃more,H' b=some (.Tp (ps++more)))(ns:∀m,s.heap.Ns X.env.locals m->h'.Ns X.env.locals m)(hok:mW X.prog X.w H' h')(O:AllBare g'):Inv X pins σ H' {s with heap:=h',gens:=g',drawn:=d',toks:=t'}:=by
 have C:∀b o,X.s₀.heap.get? b=some o->b≠X.env.locals:=λb o e=>ne_of_lt (lt_of_lt_of_le (lt_size e) I.ok.above);have j:∀b o,X.s₀.heap.get? b=some o->b∉X.ex->b∉ch:=λb o e a y=>by
  rcases(f b y).1 with z|z;.exact a z
  .exact absurd (lt_of_lt_of_le (lt_size e) z) (lt_irrefl _)
 have g:∀x c,X.env.cells.lookup x=some c->∀v,s.heap.IsCell c v->h'.IsCell c v:=λx c e v⟨o,ho,hd⟩=>by
  have E:c∉ch:=λz=>(f c z).2.2.1 x c e rfl;by_cases hc:c∈X.fs;.obtain⟨sl,q⟩:=slot c o (I.RD x c e) hc E ho (I.kO x c e);exact⟨_,q,hd⟩
  .exact⟨o,keep c o (I.RD x c e) hc E ho (I.kO x c e),hd⟩
 refine⟨I.ok,I.os,O,⟨λb o e n y a=>?_,λb o e n y a=>?_,λb o e n a=>?_,λb o e a=>?_,λb xs e=>tups b xs (I.base.tups b xs e),λb o xs e=>vq b o xs (I.base.vq b o xs e),λb ps e=>?_⟩,?_,λx c e=>?_,?_,λx c e=>?_,λp L=>?_,hok,I.len⟩;.exact keep b o (C b o e) y (j b o e a) (I.base.keep b o e n y a) (I.base.free b o e n a)
 .obtain⟨sl,t⟩:=I.base.slot b o e n y a;obtain⟨J,G⟩:=slot b _ (C b o e) y (j b o e a) t (I.base.free b o e n a);exact⟨J,G⟩
 .obtain⟨B,t⟩:=I.base.there b o e a;exact free b B (j b o e a) t (I.base.free b o e n a)
 .obtain⟨B,t⟩:=I.base.there b o e a;exact there b B (j b o e a) t
 .obtain⟨m1,t⟩:=I.base.xF b ps e;obtain⟨Q,G⟩:=xF b _ t;exact⟨m1++Q,by rw[G,Array.append_assoc]⟩
 . obtain⟨m,U,W⟩:=I.loc;refine⟨m,ns m U,λi x v t G Y=>?_⟩;obtain⟨u,r,l⟩:=W i x v t G Y;refine⟨u,r,?_⟩;rcases l with l|⟨k,c,e,z⟩;.exact .inl l
   .exact .inr ⟨k,c,e,g x c e _ z⟩
 .obtain⟨v,z⟩:=I.cell x c e;exact⟨v,g x c e v z⟩
 .obtain⟨m,⟨o,_,_,ho,_⟩,_⟩:=I.loc;exact free _ o (λz=>(f _ z).2.1 rfl) ho I.free
 .obtain⟨v,o,ho,hd⟩:=I.cell x c e;exact free c o (λz=>(f c z).2.2.1 x c e rfl) ho (I.kO x c e)
 .obtain⟨e,n,ne,N,d⟩:=I.pin p L;have E:p.1∉ch:=λz=>(f p.1 z).2.2.2 p L rfl;exact⟨keep p.1 p.2 ne N E e n,free p.1 p.2 E e n,ne,N,d⟩
theorem Inv.un(I:Inv X pins σ H s)(u:Un X.fs [] H H' s.heap h')(hok:mW X.prog X.w H' h'):Inv X pins σ H' {s with heap:=h',toks:=t'}:=by obtain⟨m,⟨o,es,ep,ho,r⟩,_⟩:=id I.loc;obtain⟨sl,j⟩:=u.any ho I.free (by simp);exact I.step (g':=s.gens) (d':=s.drawn) (ch:=[]) (λ_ z=>nomatch z) (λb o _ c _ e n=>u.keep b o e n c (by simp)) (λb o _ c _ e n=>u.slot b o e n c (by simp)) (λb o _ e n=>u.free b o e n (by simp)) (λb o _ e=>u.there b o e (by simp)) u.tups u.vq u.xF (λp k=>by obtain⟨q,f,g,a,l⟩:=k;rw[ho]at a;cases a;exact⟨_,f,g,j,l⟩) hok I.bare
theorem Inv.call{g':Array GenState}{d':Drawn}{ch:List Addr}(I:Inv X pins σ H s)(u:Un (frs X.stack) ch H H' s.heap h')(hok:mW X.prog X.w H' h')(l:AllBare g')(a:∀b∈ch,(b∈X.ex\/X.s₀.heap.objs.size<=b)/\b≠X.env.locals/\(∀x c,X.env.cells.lookup x=some c->c≠b)/\∀p∈X.pn++pins,p.1≠b):Inv X pins σ H' {s with heap:=h',gens:=g',drawn:=d',toks:=t'}:=by obtain⟨m,⟨o,es,ep,ho,r⟩,_⟩:=id I.loc;obtain⟨sl,g⟩:=u.any ho I.free λz=>(a _ z).2.1 rfl;exact I.step (ch:=ch) a (λb o g q hc e n=>u.keep b o e n (λz=>(mem_cons.mp (I.ur b z)).elim g q) hc) (λb o _ _ hc e n=>u.any e n hc) (λb o hc e n=>u.free b o e n hc) (λb o hc e=>u.there b o e hc) u.tups u.vq u.xF (λy t=>by obtain⟨B,j,k,f,v⟩:=t;rw[ho]at f;cases f;exact⟨_,j,k,g,v⟩) hok l
theorem Inv.turned{a:Addr}(I:Inv X pins σ H s)(k:∀b o,b≠a->s.heap.get? b=some o->h'.get? b=some o)(j:H a=none)(g:a≠X.env.locals)(h1:a∈X.ex\/X.s₀.heap.objs.size<=a)(l:∀x c,X.env.cells.lookup x=some c->c≠a)(t:∀p∈X.pn++pins,p.1≠a):Inv X pins σ H {s with heap:=h',toks:=t'}:=by
 have f:∀b u,H b=some u->b≠a:=λb u e z=>by rw[z,j]at e;cases e
 refine I.step (g':=s.gens) (d':=s.drawn) (ch:=[a]) (λb y=>?_) (λb o _ _ hc e _=>k b o (λz=>hc (by simp[z])) e) (λb o _ _ hc e _=>⟨o.slots,k b o (λz=>hc (by simp[z])) e⟩) (λ_ _ _ _ n=>n) (λb o hc e=>⟨o,k b o (λz=>hc (by simp[z])) e⟩) (λ_ _ e=>e) (λ_ _ _ e=>e) (λb ps e=>⟨#[],by rw[e];simp⟩) (λm B=>?_) (λb u e=>?_) I.bare
 . have e:b=a:=by simpa using y
   subst e;exact⟨h1,g,l,t⟩
 .obtain⟨o,es,ep,ho,r⟩:=B;exact⟨o,es,ep,k _ o (Ne.symm g) ho,r⟩
 . refine(I.hok b u e).stay (λc v hc q=>k c v ?_ q) (λ_ q=>q) λ_ _ q=>q;rcases hc with z|z;.rw[z];exact f b u e
   .exact f c _ z
theorem Inv.tok(I:Inv X pins σ H s)(t:Nat):Inv X pins σ H {s with toks:=t}:=I.un (h':=s.heap) (t':=t) Un.refl I.hok
theorem Inv.kept{t':Nat}(I:Inv X pins σ H s)(k:∀b u,s.heap.get? b=some u->h'.get? b=some u):Inv X pins σ H {s with heap:=h',toks:=t'}:=I.un (Un.kept k) (I.hok.kept k)
theorem Inv.laid{a:Addr}{o:HO}{t':Nat}(I:Inv X pins σ H s)(k:∀b u,s.heap.get? b=some u->h'.get? b=some u)(c:s.heap.objs.size<=a)(e:cz X.prog X.w (upd H a o) h' a o):Inv X pins σ (upd H a o) {s with heap:=h',toks:=t'}:=I.un (Un.laid k c (I.hok.fresh c)) (I.hok.laid k c e)
theorem Inv.write{x e:Addr}{o:HO}{t':Nat}(I:Inv X pins σ H s)(f:Wu (H x))(he:e=x\/H e=some (.own x))(k:∀b u,b≠e->s.heap.get? b=some u->h'.get? b=some u)(a:∃u,h'.get? e=some u)(c:cz X.prog X.w (upd H x o) h' x o):Inv X pins σ (upd H x o) {s with heap:=h',toks:=t'}:=I.un (Un.write f he k a) (I.hok.write f he k a c)
theorem Inv.Ak{a:List (Addr×Obj)}(I:Inv X pins σ H s)(h:∀p∈a,s.heap.get? p.1=some p.2/\H p.1=none/\p.1≠X.env.locals/\p.1∉X.fs/\∀v,p.2.data≠.cell v):Inv X a σ H s:=⟨I.ok,I.os,I.bare,I.base,I.loc,I.cell,I.free,I.kO,λp b=>(mem_append.mp b).elim (λz=>I.pin p (List.mem_append_left _ z)) (h p),I.hok,I.len⟩
theorem xn{N:List Str}(c:N.Nodup){j:Nat}{x:Str}(a:N[i]?=some x)(b:N[j]?=some x):i=j:=by obtain⟨h1,e⟩:=eX a;obtain⟨g,f⟩:=eX b;exact(List.getElem_inj c).mp (e.trans f.symm)
theorem tU{E:Value->Shared->Prop}{x:Str}{v:V}{u:Value}{Q:Unit->Shared->Prop}(I:Inv X pins σ H s)(hN:X.N.Nodup)(hi:X.N[i]?=some x)(l:Loc X.env.scope x)(r:RelV v u)(h:∀s',Inv X pins (σ.set i (some v)) H s'->(∃a,SameBut a s.heap s'.heap/\(a=X.env.locals\/X.env.cells.lookup x=some a))->Q () s')(hf:X.fn x=true\/X.env.scope.names.lookup x=some .local:=by first|exact .inl rfl|exact .inr rfl|assumption):wpAny M A (storeName X.env x u) Q E s:=by
 obtain⟨m,hn,hl⟩:=id I.loc;have O:(X.env.scope.kind==.class||(X.env.scope.kind==.module&&X.env.locals !=X.env.globals))=false:=by rw[I.ok.kind];rfl
 have C:i<σ.length:=by rw[I.len];exact(eX hi).1
 have RD:=I.RD;have f:∀{a:Addr}{h':Heap},(∃o,s.heap.get? a=some o/\H a=none)->SameBut a s.heap h'->mW X.prog X.w H h':=λ{a h'}ha hs b ob e=>by
  obtain⟨_,_,t⟩:=ha;refine(I.hok b ob e).stay (λc Z hc q=>(hs.2 c ?_).trans q) (λ_ q=>q) λ_ _ q=>q;rintro rfl;rcases hc with rfl|hc;.rw[t]at e;cases e
  .rw[t]at hc;cases hc
 rcases l with hk|hk
 . refine wpAny_storeName_local hk hn (λh' ac hs=>?_) O;obtain⟨oL,_,_,ae,_⟩:=id hn;refine h _ ⟨I.ok,I.os,I.bare,⟨λb o e n G l=>?_,λb o e n G l=>?_,I.base.free,λb o e l=>?_,I.base.tups,I.base.vq,I.base.xF⟩,⟨_,ac,λj y v' g B e3=>?_⟩,λy c e=>?_,I.free,I.kO,λp hp=>?_,f ⟨oL,ae,I.free⟩ hs,by simpa using I.len⟩ ⟨_,hs,.inl rfl⟩;.exact(hs.2 b (ne_of_lt (lt_of_lt_of_le (lt_size e) I.ok.above))).trans (I.base.keep b o e n G l)
   .obtain⟨sl,g⟩:=I.base.slot b o e n G l;exact⟨sl,(hs.2 b (ne_of_lt (lt_of_lt_of_le (lt_size e) I.ok.above))).trans g⟩
   .obtain⟨o',g⟩:=I.base.there b o e l;exact⟨o',(hs.2 b (ne_of_lt (lt_of_lt_of_le (lt_size e) I.ok.above))).trans g⟩
   . by_cases J:j=i;.subst J;rw[hi]at g;cases g;rw[getElem?_set_self C]at B;cases B;exact⟨u,r,.inl ⟨hk,by simp⟩⟩
     . rw[gO J]at B;obtain⟨u',r',q⟩:=hl j y v' g B e3;refine⟨u',r',?_⟩;rcases q with⟨k,e⟩|⟨k,c,e,z⟩;.refine .inl ⟨k,?_⟩;have:y≠x:=λe=>J (xn hN g (e▸hi));simp[this,e]
       .exact .inr ⟨k,c,e,z.sameBut hs (RD y c e)⟩
   .obtain⟨Z,z⟩:=I.cell y c e;exact⟨Z,z.sameBut hs (RD y c e)⟩
   .obtain⟨e,n,ne,nf,d⟩:=I.pin p hp;exact⟨(hs.2 p.1 ne).trans e,n,ne,nf,d⟩
 . have L:X.fn x=true:=by
    rcases hf with z|z;.exact z
    .rw[z]at hk;cases hk
   obtain⟨c,hc⟩:=I.ok.has x (.inl hk);obtain⟨Z,z⟩:=I.cell x c hc;refine wpAny_storeName_cell I.ok.kind hk hc z (λh' U hs=>?_);obtain⟨oc,W,af⟩:=id z;refine h {s with heap:=h'} ⟨I.ok,I.os,I.bare,⟨λb o e n G l=>?_,λb o e n G l=>?_,I.base.free,λb o e l=>?_,I.base.tups,I.base.vq,I.base.xF⟩,⟨m,hn.sameBut hs (Ne.symm (RD x c hc)),λj y v' g B e3=>?_⟩,λy c' e=>?_,I.free,I.kO,λp hp=>?_,f ⟨oc,W,I.kO x c hc⟩ hs,by simpa using I.len⟩ ⟨c,hs,.inr hc⟩;.exact(hs.2 b (ne_of_lt (lt_of_lt_of_le (lt_size e) (I.ok.cab x c L hc)))).trans (I.base.keep b o e n G l)
   .obtain⟨sl,g⟩:=I.base.slot b o e n G l;exact⟨sl,(hs.2 b (ne_of_lt (lt_of_lt_of_le (lt_size e) (I.ok.cab x c L hc)))).trans g⟩
   .obtain⟨o',g⟩:=I.base.there b o e l;exact⟨o',(hs.2 b (ne_of_lt (lt_of_lt_of_le (lt_size e) (I.ok.cab x c L hc)))).trans g⟩
   . by_cases J:j=i;.subst J;rw[hi]at g;cases g;rw[getElem?_set_self C]at B;cases B;exact⟨u,r,.inr ⟨.inl hk,c,hc,U⟩⟩
     . rw[gO J]at B;obtain⟨u',r',q⟩:=hl j y v' g B e3;refine⟨u',r',?_⟩;rcases q with q|⟨k,c',e,z'⟩;.exact .inl q
       .refine .inr ⟨k,c',e,z'.sameBut hs ?_⟩;rintro rfl;exact J (xn hN g (I.ok.inj _ _ _ e hc▸hi))
   . by_cases Y:c'=c;.subst Y;exact⟨_,U⟩
     .obtain⟨w2,z2⟩:=I.cell y c' e;exact⟨w2,z2.sameBut hs Y⟩
   .obtain⟨e,n,ne,nf,d⟩:=I.pin p hp;refine⟨(hs.2 p.1 ?_).trans e,n,ne,nf,d⟩;intro q;rw[q,W]at e;have q':oc=p.2:=Option.some.inj e;exact d Z (by rw[<-q'];exact af)
theorem jq{E:Value->Shared->Prop}{x:Str}{v:V}{u:Value}{Q:Unit->Shared->Prop}(I:Inv X pins σ H s)(b:X.N.Nodup)(hi:X.N[i]?=some x)(c:Loc X.env.scope x)(r:RelV v u)(h:∀a,Inv X pins (σ.set i (some v)) H a->Q () a)(e:X.fn x=true\/X.env.scope.names.lookup x=some .local:=by first|exact .inl rfl|exact .inr rfl|assumption):wpAny M A (storeName X.env x u) Q E s:=tU I b hi c r (λa f _=>h a f) e
end
abbrev XK:=Value->Option Addr->Hp->Prop
noncomputable abbrev St:=List (Option V)
abbrev VK:=V->Hp->Prop
abbrev TE:=St->Hp->VK->Prop
variable{te:TE}
abbrev TT:=St->Hp->(Bool->Hp->Prop)->Prop
abbrev TA:=St->Hp->(List V->Hp->Prop)->Prop
structure Ends where
 nx:St->Hp->Prop
 rt:VK
 bk:St->Hp->Prop:=λ_ _=>False
 ct:St->Hp->Prop:=λ_ _=>False
abbrev TS:=Ends->St->Hp->Prop
inductive EP(X:Cx)(pins:List (Addr×Obj))(σ:St)(Q:VK)(u:Value)(s':Shared):Prop where|mk(v:V)(H':Hp)(q0:Inv X pins σ H' s')(q1:RelV v u)(q2:Q v H')
def TP(X:Cx)(pins:List (Addr×Obj))(σ:St)(Q:Bool->Hp->Prop)(b:Bool)(c:Shared):Prop:=∃a,Inv X pins σ a c/\Q b a
inductive AP(X:Cx)(pins:List (Addr×Obj))(σ:St)(Q:List V->Hp->Prop)(us:List Value)(s':Shared):Prop where|mk(vs:List V)(H':Hp)(q0:Inv X pins σ H' s')(q1:Vals vs us)(q2:Q vs H')
def SP(X:Cx)(pins:List (Addr×Obj))(D:Ends)(f:Flow)(c:Shared):Prop:=match f with|.next=>∃a b,Inv X pins a b c/\D.nx a b|.brk=>∃a b,Inv X pins a b c/\D.bk a b|.cont=>∃a b,Inv X pins a b c/\D.ct a b|.ret u=>∃v a b,Inv X pins a b c/\RelV v u/\D.rt v b
def PE(X:Cx)(e:Expr)(t:TE):Prop:=∀(pins:List (Addr×Obj))(s:Shared)(σ:St)(H:Hp)(Q:VK),Inv X pins σ H s->t σ H Q->wpAny (model X.prog X.w) X.A (eval e X.env) (EP X pins σ Q) X.xe s
def PT(X:Cx)(e:Expr)(t:TT):Prop:=∀(pins:List (Addr×Obj))(s:Shared)(σ:St)(H:Hp)(Q:Bool->Hp->Prop),Inv X pins σ H s->t σ H Q->wpAny (model X.prog X.w) X.A (isTrue e X.env (eval e X.env)) (TP X pins σ Q) X.xe s
def PW(X:Cx)(e:Expr)(t:TT):Prop:=∀(a:Sem Value)(pins:List (Addr×Obj))(s:Shared)(σ:St)(H:Hp)(Q:Bool->Hp->Prop),Inv X pins σ H s->t σ H Q->wpAny (model X.prog X.w) X.A (isTrue e X.env a) (TP X pins σ Q) X.xe s
theorem PW.pt{e:Expr}{t:TT}(h:PW X e t):PT X e t:=h _
def PA(X:Cx)(es:List Expr)(t:TA):Prop:=∀(pos:Pos)(pins:List (Addr×Obj))(s:Shared)(σ:St)(H:Hp)(Q:List V->Hp->Prop),Inv X pins σ H s->t σ H Q->wpAny (model X.prog X.w) X.A (spliced (backTo pos (starEach es X.env))) (AP X pins σ Q) X.xe s
def PS(X:Cx)(st:Stmt)(t:TS):Prop:=∀(pins:List (Addr×Obj))(s:Shared)(σ:St)(H:Hp)(D:Ends),Inv X pins σ H s->t D σ H->wpAny (model X.prog X.w) X.A (exec st X.env) (SP X pins D) X.xe s
def wB(X:Cx)(st:List Stmt)(t:TS):Prop:=∀(pins:List (Addr×Obj))(s:Shared)(σ:St)(H:Hp)(D:Ends),Inv X pins σ H s->t D σ H->wpAny (model X.prog X.w) X.A (execs st X.env) (SP X pins D) X.xe s
theorem cB{b:Type}{t:Sem b}{Q c:b->Shared->Prop}{E:Value->Shared->Prop}(h:wpAny M A t Q E s)(e:∀a s,Q a s->c a s):wpAny M A t c E s:=wpAny_mono h e λ_ _ x=>x
section
variable{X:Cx}
def Ro(i:Nat):TE:=λσ H Q=>∃v,σ[i]?=some (some v)/\Q v H
def tC(v:V):TE:=λ_ H Q=>Q v H
theorem gH{x:Str}(f:X.N[i]?=some x)(g:xQ X.env.scope x)(hd:(x==("__debug__":Str))=false:=by decide)(b:(x==("__classdict__":Str))=false:=by decide):PE X (.Name x pos) (Ro i):=by
 intro pins s σ H Q I h;obtain⟨v,e,h⟩:=h;obtain⟨m,j,k⟩:=I.loc;obtain⟨u,r,l⟩:=k i x v f e g;have fin:EP X pins σ Q u s:=⟨v,H,I,r,h⟩;rcases l with⟨hk,n⟩|⟨hk,c,hc,a⟩;.exact wpAny_Name (wpAny_loadName_local I.ok.kind hk j n fin) hd
 . rcases hk with hk|hk;.exact wpAny_Name (wpAny_loadName_cell I.ok.kind hk hc a fin) hd
   .exact wpAny_Name (wpAny_loadName_free I.ok.kind hk hc a fin b) hd
theorem qO{i j pos}:PE X (.Constant (.int i) j pos) (tC (.int i)):=λ_ _ _ H _ I h=>wpAny_Constant_int ⟨.int i,H,I.tok _,⟨_,rfl⟩,h⟩
theorem Xf{b j pos}:PE X (.Constant (.bool b) j pos) (tC (.bl b)):=λ_ _ _ H _ I h=>Constant_bool ⟨.bl b,H,I,rfl,h⟩
theorem QM{j pos}:PE X (.Constant .none j pos) (tC .non):=λ_ _ _ H _ I h=>Constant_none ⟨.non,H,I,rfl,h⟩
def Gl(X:Cx)(x:Str):Prop:=X.env.kindOf x=some .globalImplicit
theorem Lw{E:Value->Shared->Prop}{σ:St}{x:Str}{u:Value}{Q:Value->Shared->Prop}(I:Inv X pins σ H s)(a:Gl X x)(b:X.mg x=some u)(h:Q u s)(hd:(x==("__debug__":Str))=false:=by decide):wpAny (model X.prog X.w) X.A (eval (.Name x pos) X.env) Q E s:=Calls.Name_function_global I.ok.kind a (Calls.loadGlobal_global (by rw[I.ok.glob];exact I.mod.glob.keeps I.bk) b h) hd
theorem gW{E:Value->Shared->Prop}{σ:St}{x:Str}{u:Value}{Q:Value->Shared->Prop}(I:Inv X pins σ H s)(a:Gl X x)(b:X.mg x=none)(c:bootBuiltins x=some u)(h:Q u s)(e:x≠"__name__":=by decide)(hd:(x==("__debug__":Str))=false:=by decide):wpAny (model X.prog X.w) X.A (eval (.Name x pos) X.env) Q E s:=by obtain⟨g,h1,f⟩:=I.mod.blt;exact Calls.Name_function_global I.ok.kind a (Calls.loadGlobal_builtin (by rw[I.ok.glob];exact I.mod.glob.keeps I.bk) b (by rw[I.ok.blt];exact h1.keeps I.bk) ((f x e).trans c) h) hd
theorem JG{x:Str}{v:V}{u:Value}(a:Gl X x)(b:X.mg x=none)(c:bootBuiltins x=some u)(r:RelV v u)(e:x≠"__name__":=by decide)(hd:(x==("__debug__":Str))=false:=by decide):PE X (.Name x pos) (tC v):=λ_ _ _ H _ I h=>gW I a b c ⟨v,H,I,r,h⟩ e hd
variable{a b:Expr}{ta tb:TE}{pos:Pos}
def PC(X:Cx)(op:CmpOp)(a b:Expr)(t:TE):Prop:=∀(pins:List (Addr × Obj))(s:Shared)(σ:St)(H:Hp)(Q:VK),Inv X pins σ H s->t σ H Q->wpAny (model X.prog X.w) X.A (eval a X.env) (λv c=>wpAny (model X.prog X.w) X.A (eval b X.env) (λu e=>wpAny (model X.prog X.w) X.A (compareOp op v u) (EP X pins σ Q) X.xe e) X.xe c) X.xe s
def tB(t:TE):TT:=λσ H Q=>t σ H λx e=>∃c,x=.bl c/\Q c e
theorem Pk{t:TE}(h:PC X op a b t)(h1:behindInMarks op b=false:=by first|exact Yq _ (by decide) (by decide)|rfl):PT X (.Compare a [op] [b] pos) (tB t):=by intro pins s σ H Q I e;refine wpAny_isTrue_Compare1 (cB (h pins s σ H _ I e) λv s1 h1=>cB h1 λu s2 f=>cB f λc s3⟨x,H1,I1,r1,q1⟩=>?_) h1;obtain⟨d,rfl,q⟩:=q1;cases r1;exact wpAny_truthy_bool ⟨H1,I1,q⟩
theorem Ry{e:Expr}{t:TE}(h:PE X e t)(he:∀c,isTrue e X.env c=(do let v<-c;standAt e.pos;holding [v] (truthy v)):=by intro _;rfl):PT X e (tB t):=by intro pins s σ H Q I f;refine isTrue_plain (cB (h pins s σ H _ I f) λv s1⟨x,H1,I1,r1,q1⟩=>?_) (he _);obtain⟨d,rfl,q⟩:=q1;cases r1;exact wpAny_truthy_bool ⟨H1,I1,q⟩
variable{tA tB':TT}{rest:List Expr}
def ac3(t u:TT):TT:=λσ H Q=>t σ H λc e=>if c=true then u σ e Q else Q false e
def tOr(t u:TT):TT:=λσ H Q=>t σ H λc e=>if c=true then Q true e else u σ e Q
def abf(t:TT):TT:=λσ H Q=>t σ H λc e=>Q (!c) e
theorem K6(f:PT X a tA):PW X (.BoolOp .And [a] pos) tA:=by intro wh pins s σ H Q I h;refine isTrue_and (cB (f pins s σ H Q I h) λc s1 e=>?_);cases c with|true=>exact isTrue_and_nil e|false=>exact e
theorem Td(f:PT X a tA):PW X (.BoolOp .Or [a] pos) tA:=by intro wh pins s σ H Q I h;refine isTrue_or (cB (f pins s σ H Q I h) λc s1 e=>?_);cases c with|false=>exact isTrue_or_nil e|true=>exact e
theorem RT(f:PT X a tA)(g:PW X (.BoolOp .And (b::rest) pos) tB'):PW X (.BoolOp .And (a::b::rest) pos) (ac3 tA tB'):=by intro wh pins s σ H Q I h;refine isTrue_and (cB (f pins s σ H _ I h) λc s1⟨e,I1,q1⟩=>?_);cases c with|true=>exact g wh pins s1 σ e Q I1 q1|false=>exact⟨e,I1,q1⟩
theorem Wk(f:PT X a tA)(g:PW X (.BoolOp .Or (b::rest) pos) tB'):PW X (.BoolOp .Or (a::b::rest) pos) (tOr tA tB'):=by intro wh pins s σ H Q I h;refine isTrue_or (cB (f pins s σ H _ I h) λc s1⟨e,I1,q1⟩=>?_);cases c with|true=>exact⟨e,I1,q1⟩|false=>exact g wh pins s1 σ e Q I1 q1
theorem Q5(e:PT X a tA):PT X (.UnaryOp .Not a pos) (abf tA):=by intro pins s σ H Q I h;exact isTrue_not (e pins s σ H (λc f=>Q (!c) f) I h)
def VJ(ta tb:TE):TE:=λσ H Q=>ta σ H λx e=>∃c,x=.bl c/\if c=true then tb σ e Q else Q (.bl false) e
def abe(ta tb:TE):TE:=λσ H Q=>ta σ H λx e=>∃c,x=.bl c/\if c=true then Q (.bl true) e else tb σ e Q
theorem Rz{op}{t:TE}(h:PE X a t):PE X (.BoolOp op [a] pos) t:=λpins s σ H Q I c=>BoolOp_one (h pins s σ H Q I c)
theorem Qj(f:PE X a ta)(g:PE X (.BoolOp .And (b::rest) pos) tb):PE X (.BoolOp .And (a::b::rest) pos) (VJ ta tb):=by intro pins s σ H Q I h;refine BoolOp_and (cB (f pins s σ H _ I h) λv s1⟨x,H1,I1,r1,e⟩=>?_);obtain⟨c,rfl,e⟩:=e;cases r1;refine wpAny_truthy_bool ?_;cases c with|true=>exact g pins s1 σ H1 Q I1 e|false=>exact⟨.bl false,H1,I1,rfl,e⟩
theorem HS(f:PE X a ta)(g:PE X (.BoolOp .Or (b::rest) pos) tb):PE X (.BoolOp .Or (a::b::rest) pos) (abe ta tb):=by intro pins s σ H Q I h;refine BoolOp_or (cB (f pins s σ H _ I h) λv s1⟨x,H1,I1,r1,e⟩=>?_);obtain⟨c,rfl,e⟩:=e;cases r1;refine wpAny_truthy_bool ?_;cases c with|false=>exact g pins s1 σ H1 Q I1 e|true=>exact⟨.bl true,H1,I1,rfl,e⟩
def tIf(t:TT)(ta tb:TE):TE:=λσ H Q=>t σ H λc e=>if c=true then ta σ e Q else tb σ e Q
theorem Et{c:Expr}(hc:PT X c tA)(f:PE X a ta)(g:PE X b tb):PE X (.IfExp c a b pos) (tIf tA ta tb):=by intro pins s σ H Q I h;refine wpAny_IfExp (cB (hc pins s σ H _ I h) λd s1⟨e,I1,q1⟩=>?_);cases d with|true=>exact f pins s1 σ e Q I1 q1|false=>exact g pins s1 σ e Q I1 q1
end
def dN(K:PySem.W.Frag)(H:Hp)(a:Addr)(xs:List V):Prop:=Rd H a (.lst xs)\/∃(o:Obj)(b:Array Value)(n:Nat),K.lookup a=some o/\o.cls=.type "list"/\o.dict=none/\o.data=.seq b n/\b.size<=sizeLine/\Vals xs b.toList
def iB(K:PySem.W.Frag)(H:Hp)(a:Addr)(xs:List V):Prop:=Rd H a (.tup xs)\/∃(o:Obj)(b:Array Value)(n:Nat),K.lookup a=some o/\o.cls=.type "tuple"/\o.data=.seq b n/\b.size<=sizeLine/\Vals xs b.toList
noncomputable def aa6:Value->Option V|.none=>some .non|.bool b=>some (.bl b)|.int i _=>some (.int i)|.str x _=>some (.str x)|.bytes b _=>some (.byt b)|.float b _=>some (.flt b)|.ref a=>some (.ref a)|.type n=>some (.ty n)|_=>none
theorem RelV.abs{x:V}{u:Value}(r:RelV x u):aa6 u=some x:=by cases x with|non=>cases r;rfl|bl _=>cases r;rfl|int _=>obtain⟨t,rfl⟩:=r;rfl|str _=>obtain⟨t,rfl⟩:=r;rfl|byt _=>obtain⟨t,rfl⟩:=r;rfl|flt _=>obtain⟨t,rfl⟩:=r;rfl|ref _=>cases r;rfl|ty _=>cases r;rfl
theorem RelV.inj{x y:V}{u:Value}(r:RelV x u)(q:RelV y u):x=y:=Option.some.inj (r.abs.symm.trans q.abs)
theorem Vals.inj:∀{xs ys:List V}{us:List Value},Vals xs us->Vals ys us->xs=ys|_,_,_,.nil,.nil=>rfl|_,_,_,.cons r t,.cons a t'=>by rw[r.inj a,Vals.inj t t']
section
variable{X:Cx}{pins:List (Addr×Obj)}{σ:St}{H:Hp}{s:Shared}{a:Addr}{xs ys:List V}
theorem dN.of(h:H a=some (.lst xs)):dN K H a xs:=.inl (.inl h)
theorem iB.of(h:H a=some (.tup xs)):iB K H a xs:=.inl (.inl h)
theorem Inv.list(I:Inv X pins σ H s)(h:dN X.K H a xs):∃b:List Value,Vals xs b/\PlainL s.heap a b.toArray/\xs.length<=sizeLine:=by
 rcases h with h|⟨o,b,n,c,hc,hd,hs,hz,r⟩;.obtain⟨z,b,n,r,e⟩:=h.ok I.hok;exact⟨b,r,⟨_,n,e,rfl,rfl,rfl⟩,z⟩
 .refine⟨b.toList,r,⟨o,n,I.Ql a o c,hc,hd,by simpa using hs⟩,?_⟩;have e:=r.length;simp only[length_toList]at e;omega
theorem Inv.tuple(I:Inv X pins σ H s)(h:iB X.K H a xs):∃b:List Value,Vals xs b/\IsTup s.heap a b.toArray/\xs.length<=sizeLine:=by
 rcases h with h|⟨o,b,n,c,hc,hs,hz,r⟩;.obtain⟨z,b,r,p⟩:=h.ok I.hok;exact⟨b,r,p,z⟩
 .refine⟨b.toList,r,⟨o,I.Ql a o c,hc,n,by simpa using hs⟩,?_⟩;have e:=r.length;simp only[length_toList]at e;omega
theorem Inv.mK(I:Inv X pins σ H s)(h:dN X.K H a xs)(h':dN X.K H a ys):xs=ys:=by
 obtain⟨b,r,⟨o,n,e,_,_,d⟩,_⟩:=I.list h;obtain⟨its',f,⟨g,j,c,_,_,d'⟩,_⟩:=I.list h';rw[e]at c;cases c;rw[d]at d';injection d' with d1 _;have:b=its':=by simpa using congrArg toList d1
 subst this;exact r.inj f
theorem Inv.j6(I:Inv X pins σ H s)(h:iB X.K H a xs)(h':iB X.K H a ys):xs=ys:=by
 obtain⟨b,r,⟨o,e,_,n,d⟩,_⟩:=I.tuple h;obtain⟨its',f,⟨g,c,_,j,d'⟩,_⟩:=I.tuple h';rw[e]at c;cases c;rw[d]at d';injection d' with d1 _;have:b=its':=by simpa using congrArg toList d1
 subst this;exact r.inj f
end
noncomputable abbrev Cx.wish(X:Cx)(E:Value->Shared->Prop):Cx:={X with xe:=E}
noncomputable abbrev Cx.WK(X:Cx):Cx:=X.wish λ_ _=>False
theorem Cx.Ok.wish{X:Cx}(ok:X.Ok)(E:Value->Shared->Prop):(X.wish E).Ok:=⟨ok.mod,ok.kind,ok.glob,ok.blt,ok.above,ok.inj,ok.has,ok.cab,ok.hd,ok.frames,ok.stk,ok.exf,ok.bs,ok.Ol,ok.Jd,ok.Mj,ok.pU,ok.Vr⟩
theorem Cx.Ok.jE{E:Value->Shared->Prop}(ok:(X.wish E).Ok):X.Ok:=⟨ok.mod,ok.kind,ok.glob,ok.blt,ok.above,ok.inj,ok.has,ok.cab,ok.hd,ok.frames,ok.stk,ok.exf,ok.bs,ok.Ol,ok.Jd,ok.Mj,ok.pU,ok.Vr⟩
section
variable{X:Cx}{pins:List (Addr×Obj)}{σ:St}{H:Hp}{s:Shared}{E:Value->Shared->Prop}
theorem Inv.wish(I:Inv X pins σ H s)(E:Value->Shared->Prop):Inv (X.wish E) pins σ H s:=⟨I.ok.wish E,I.os,I.bare,I.base,I.loc,I.cell,I.free,I.kO,I.pin,I.hok,I.len⟩
theorem Inv.jE(I:Inv (X.wish E) pins σ H s):Inv X pins σ H s:=⟨I.ok.jE,I.os,I.bare,I.base,I.loc,I.cell,I.free,I.kO,I.pin,I.hok,I.len⟩
theorem SP.jE{D:Ends}{f:Flow}{c:Shared}(h:SP (X.wish E) pins D f c):SP X pins D f c:=by cases f with|next=>obtain⟨a,b,I,q⟩:=h;exact⟨a,b,I.jE,q⟩|brk=>obtain⟨a,b,I,q⟩:=h;exact⟨a,b,I.jE,q⟩|cont=>obtain⟨a,b,I,q⟩:=h;exact⟨a,b,I.jE,q⟩|ret u=>obtain⟨v,a,b,I,r,q⟩:=h;exact⟨v,a,b,I.jE,r,q⟩
theorem wB.WK{st:List Stmt}{t:TS}(h:wB X.WK st t):wB X st t:=λpins s σ H D I a=>wpAny_mono (h pins s σ H D (I.wish _) a) (λ_ _ q=>q.jE) λ_ _ z=>False.elim z
end
section
variable{X:Cx}{st:Stmt}{rest:List Stmt}{t u:TS}{e:Expr}{te:TE}{pos:Pos}
def Xv:TS:=λD σ H=>D.nx σ H
def aaU(t u:TS):TS:=λD σ H=>t {D with nx:=u D} σ H
theorem Br:wB X [] Xv:=λ_ _ σ H _ I h=>wpAny_execs_nil ⟨σ,H,I,h⟩
theorem lX(h1:PS X st t)(b:wB X rest u):wB X (st::rest) (aaU t u):=by intro pins s σ H D I h;refine wpAny_execs_cons (cB (h1 pins s σ H {D with nx:=u D} I h) λf s1 q=>?_);cases f with|next=>obtain⟨a,c,g,q⟩:=q;exact b pins s1 a c D g q|ret v=>exact q|brk=>exact q|cont=>exact q
theorem Inv.quiet{σ:St}(I:Inv X pins σ H s):interactive X.env=false:=by simp[interactive,I.ok.kind]
def WW(te:TE):TS:=λD σ H=>te σ H λ_ a=>D.nx σ a
theorem uK(he:PE X e te)(hs:swapsWith e none pos.line X.env=pure false:=by rfl):PS X (.Expr e pos) (WW te):=by intro pins s σ H D I h;exact wpAny_Expr_any (cB (he pins s σ H _ I h) λv s1⟨x,H1,I1,r1,q1⟩=>⟨σ,H1,I1,q1⟩) I.quiet hs
def acF(te:TE):TS:=λD σ H=>te σ H D.rt
theorem Ik(he:PE X e te):PS X (.Return (some e) pos) (acF te):=by intro pins s σ H D I h;exact wpAny_Return_some (cB (he pins s σ H _ I h) λv s1⟨x,H1,I1,r1,q1⟩=>⟨x,σ,H1,I1,r1,q1⟩)
def ac6(c:TT)(t u:TS):TS:=λD σ H=>c σ H λb a=>if b=true then t D σ a else u D σ a
theorem N7{c:Expr}{a b:List Stmt}{f:TT}(hc:PT X c f)(j:wB X a t)(k:wB X b u):PS X (.If c a b pos) (ac6 f t u):=by intro pins s σ H D I h;refine wpAny_If (cB (hc pins s σ H _ I h) λd s1⟨g,I1,q1⟩=>?_);cases d with|true=>exact j pins s1 σ g D I1 q1|false=>exact k pins s1 σ g D I1 q1
def PQ:TS:=λ_ _ _=>False
theorem Gd:PS X st PQ:=λ_ _ _ _ _ _ h=>h.elim
end
abbrev TG:=V->St->Hp->(St->Hp->Prop)->Prop
abbrev Ek:=List V->St->Hp->(St->Hp->Prop)->Prop
def PG(X:Cx)(a:Expr)(t:TG):Prop:=∀(pins:List (Addr × Obj))(s:Shared)(σ:St)(H:Hp)(v:V)(u:Value)(Q:St->Hp->Prop),Inv X pins σ H s->RelV v u->t v σ H Q->wpAny (model X.prog X.w) X.A (assign a X.env u) (λ_ e=>∃b c,Inv X pins b c e/\Q b c) X.xe s
def PGs(X:Cx)(c:List Expr)(t:Ek):Prop:=∀(pins:List (Addr × Obj))(s:Shared)(σ:St)(H:Hp)(vs:List V)(us:List Value)(Q:St->Hp->Prop),Inv X pins σ H s->Vals vs us->t vs σ H Q->wpAny (model X.prog X.w) X.A (assignInOrder ((assignEach c X.env).map (·.2)) us) (λ_ e=>∃a b,Inv X pins a b e/\Q a b) X.xe s
abbrev Fy:=V->V->V->Hp->(Hp->Prop)->Prop
def O8(X:Cx)(t:Fy):Prop:=∀(pins:List (Addr × Obj))(s:Shared)(σ:St)(H:Hp)(o i v:V)(ov iv u:Value)(Q:Hp->Prop),Inv X pins σ H s->RelV o ov->RelV i iv->RelV v u->t o i v H Q->wpAny (model X.prog X.w) X.A (setItem ov iv u) (λ_ b=>∃a,Inv X pins σ a b/\Q a) X.xe s
abbrev U4:=V->V->Hp->VK->Prop
def MJ(X:Cx)(op:Operator)(t:U4):Prop:=∀(pins:List (Addr × Obj))(s:Shared)(σ:St)(H:Hp)(x y:V)(v u:Value)(Q:VK),Inv X pins σ H s->RelV x v->RelV y u->t x y H Q->wpAny (model X.prog X.w) X.A (inplaceOp op v u) (EP X pins σ Q) X.xe s
section
variable{X:Cx}{pos:Pos}
def jx(i:Nat):TG:=λv σ H Q=>Q (σ.set i (some v)) H
theorem aJ{x:Str}(a:X.N.Nodup)(hi:X.N[i]?=some x)(b:Loc X.env.scope x)(c:X.fn x=true\/X.env.scope.names.lookup x=some .local:=by first|exact .inl rfl|exact .inr rfl|assumption):PG X (.Name x pos) (jx i):=by intro pins s σ H v u Q I r h;exact wpAny_assign_Name (jq I a hi b r (λf e=>⟨_,H,e,h⟩) c)
def QS:Ek:=λvs σ H Q=>vs=[]/\Q σ H
def Fg(t:TG)(u:Ek):Ek:=λvs σ H Q=>∃v r,vs=v::r/\t v σ H λa b=>u r a b Q
theorem eG:PGs X [] QS:=by intro pins s σ H vs us Q I r h;obtain⟨e,h⟩:=h;subst e;cases r;exact assignInOrder_nil ⟨σ,H,I,h⟩
theorem bh{e:Expr}{es:List Expr}{t:TG}{u:Ek}(h1:PG X e t)(b:PGs X es u)(hs:(assignEach (e::es) X.env).map (·.2)=assign e X.env::(assignEach es X.env).map (·.2):=by rfl):PGs X (e::es) (Fg t u):=by intro pins s σ H vs us Q I r h;obtain⟨v,g,c,h⟩:=h;subst c;cases r with|cons r f=>rw[hs];refine assignInOrder_cons (cB (h1 pins s σ H _ _ _ I r h) λ_ s1⟨a,H1,I1,q1⟩=>?_);exact b pins s1 a H1 _ _ Q I1 f q1
def PL(K:PySem.W.Frag)(n:Nat)(t:Ek):TG:=λv σ H Q=>∃a xs,v=.ref a/\iB K H a xs/\xs.length=n/\t xs σ H Q
theorem gA{es:List Expr}{k:Nat}{t:Ek}{n:Nat}(hc:X.calm=true)(h:PGs X es t)(g:(assignEach es X.env).length=n:=by rfl)(hst:(assignEach es X.env).findIdx? (·.1)=none:=by rfl):PG X (.Tuple es k pos) (PL X.K n t):=by intro pins s σ H v u Q I r c;obtain⟨a,xs,j,l,m,c⟩:=c;subst j;cases r;obtain⟨p,f,ht,hz⟩:=I.tuple l;refine assign_Tuple_tuple (I.ok.hd hc) ht (by simp[g,<-m,f.length]) hst λh' q=>?_;have x:Inv X pins σ H {s with heap:=h'}:=I.kept (t':=s.toks) λb o e=>q b o (ne_of_lt (lt_size e)) e;exact h pins _ σ H xs _ Q x (by simpa using f) c
def ac5(to a:TE)(t:Fy):TG:=λv σ H Q=>to σ H λo b=>a σ b λi c=>t o i v c λe=>Q σ e
theorem Sh{o i:Expr}{to a:TE}{t:Fy}(ho:PE X o to)(hi:PE X i a)(hs:O8 X t)(b:∀ v,assign (.Subscript o i pos) X.env v=(do
  let ov<-holding [v] (eval o X.env)let iv<-holding [v,ov] (eval i X.env)standAt pos
  holding [v,ov,iv] (setItem ov iv v)release [v,ov,iv] []):=by intro _;rfl):PG X (.Subscript o i pos) (ac5 to a t):=by intro pins s σ H v u Q I r h;rw[b];refine wpAny_bind (wpAny_holding (cB (ho pins s σ H _ I h) λov s1⟨x,H1,I1,r1,q1⟩=>?_));refine wpAny_bind (wpAny_holding (cB (hi pins s1 σ H1 _ I1 q1) λiv s2⟨y,H2,I2,r2,q2⟩=>?_));refine wpAny_bind (wpAny_standAt (wpAny_bind (wpAny_holding (cB (hs pins s2 σ H2 x y v ov iv u _ I2 r1 r2 r q2) λ_ s3⟨c,I3,q3⟩=>?_))));exact wpAny_release ⟨σ,c,I3,q3⟩
def Qt(te:TE)(g:TG):TS:=λD σ H=>te σ H λx a=>g x σ a D.nx
theorem Gm{e:Expr}{g:TG}(he:PE X e te)(a:PG X tg g)(hs:swapsWithSole [tg] e pos.line X.env=pure false:=by rfl)(b:swappedStores [tg] e X.env=pure none:=by rfl)(h1:(assignEach [tg] X.env).map (·.2)=[assign tg X.env]:=by rfl):PS X (.Assign [tg] e pos) (Qt te g):=by intro pins s σ H D I h;refine wpAny_Assign_stores (cB (he pins s σ H _ I h) λv s1⟨x,H1,I1,r1,q1⟩=>?_) hs b;rw[h1];exact cB (a pins s1 σ H1 x v _ I1 r1 q1) λ_ s2 q=>q
theorem yJ{x:Str}{e:Expr}{a:Pos}(b:X.N.Nodup)(hi:X.N[i]?=some x)(c:Loc X.env.scope x)(he:PE X e te)(hs:swapsWith e (some (.Name x a)) pos.line X.env=pure false:=by rfl)(f:X.fn x=true\/X.env.scope.names.lookup x=some .local:=by first|exact .inl rfl|exact .inr rfl|assumption):PS X (.Assign [.Name x a] e pos) (Qt te (jx i)):=by intro pins s σ H D I h;refine wpAny_Assign_Name (cB (he pins s σ H _ I h) λv s1⟨y,H1,I1,r1,q1⟩=>?_) hs;exact jq I1 b hi c r1 (λs2 g=>⟨_,H1,g,q1⟩) f
def acB(i j:Nat)(a:TA):TS:=λD σ H=>a σ H λvs b=>∃v w,vs=[v,w]/\D.nx ((σ.set i (some v)).set j (some w)) b
theorem R3{j:Nat}{x y:Str}{a b:Expr}{r:TA}{g k pt:Pos}{kt k2 Tq}(hc:X.calm=true)(t:X.N.Nodup)(hi:X.N[i]?=some x)(C:X.N[j]?=some y)(l:i≠j)(u:X.env.scope.names.lookup x=some .local)(z:X.env.scope.names.lookup y=some .local)(E:PA X [a,b] r)(G:swappedStores [.Tuple [.Name x g,.Name y k] kt pt] (.Tuple [a,b] k2 Tq) X.env=pure (some [x,y]))(hs:swapsWithSole [.Tuple [.Name x g,.Name y k] kt pt] (.Tuple [a,b] k2 Tq) pos.line X.env=pure false:=by rfl):PS X (.Assign [.Tuple [.Name x g,.Name y k] kt pt] (.Tuple [a,b] k2 Tq) pos) (acB i j r):=by
 intro pins s σ H D I h;rw[exec_Assign_arm];refine wpAny_bind (wpAny_standAt ?_);rw[hs];refine wpAny_bind (wpAny_pure ?_);rw[if_neg (by decide)];refine wpAny_bind (Tuple_ (cB (E _ pins s σ H _ I h) λus s1⟨vs,H1,I1,r1,m⟩=>?_));obtain⟨v,w,J,m⟩:=m;subst J;obtain⟨c,f,rfl,L,O⟩:∃c f,us=[c,f]/\RelV v c/\RelV w f:=by cases r1 with|cons p q=>cases q with|cons Q U=>cases U;exact⟨_,_,rfl,p,Q⟩
 refine wpAny_newObj_type ?_ (by show 2<=sizeLine;decide);have W:Inv X pins σ H1 {s1 with heap:=s1.heap.push {cls:=.type "tuple",data:=.seq [c,f].toArray}}:=I1.kept (t':=s1.toks) λb o e=>dR e;rw[G];refine wpAny_bind (wpAny_pure ?_);show wpAny (model X.prog X.w) X.A (do rule "assign.swapped-stores";let items<-unpackItems (.ref s1.heap.objs.size) 2 none;assignInOrder [λv=>bindName X.env y v,λv=>bindName X.env x v] items.reverse;pure Flow.next) _ _ _;refine wpAny_bind (wpAny_rule (wpAny_bind (unpackItems_tuple (items:=#[c,f]) (I.ok.hd hc) (IsTup.new s1.heap _) λh' n=>?_)));have Y:=W.kept (h':=h') (t':=s1.toks) λb o e=>n b o (ne_of_lt (lt_size e)) e;show wpAny _ _ (assignInOrder [λv=>bindName X.env y v,λv=>bindName X.env x v] [f,c]>>=λ_=>pure Flow.next) _ _ _;refine wpAny_bind (assignInOrder_cons (wpAny_bindName (jq Y t C (.inl z) O (λs2 Z=>?_) (.inr z))));refine assignInOrder_cons (wpAny_bindName (jq Z t hi (.inl u) L (λs3 B=>assignInOrder_nil (wpAny_pure ?_)) (.inr u)));rw[List.set_comm _ _ (Ne.symm l)]at B;exact⟨_,H1,B,m⟩
def aby(i:Nat)(te:TE)(a:U4):TS:=λD σ H=>∃x,σ[i]?=some (some x)/\te σ H λy b=>a x y b λz c=>D.nx (σ.set i (some z)) c
theorem Q6{x:Str}{e:Expr}{op:Operator}{o:U4}{b:Pos}(p:X.N.Nodup)(hi:X.N[i]?=some x)(j:Loc X.env.scope x)(he:PE X e te)(ho:MJ X op o)(q:X.fn x=true\/X.env.scope.names.lookup x=some .local:=by first|exact .inl rfl|exact .inr rfl|assumption):PS X (.AugAssign (.Name x b) op e pos) (aby i te o):=by
 intro pins s σ H D I h;obtain⟨v,t,h⟩:=h;obtain⟨m,B,C⟩:=I.loc;have n:xQ X.env.scope x:=by rcases j with k|k;exact .inl k;exact .inr (.inl k)
 obtain⟨u,r,l⟩:=C i x v hi t n;refine wpAny_AugAssign_Name ?_;have go:wpAny (model X.prog X.w) X.A (eval e X.env) (λw f=>wpAny (model X.prog X.w) X.A (inplaceOp op u w) (λr g=>wpAny (model X.prog X.w) X.A (storeName X.env x r) (λ_=>SP X pins D .next) X.xe g) X.xe f) X.xe s:=by refine cB (he pins s σ H _ I h) λw s1⟨y,H1,I1,r1,q1⟩=>?_;refine cB (ho pins s1 σ H1 v y u w _ I1 r r1 q1) λz s2⟨J,H2,I2,r2,q2⟩=>?_;exact jq I2 p hi j r2 (λs3 E=>⟨_,H2,E,q2⟩) q
 rcases l with⟨hk,G⟩|⟨hk,c,hc,a⟩;.exact wpAny_loadName_local I.ok.kind hk B G go
 . rcases hk with hk|hk;.exact wpAny_loadName_cell I.ok.kind hk hc a go
   . rcases j with k|k;.have:X.env.scope.names.lookup x=some .free:=hk;rw[k]at this;cases this
     .have:X.env.scope.names.lookup x=some .free:=hk;rw[k]at this;cases this
def Xk(to b te:TE)(c:V->V->Hp->VK->Prop)(a:U4)(e:Fy):TS:=λD σ H=>to σ H λo f=>b σ f λi g=>c o i g λx j=>te σ j λy k=>a x y k λz l=>e o i z l λm=>D.nx σ m
def VN(X:Cx)(t:V->V->Hp->VK->Prop):Prop:=∀(pins:List (Addr × Obj))(s:Shared)(σ:St)(H:Hp)(o i:V)(ov iv:Value)(Q:VK),Inv X pins σ H s->RelV o ov->RelV i iv->t o i H Q->wpAny (model X.prog X.w) X.A (getItem ov iv) (EP X pins σ Q) X.xe s
theorem K9{o i e:Expr}{to g:TE}{j:V->V->Hp->VK->Prop}{b:U4}{k:Fy}{op:Operator}{c:Pos}(ho:PE X o to)(hi:PE X i g)(n:VN X j)(he:PE X e te)(p:MJ X op b)(hs:O8 X k)(q:∀ov iv a,augStore i ov iv a=(do holding [a,ov,iv] (setItem ov iv a);release [a,ov,iv] [];pure .next):=by intros;rfl):PS X (.AugAssign (.Subscript o i c) op e pos) (Xk to g te j b k):=by intro pins s σ H D I h;refine wpAny_AugAssign_SubscriptAny (cB (ho pins s σ H _ I h) λov s1⟨l,H1,I1,r1,q1⟩=>?_) q;refine cB (hi pins s1 σ H1 _ I1 q1) λiv s2⟨m,H2,I2,r2,q2⟩=>?_;refine cB (n pins s2 σ H2 l m ov iv _ I2 r1 r2 q2) λf s3⟨r,H3,I3,r3,q3⟩=>?_;refine cB (he pins s3 σ H3 _ I3 q3) λv s4⟨t,H4,I4,r4,q4⟩=>?_;refine cB (p pins s4 σ H4 r t f v _ I4 r3 r4 q4) λa s5⟨u,H5,I5,r5,q5⟩=>?_;exact cB (hs pins s5 σ H5 l m u ov iv a _ I5 r1 r2 r5 q5) λ_ s6⟨x,I6,q6⟩=>⟨σ,x,I6,q6⟩
def Vj(f:Int->Int->Int):U4:=λx y H Q=>∃i j,x=.int i/\y=.int j/\Q (.int (f i j)) H
theorem Ri:MJ X .Add (Vj λi j=>i+j):=by intro pins s σ H x y v u Q I r1 a h;obtain⟨i,j,b,c,q⟩:=h;subst b;subst c;obtain⟨t,rfl⟩:=r1;obtain⟨t',rfl⟩:=a;exact iadd_int ⟨.int _,H,I.tok _,⟨_,rfl⟩,q⟩
theorem QH:MJ X .Sub (Vj λi j=>i-j):=by intro pins s σ H x y v u Q I r1 a h;obtain⟨i,j,b,c,q⟩:=h;subst b;subst c;obtain⟨t,rfl⟩:=r1;obtain⟨t',rfl⟩:=a;exact isub_int ⟨.int _,H,I.tok _,⟨_,rfl⟩,q⟩
end
section
variable{X:Cx}{pos:Pos}
def Rv(c:TT)(j:TS):TS:=λD σ H=>∃W:Nat->St->Hp->Prop,(∃m,W m σ H)/\∀m σ H,W m σ H->c σ H λb e=>if b=true then ∃N:St->Hp->Prop,(∀a f,N a f->∃g,g<m/\W g a f)/\j {D with nx:=N,ct:=N,bk:=D.nx} σ e else D.nx σ e
theorem Ii{c:Expr}{body:List Stmt}{u:TT}{x:TS}(y:PassesOwn (model X.prog X.w) X.A X.env X.xe)(hc:PT X c u)(G:wB X body x):PS X (.While c body [] pos) (Rv u x):=by intro pins s σ H D I h;obtain⟨W,⟨m0,J⟩,g⟩:=h;refine wpAny_While (codeAny_whileLoop (λn L=>∃j z,Inv X pins j z L/\W n j z) ?_ m0 ⟨σ,H,I,J⟩);rintro n s1⟨e,B,O,Q⟩;refine wpAny_passesOwn y (cB (hc pins s1 e B _ O (g n e B Q)) λb s2⟨C,I2,l⟩=>?_);cases b with
 |true=>obtain⟨N,E,l⟩:=l;rw[if_pos rfl];refine wpAny_passesOwn y (cB (G pins s2 e C _ I2 l) λf s3 m=>?_);cases f with|next=>obtain⟨a,k,o,p⟩:=m;obtain⟨q,r,t⟩:=E a k p;exact⟨q,r,a,k,o,t⟩|cont=>obtain⟨a,k,o,p⟩:=m;obtain⟨q,r,t⟩:=E a k p;exact⟨q,r,a,k,o,t⟩|brk=>exact m|ret v=>exact m
 |false=>rw[if_neg Bool.false_ne_true];exact wpAny_execs_nil ⟨e,C,I2,l⟩
end
structure It where
 go:Nat->Hp->Prop
 Jf:Nat->Hp->V->Hp->Prop
 stop:Nat->Hp->Prop
def m8(X:Cx)(pins:List (Addr×Obj))(H:Hp)(b:Addr):Prop:=H b=none/\b≠X.env.locals/\b∉X.fs/\(b∈X.ex\/X.s₀.heap.objs.size<=b)/\(∀x c,X.env.cells.lookup x=some c->c≠b)/\∀p∈X.pn++pins,p.1≠b
theorem Inv.yG{σ:St}{f:Hp}{b:Addr}(I:Inv X pins σ H s)(a:s.heap.objs.size<=b)(g:f b=none):m8 X pins f b:=by
 refine⟨g,Nat.ne_of_gt (lt_of_lt_of_le I.lt a),I.adv a,.inr (le_trans I.sz a),λx c e z=>?_,λp j z=>?_⟩;.obtain⟨v,q⟩:=I.cell x c e;exact absurd (lt_of_lt_of_le q.lt (by rw[z];exact a)) (lt_irrefl _)
 .exact absurd (lt_of_lt_of_le (lt_size (I.pin p j).1) (by rw[z];exact a)) (lt_irrefl _)
structure Turn(P:Program)(w:World)(K:PySem.W.Frag)(tg:Expr)(J:It)(fp:List Addr)(it:Addr)(tn:Nat->Heap->Prop):Prop where
 mem:it∈fp
 obj:∀i h,tn i h->∀b∈fp,∃o,h.get? b=some o/\∀v,o.data≠.cell v
 keep:∀i h h',tn i h->(∀b∈fp,∀o,h.get? b=some o->h'.get? b=some o)->tn i h'
 item:∀(X:Cx),X.prog=P->X.w=w->X.K=K->X.calm=true->∀(i:Nat)(pins:List (Addr×Obj))(s:Shared)(σ:St)(H:Hp)(E:Value->Shared->Prop),Inv X pins σ H s->(∀b∈fp,m8 X pins H b)->tn i s.heap->J.go i H->wpAny (model P w) X.A (pyNext (.ref it)) (λr s1=>∃u,r=some u/\wpAny (model P w) X.A (letOwnedTupleGo tg (.ref it) u) (λ_ s2=>∃x H',Inv X pins σ H' s2/\RelV x u/\J.Jf i H x H'/\tn (i+1) s2.heap/\∀b∈fp,H' b=none) E s1) E s
 done:∀(X:Cx),X.prog=P->X.w=w->X.K=K->X.calm=true->∀(i:Nat)(pins:List (Addr×Obj))(s:Shared)(σ:St)(H:Hp)(E:Value->Shared->Prop),Inv X pins σ H s->(∀b∈fp,m8 X pins H b)->tn i s.heap->J.stop i H->wpAny (model P w) X.A (pyNext (.ref it)) (λr s1=>r=none/\Inv X pins σ H s1) E s
 self:∀(A:Around)(i:Nat)(s:Shared)(Q:Value->Shared->Prop)(E:Value->Shared->Prop),tn i s.heap->Q (.ref it) s->wpAny (model P w) A (pyIter (.ref it)) Q E s
abbrev TI:=St->Hp->(It->Hp->Prop)->Prop
def PIE(X:Cx)(pins:List (Addr×Obj))(σ:St)(tg:Expr)(R:It->Hp->Prop)(a:Value)(s2:Shared):Prop:=∃(e:Addr)(f:List Addr)(g:Nat->Heap->Prop)(J:It)(c:Hp),a=.ref e/\Inv X pins σ c s2/\Turn X.prog X.w X.K tg J f e g/\g 0 s2.heap/\(∀b∈f,m8 X pins c b)/\R J c
def PI(X:Cx)(tg iter:Expr)(wi:TI):Prop:=∀(pins:List (Addr × Obj))(s:Shared)(σ:St)(H:Hp)(R:It->Hp->Prop),Inv X pins σ H s->wi σ H R->wpAny (model X.prog X.w) X.A (eval iter X.env) (λv s1=>wpAny (model X.prog X.w) X.A (pyIter v) (PIE X pins σ tg R) X.xe s1) X.xe s
theorem Bt{E:Value->Shared->Prop}{b:Addr}{u:Value}{o:Obj}{n:String}{vs:Array Value}{Q:Unit->Shared->Prop}(ho:s.heap.get? b=some o)(hc:o.cls=.type n)(hd:o.data=.fields vs)(c:["enumerate","zip","dict_itemiterator","dict_reverseitemiterator","odict_iterator","itertools.zip_longest","itertools.pairwise"].contains n=false)(a:Q () s):wpAny M A (letOwnedTupleGo tg (.ref b) u) Q E s:=by unfold letOwnedTupleGo;cases tg<;>first|exact wpAny_pure a|(cases u<;>first|exact wpAny_pure a|(refine wpAny_bind (wpAny_load ho ?_);rw[hc,hd];show wpAny M A (if(["enumerate","zip","dict_itemiterator","dict_reverseitemiterator","odict_iterator","itertools.zip_longest","itertools.pairwise"].contains n&&vs[0]?==some (rawInt _))=true then _ else _) Q E s;rw[if_neg (by intro h;rw[c,Bool.false_and]at h;cases h)];exact wpAny_pure a))
noncomputable def QK(K:PySem.W.Frag)(a:Addr):It:=⟨λi H=>∃xs x,dN K H a xs/\xs[i]?=some x,λi H x b=>b=H/\∀xs,dN K H a xs->xs[i]?=some x,λi H=>∃xs,dN K H a xs/\xs.length<=i⟩
noncomputable def Ub(K:PySem.W.Frag)(a:Addr):It:=⟨λi H=>∃xs x,iB K H a xs/\xs[i]?=some x,λi H x b=>b=H/\∀xs,iB K H a xs->xs[i]?=some x,λi H=>∃xs,iB K H a xs/\xs.length<=i⟩
noncomputable def T5(lo:Int)(n:Nat):It:=⟨λi _=>i<n,λi H x a=>a=H/\x=.int (lo+i),λi _=>n<=i⟩
theorem Dn{P:Program}(a f:Addr):Turn P w K tg (QK K a) [f] f (λi h=>h.IsListIter f a i)where
 mem:=by simp
 obj:=λi h st b g=>by
  have e:b=f:=by simpa using g
  subst e;obtain⟨o,e,c,d⟩:=st;exact⟨o,e,λv z=>by rw[d]at z;cases z⟩
 keep:=λi h h' st k=>st.at λo e=>k f (by simp) o e;item:=by intro X n q r hc i pins s σ H E I l st t;subst n q r;obtain⟨xs,x,m,y⟩:=t;obtain⟨B,C,p,hz⟩:=I.list m;obtain⟨u,G,J⟩:=C.get y;obtain⟨f0,f1,f2,f3,f4,f5⟩:=l f (by simp);refine wpAny_pyNext_list_item st p.isList (x:=u) (by simpa using G) λh' j L=>?_;have N:Inv X pins σ H {s with heap:=h'}:=I.turned (t':=s.toks) (λb o g e=>(L.2 b g).trans e) f0 f1 f3 f4 f5;obtain⟨o,e,c,d⟩:=id j;exact⟨u,rfl,Bt (s:={s with heap:=h'}) e c d (by decide) ⟨x,H,N,J,⟨rfl,λys O=>by rw[I.mK O m];exact y⟩,j,λb g=>(l b g).1⟩⟩
 done:=by intro X n q r hc i pins s σ H E I l st t;subst n q r;obtain⟨xs,m,y⟩:=t;obtain⟨B,C,p,hz⟩:=I.list m;obtain⟨f0,f1,f2,f3,f4,f5⟩:=l f (by simp);have U:=C.length;exact wpAny_pyNext_list_end (I.ok.hd hc) st p.isList (by simp;omega) λh' Q=>⟨rfl,I.turned (t':=s.toks) (λb o g e=>Q b o g e) f0 f1 f3 f4 f5⟩
 self:=λ_ _ _ _ _ st h=>wpAny_pyIter_listiter st h
theorem yz{P:Program}(a f:Addr):Turn P w K tg (Ub K a) [f] f (λi h=>h.IsTupleIter f a i)where
 mem:=by simp
 obj:=λi h st b g=>by
  have e:b=f:=by simpa using g
  subst e;obtain⟨o,e,c,d⟩:=st;exact⟨o,e,λv z=>by rw[d]at z;cases z⟩
 keep:=λi h h' st k=>st.at λo e=>k f (by simp) o e;item:=by intro X q r t hc i pins s σ H E I m st y;subst q r t;obtain⟨xs,x,n,B⟩:=y;obtain⟨j,C,p,hz⟩:=I.tuple n;obtain⟨u,G,J⟩:=C.get B;obtain⟨f0,f1,f2,f3,f4,f5⟩:=m f (by simp);refine wpAny_pyNext_tuple_item st (show s.heap.IsTuple a j.toArray from p) (x:=u) (by simpa using G) λh' l L=>?_;have N:Inv X pins σ H {s with heap:=h'}:=I.turned (t':=s.toks) (λb o g e=>(L.2 b g).trans e) f0 f1 f3 f4 f5;obtain⟨o,e,c,d⟩:=id l;exact⟨u,rfl,Bt (s:={s with heap:=h'}) e c d (by decide) ⟨x,H,N,J,⟨rfl,λys O=>by rw[I.j6 O n];exact B⟩,l,λb g=>(m b g).1⟩⟩
 done:=by intro X q r t hc i pins s σ H E I m st y;subst q r t;obtain⟨xs,n,B⟩:=y;obtain⟨j,C,p,hz⟩:=I.tuple n;obtain⟨f0,f1,f2,f3,f4,f5⟩:=m f (by simp);have U:=C.length;exact wpAny_pyNext_tuple_end (I.ok.hd hc) st (show s.heap.IsTuple a j.toArray from p) (by simp;omega) λh' Q=>⟨rfl,I.turned (t':=s.toks) (λb o g e=>Q b o g e) f0 f1 f3 f4 f5⟩
 self:=λ_ _ _ _ _ st h=>wpAny_pyIter_tupleiter st h
theorem yu{P:Program}(a:Addr)(lo:Int)(n:Nat):Turn P w K tg (T5 lo n) [a] a (λi h=>IsRangeIter h a (lo+(i:Nat)*1) ((n:Int)-(i:Nat)) 1)where
 mem:=by simp
 obj:=λi h st b c=>by
  have e:b=a:=by simpa using c
  subst e;exact⟨_,st,λv z=>by have r:Data.fields _=Data.cell v:=z;cases r⟩
 keep:=λi h h' st k=>k a (by simp) _ st;item:=by intro X j l m hc i pins s σ H E I g st p;subst j l m;obtain⟨f0,f1,f2,f3,f4,f5⟩:=g a (by simp);have W:=Walks.range (prog:=X.prog) (w:=X.w) (I.ok.hd hc) a lo 1 n;refine W.item i s _ _ p st λv h' q u f x=>?_;obtain⟨t,rfl⟩:=u;have y:Inv X pins σ H {s with heap:=h',toks:=q}:=I.turned (λb o c e=>x b o (by simpa using c) e) f0 f1 f3 f4 f5;refine⟨_,rfl,Bt (s:={s with heap:=h',toks:=q}) (n:="range_iterator") f rfl rfl (by decide) ⟨.int (lo+i),H,y,⟨t,?_⟩,⟨rfl,rfl⟩,f,λb c=>(g b c).1⟩⟩;rw[Int.mul_one]
 done:=by intro X j l m hc i pins s σ H E I g st p;subst j l m;obtain⟨f0,f1,f2,f3,f4,f5⟩:=g a (by simp);exact wpAny_pyNext_range_end (I.ok.hd hc) st (by have:n<=i:=p;omega) λh' B=>⟨rfl,I.turned (t':=s.toks) (λb o c e=>B b o c e) f0 f1 f3 f4 f5⟩
 self:=λ_ _ _ _ _ st h=>wpAny_pyIter_rangeiter st h
section
variable{X:Cx}{tg:Expr}
theorem vZ{σ:St}{R:It->Hp->Prop}{E:Value->Shared->Prop}{lo hi:Int}{t u v:Tok}{a:Nat}(I:Inv X pins σ H s)(h1:-(2^62)<=lo)(f:lo<2^62)(g:-(2^62)<=hi)(j:hi<2^62)(q:R (T5 lo (hi-lo).toNat) H):wpAny (model X.prog X.w) X.A (pyIter (.ref s.heap.objs.size)) (PIE X pins σ tg R) E {s with heap:=s.heap.push {cls:=.type "range",data:=.fields #[.int lo t,.int hi u,.int 1 v]},toks:=a}:=by
 refine wpAny_pyIter_range (IsRange.new ..) (small_one h1 f g j) ?_;have c:Inv X pins σ H {s with heap:=s.heap.push {cls:=.type "range",data:=.fields #[.int lo t,.int hi u,.int 1 v]},toks:=a}:=I.kept λb o e=>dR e;refine⟨(s.heap.push {cls:=.type "range",data:=.fields #[.int lo t,.int hi u,.int 1 v]}).objs.size,[(s.heap.push {cls:=.type "range",data:=.fields #[.int lo t,.int hi u,.int 1 v]}).objs.size],_,_,H,rfl,c.kept (t':=a) λb o e=>dR e,yu _ lo (hi-lo).toNat,?_,λb k=>?_,q⟩
 . have l:lo+((0:Nat):Int)*1=lo:=by simp
   have m:(((hi-lo).toNat:Nat):Int)-((0:Nat):Int)=Builtin.Range.rangeSize lo hi 1:=by rw[rangeSize_one];split<;>omega
   show IsRangeIter _ _ (lo+((0:Nat):Int)*1) ((((hi-lo).toNat:Nat):Int)-((0:Nat):Int)) 1;rw[l,m];exact get?_push_size _ rfl
 . have e:b=(s.heap.push {cls:=.type "range",data:=.fields #[.int lo t,.int hi u,.int 1 v]}).objs.size:=by simpa using k
   subst e;exact c.yG (dm) (c.hok.fresh (dm))
def WM(a:TA):TI:=λσ H R=>a σ H λvs b=>∃j:Int,vs=[.int j]/\-(2^62)<=j/\j<2^62/\R (T5 0 j.toNat) b
def Yb(a:TA):TI:=λσ H R=>a σ H λvs b=>∃i j:Int,vs=[.int i,.int j]/\(-(2^62)<=i/\i<2^62/\-(2^62)<=j/\j<2^62)/\R (T5 i (j-i).toNat) b
theorem tH{a:Expr}{c:TA}{p:Pos}(f:Gl X "range")(g:X.mg "range"=none)(k:PA X [a] c)(hs:starEach [a] X.env=[(false,eval a X.env)]:=by rfl):PI X tg (.Call (.Name "range" p) [a] [] pos) (WM c):=by intro pins s σ H R I h;refine Call_ (gW I f g boot_range (PyProof.Rows.callWith_type1 (cB (k pos pins s σ H _ I h) λus s1⟨vs,H1,I1,r1,b⟩=>?_) hs rfl));obtain⟨j,e,b,l,q⟩:=b;subst e;cases r1 with|cons r m=>cases m;obtain⟨t,rfl⟩:=r;exact call_range_1 (vZ I1 (by omega) (by omega) b l (by simpa using q))
theorem CV{a b:Expr}{k:TA}{p:Pos}(l:Gl X "range")(m:X.mg "range"=none)(n:PA X [a,b] k)(hs:starEach [a,b] X.env=[(false,eval a X.env),(false,eval b X.env)]:=by rfl)(c:starEach [b] X.env=[(false,eval b X.env)]:=by rfl):PI X tg (.Call (.Name "range" p) [a,b] [] pos) (Yb k):=by intro pins s σ H R I h;refine Call_ (gW I l m boot_range (PyProof.Rows.callWith_type1 (cB (n pos pins s σ H _ I h) λus s1⟨vs,H1,I1,r1,f⟩=>?_) (by rw[hs,c]) (by rw[c];rfl)));obtain⟨i,j,e,⟨f,o,u,v⟩,q⟩:=f;subst e;cases r1 with|cons r g=>cases g with|cons x g=>cases g;obtain⟨t,rfl⟩:=r;obtain⟨t',rfl⟩:=x;exact call_range_2 (vZ I1 f o u v q)
def abp(wi:TI)(g:TG)(f:TS):TS:=λD σ H=>wi σ H λJ j=>∃W:Nat->Nat->St->Hp->Prop,(∃m,W 0 m σ j)/\∀i m σ H,W i m σ H->(J.stop i H/\D.nx σ H)\/(J.go i H/\∃N:St->Hp->Prop,(∀a b,N a b->∃e,e<m/\W (i+1) e a b)/\∀x b,J.Jf i H x b->g x σ b λc k=>f {D with nx:=N,ct:=N,bk:=D.nx} c k)
noncomputable def qg(a:List Addr)(h:Heap):List (Addr×Obj):=a.filterMap λb=>(h.get? b).map λo=>(b,o)
theorem je{a:List Addr}{b:Addr}{o:Obj}(c:b∈a)(e:h.get? b=some o):(b,o)∈qg a h:=List.mem_filterMap.mpr ⟨b,c,by rw[e];rfl⟩
theorem DP{a:List Addr}{p:Addr×Obj}(c:p∈qg a h):p.1∈a/\h.get? p.1=some p.2:=by obtain⟨b,f,e⟩:=List.mem_filterMap.mp c;cases q:h.get? b with|none=>rw[q]at e;cases e|some o=>rw[q]at e;have g:(b,o)=p:=Option.some.inj e;subst g;exact⟨f,q⟩
theorem Inv.pinned{σ:St}{a:List Addr}(I:Inv X pins σ H s)(g:∀b∈a,m8 X pins H b)(ho:∀b∈a,∃o,s.heap.get? b=some o/\∀v,o.data≠.cell v):Inv X (pins++qg a s.heap) σ H s:=I.Ak λp j=>(mem_append.mp j).elim (λz=>I.pin p (mem_append_right _ z)) λz=>by obtain⟨c,e⟩:=DP z;obtain⟨f0,f1,f2,_⟩:=g p.1 c;obtain⟨o,f,d⟩:=ho p.1 c;rw[e]at f;cases f;exact⟨e,f0,f1,f2,d⟩
theorem Inv.mz{a:List (Addr×Obj)}{σ:St}(I:Inv X (pins++a) σ H s):Inv X pins σ H s:=I.Ak λp b=>I.pin p (mem_append_right _ (List.mem_append_left _ b))
theorem Fq{iter:Expr}{body:List Stmt}{wi:TI}{g:TG}{Z:TS}(z:PassesOwn (model X.prog X.w) X.A X.env X.xe)(hc:X.calm=true)(hi:PI X tg iter wi)(hg:PG X tg g)(c:wB X body Z)(hs:∀x,foldedSetIterable iter X.env x=pure x:=by intro _;rfl):PS X (.For tg iter body [] pos) (abp wi g Z):=by
 intro pins s σ H D I h;refine wpAny_For (cB (hi pins s σ H _ I h) λv s1 h1=>cB h1 λac s2 h2=>?_) hs;obtain⟨it,B,tn,J,H2,e,I2,T,Q,f2,W,⟨m0,w0⟩,C⟩:=h2;subst e--what stays true of the iterator's objects through the loop
 have j:∀{t:Hp},(∀b∈B,t b=none)->∀b∈B,m8 X pins t b:=λhn b c=>⟨hn b c,(f2 b c).2⟩;refine codeAny_forLoop_any (λn s'=>∃i k t,Inv X pins k t s'/\tn i s'.heap/\(∀b∈B,t b=none)/\W i n k t) ?_ m0 ⟨0,σ,H2,I2,Q,λb c=>(f2 b c).1,w0⟩;rintro n s3⟨i,l,O,I3,E,G,w3⟩;rcases C i n l O w3 with⟨stop,qn⟩|⟨go,N,hN,step⟩;.refine wpAny_passesOwn z (cB (T.done X rfl rfl rfl hc i pins s3 l O X.xe I3 (j G) E stop) λr s4⟨hr,I4⟩=>?_);subst hr;exact wpAny_execs_nil ⟨l,O,I4,qn⟩
 . refine wpAny_passesOwn z (cB (T.item X rfl rfl rfl hc i pins s3 l O X.xe I3 (j G) E go) λr s4⟨u,hr,h4⟩=>?_);subst hr;refine wpAny_passesOwn z (cB h4 λ_ s5⟨x,H5,I5,r5,y5,st5,fr5⟩=>?_);have U:=I5.pinned (j fr5) (T.obj _ _ st5);refine wpAny_passesOwn z (cB (hg _ s5 l H5 x u _ U r5 (step x H5 y5)) λ_ s6⟨Y,H6,I6,q6⟩=>?_);refine wpAny_passesOwn z (cB (c _ s6 Y H6 _ I6 q6) λf s7 y=>?_);have again:∀{a:St}{p:Hp},Inv X (pins++qg B s5.heap) a p s7->N a p->∃m,m<n/\∃i k t,Inv X pins k t s7/\tn i s7.heap/\(∀b∈B,t b=none)/\W i m k t:=λ{a p}q L=>by obtain⟨m',hm,w7⟩:=hN a p L;refine⟨m',hm,i+1,a,p,q.mz,T.keep _ _ _ st5 λb c o e=>(q.pin (b,o) (mem_append_right _ (mem_append_right _ (je c e)))).1,λb c=>?_,w7⟩;obtain⟨o,e,d⟩:=T.obj _ _ st5 b c;exact(q.pin (b,o) (mem_append_right _ (mem_append_right _ (je c e)))).2.1
   cases f with|next=>obtain⟨a,p,q,L⟩:=y;exact again q L|cont=>obtain⟨a,p,q,L⟩:=y;exact again q L|brk=>obtain⟨a,p,q,y⟩:=y;exact⟨a,p,q.mz,y⟩|ret v=>obtain⟨x7,a,p,q,r7,y⟩:=y;exact⟨x7,a,p,q.mz,r7,y⟩
end
abbrev R2:=V->V->Hp->VK->Prop
def fW(X:Cx)(f:Value->Value->Sem Value)(r:R2):Prop:=∀(pins:List (Addr × Obj))(s:Shared)(σ:St)(H:Hp)(x y:V)(v u:Value)(Q:VK),Inv X pins σ H s->RelV x v->RelV y u->r x y H Q->wpAny (model X.prog X.w) X.A (f v u) (EP X pins σ Q) X.xe s
def UnR(X:Cx)(f:Value->Sem Value)(r:V->Hp->VK->Prop):Prop:=∀(pins:List (Addr × Obj))(s:Shared)(σ:St)(H:Hp)(x:V)(v:Value)(Q:VK),Inv X pins σ H s->RelV x v->r x H Q->wpAny (model X.prog X.w) X.A (f v) (EP X pins σ Q) X.xe s
def dC(X:Cx)(f:Value)(r:List V->Hp->VK->Prop):Prop:=∀(pins:List (Addr × Obj))(s:Shared)(σ:St)(H:Hp)(xs:List V)(us:List Value)(Q:VK),Inv X pins σ H s->Vals xs us->r xs H Q->wpAny (model X.prog X.w) X.A (call f us) (EP X pins σ Q) X.xe s
def RJ(r:R2)(a b:TE):TE:=λσ H Q=>a σ H λx c=>b σ c λy e=>r x y e Q
def tUn(r:V->Hp->VK->Prop)(a:TE):TE:=λσ H Q=>a σ H λx b=>r x b Q
def rI(C:Int->Int->Prop)(g:Int->Int->V):R2:=λx y H Q=>∃i j,x=.int i/\y=.int j/\C i j/\Q (g i j) H
def Ju(g:Int->Int->V):R2:=λx y H Q=>∃i j,x=.int i/\y=.int j/\Q (g i j) H
def rU(g:Int->V):V->Hp->VK->Prop:=λx H Q=>∃i,x=.int i/\Q (g i) H
section
variable{X:Cx}{a b c:Expr}{ta tb tc:TE}{pos:Pos}
theorem Ph(l:PE X a ta)(m:PE X b tb){σ:St}{R:V->V->Hp->Prop}(I:Inv X pins σ H s)(h:ta σ H λx k=>tb σ k λy e=>R x y e){Q:Value->Shared->Prop}{f:Value->Value->Sem Value}(n:∀v u s2 x y e,Inv X pins σ e s2->RelV x v->RelV y u->R x y e->wpAny (model X.prog X.w) X.A (f v u) Q X.xe s2):wpAny (model X.prog X.w) X.A (eval a X.env) (λv g=>wpAny (model X.prog X.w) X.A (eval b X.env) (λu j=>wpAny (model X.prog X.w) X.A (f v u) Q X.xe j) X.xe g) X.xe s:=by refine cB (l pins s σ H _ I h) λv s1⟨x,k,I1,r1,q1⟩=>?_;refine cB (m pins s1 σ k _ I1 q1) λu s2⟨y,e,I2,r2,q2⟩=>?_;exact n v u s2 x y e I2 r1 r2 q2
theorem Xa{op:Operator}{r:R2}(ho:fW X (binaryOp op) r)(e:PE X a ta)(f:PE X b tb):PE X (.BinOp a op b pos) (RJ r ta tb):=by intro pins s σ H Q I h;exact wpAny_BinOp (Ph e f I h λv u s2 x y g j k l q=>ho pins s2 σ g x y v u Q j k l q)
theorem V5{op:UnaryOp}{r:V->Hp->VK->Prop}(ho:UnR X (unaryOp op) r)(e:PE X a ta):PE X (.UnaryOp op a pos) (tUn r ta):=by intro pins s σ H Q I h;exact UnaryOp_ (cB (e pins s σ H _ I h) λv s1⟨x,H1,I1,r1,q1⟩=>ho pins s1 σ H1 x v Q I1 r1 q1)
theorem opI{f:Value->Value->Sem Value}{C:Int->Int->Prop}{g:Int->Int->Int}(rule:∀(i j:Int)(t u:Tok)(s:Shared)(Q:Value->Shared->Prop)(E:Value->Shared->Prop),C i j->Q (.int (g i j) s.toks) {s with toks:=s.toks+1}->wpAny (model X.prog X.w) X.A (f (.int i t) (.int j u)) Q E s):fW X f (rI C λi j=>.int (g i j)):=by intro pins s σ H x y v u Q I e k h;obtain⟨i,j,rfl,rfl,hc,q⟩:=h;obtain⟨t,rfl⟩:=e;obtain⟨t',rfl⟩:=k;exact rule i j t t' s _ _ hc ⟨.int (g i j),H,I.tok _,⟨_,rfl⟩,q⟩
theorem Yo{f:Value->Value->Sem Value}{g:Int->Int->Int}(rule:∀(i j:Int)(t u:Tok)(s:Shared)(Q:Value->Shared->Prop)(E:Value->Shared->Prop),Q (.int (g i j) s.toks) {s with toks:=s.toks+1}->wpAny (model X.prog X.w) X.A (f (.int i t) (.int j u)) Q E s):fW X f (Ju λi j=>.int (g i j)):=by intro pins s σ H x y v u Q I e k h;obtain⟨i,j,rfl,rfl,q⟩:=h;obtain⟨t,rfl⟩:=e;obtain⟨t',rfl⟩:=k;exact rule i j t t' s _ _ ⟨.int (g i j),H,I.tok _,⟨_,rfl⟩,q⟩
theorem JH{f:Value->Value->Sem Value}{g:Int->Int->Bool}(rule:∀(i j:Int)(t u:Tok)(s:Shared)(Q:Value->Shared->Prop)(E:Value->Shared->Prop),Q (.bool (g i j)) s->wpAny (model X.prog X.w) X.A (f (.int i t) (.int j u)) Q E s):fW X f (Ju λi j=>.bl (g i j)):=by intro pins s σ H x y v u Q I e k h;obtain⟨i,j,rfl,rfl,q⟩:=h;obtain⟨t,rfl⟩:=e;obtain⟨t',rfl⟩:=k;exact rule i j t t' s _ _ ⟨.bl (g i j),H,I,rfl,q⟩
def abi(i j:Int):Prop:=0<=j/\j<=1000000/\i.natAbs<2^64
def Ru(i j:Int):Prop:=(-(2^64)<i/\i<2^64)\/(-(2^64)<j/\j<2^64)
theorem Ru.ok{i j:Int}(h:Ru i j):IntMulOk i j:=by
 rcases h with⟨h1,e⟩|⟨h1,e⟩;.exact .of_left (intBits_le_64 h1 e)
 .exact .of_right (intBits_le_64 h1 e)
theorem R5:fW X (binaryOp .Add) (Ju λi j=>.int (i+j)):=Yo λ_ _ _ _ _ _ _ q=>add_int q
theorem Tf:fW X (binaryOp .Sub) (Ju λi j=>.int (i-j)):=Yo λ_ _ _ _ _ _ _ q=>sub_int q
theorem Pz:fW X (binaryOp .Mult) (rI Ru λi j=>.int (i*j)):=opI λ_ _ _ _ _ _ _ hc q=>mul_int q hc.ok
theorem R8:fW X (binaryOp .Mod) (rI (λ_ j=>0<j) λi j=>.int (i%j)):=opI λi j _ _ _ _ _ hc q=>by have h1:(0:Int)<j:=hc;exact mod_int' (by omega) (by rw[Int.fmod_eq_emod_of_nonneg i (by omega)];exact q)
theorem RX:fW X (binaryOp .Pow) (rI abi λi j=>.int (i^j.toNat)):=opI λ_ _ _ _ _ _ _ hc q=>pow_int_small hc.1 hc.2.1 hc.2.2 q
theorem unI{f:Value->Sem Value}{g:Int->Int}(rule:∀(i:Int)(t:Tok)(s:Shared)(Q:Value->Shared->Prop)(E:Value->Shared->Prop),Q (.int (g i) s.toks) {s with toks:=s.toks+1}->wpAny (model X.prog X.w) X.A (f (.int i t)) Q E s):UnR X f (rU λi=>.int (g i)):=by intro pins s σ H x v Q I e h;obtain⟨i,rfl,q⟩:=h;obtain⟨t,rfl⟩:=e;exact rule i t s _ _ ⟨.int (g i),H,I.tok _,⟨_,rfl⟩,q⟩
theorem Rx:UnR X (unaryOp .USub) (rU λi=>.int (-i)):=unI λ_ _ _ _ _ q=>neg_int q
end
section
variable{X:Cx}{a b c:Expr}{ta tb tc:TE}{pos:Pos}
theorem Rm{σ:St}{Q:VK}{k f:Bool}(I:Inv X pins σ H s)(q:Q (.bl k) H)(e:k=f):EP X pins σ Q (.bool f) s:=by subst e;exact⟨.bl k,H,I,rfl,q⟩
theorem Wj:fW X (compareOp .Lt) (Ju λi j=>.bl (decide (i<j))):=JH λ_ _ _ _ _ _ _ q=>lt_int q
theorem Xn:fW X (compareOp .LtE) (Ju λi j=>.bl (decide (i<=j))):=JH λ_ _ _ _ _ _ _ q=>le_int q
theorem WD:fW X (compareOp .Gt) (Ju λi j=>.bl (decide (j<i))):=JH λ_ _ _ _ _ _ _ q=>gt_int q
theorem Wm:fW X (compareOp .GtE) (Ju λi j=>.bl (decide (j<=i))):=JH λ_ _ _ _ _ _ _ q=>ge_int q
theorem KC:fW X (compareOp .IsNot) (λx y H Q=>y=.non/\Q (.bl (!decide (x=.non))) H):=by intro pins s σ H x y v u Q I e f h;obtain⟨rfl,q⟩:=h;cases f;refine isnot_none_gen (Rm I q ?_);cases x<;>first|(cases e;rfl)|(obtain⟨t,rfl⟩:=e;rfl)
theorem abV{op:CmpOp}{es:List Expr}{k:Nat}{p:Pos}(e:(op==CmpOp.In)=false)(f:(op==CmpOp.NotIn)=false):behindInMarks op (.Set es k p)=false:=by show(k==0&&(op==CmpOp.In||op==CmpOp.NotIn)&&_)=false;rw[e,f];cases(k==0)<;>rfl
theorem aZ(b:Expr)(h:op≠.In:=by decide)(e:op≠.NotIn:=by decide):behindInMarks op b=false:=by
 have f:(op==CmpOp.In)=false:=by cases op<;>first|rfl|exact absurd rfl h
 have g:(op==CmpOp.NotIn)=false:=by cases op<;>first|rfl|exact absurd rfl e
 cases b<;>first|rfl|exact abV f g
theorem Lq{r:R2}(ho:fW X (compareOp op) r)(e:PE X a ta)(f:PE X b tb)(g:behindInMarks op b=false):PE X (.Compare a [op] [b] pos) (RJ r ta tb):=by intro pins s σ H Q I h;exact wpAny_Compare1 (Ph e f I h λv u s2 x y j k l m q=>ho pins s2 σ j x y v u Q k l m q) g
def Wz(t:TE):TT:=λσ H Q=>t σ H λx e=>∃k,x=.bl k/\Q k e
theorem Ab{r:R2}(ho:fW X (compareOp op) r)(f:PE X a ta)(g:PE X b tb)(j:behindInMarks op b=false):PT X (.Compare a [op] [b] pos) (Wz (RJ r ta tb)):=by intro pins s σ H Q I h;refine wpAny_isTrue_Compare1 (cB (f pins s σ H _ I h) λv s1⟨x,H1,I1,r1,q1⟩=>cB (g pins s1 σ H1 _ I1 q1) λu s2⟨y,H2,I2,r2,q2⟩=>cB (ho pins s2 σ H2 x y v u _ I2 r1 r2 q2) λc s3⟨z,H3,I3,r3,k,e,q3⟩=>?_) j;subst e;cases r3;exact wpAny_truthy_bool ⟨H3,I3,q3⟩
def O6(r f:R2)(ta tb tc:TE):TE:=λσ H Q=>ta σ H λx g=>tb σ g λy j=>r x y j λz e=>∃k,z=.bl k/\(if k=true then tc σ e λl m=>f y l m Q else Q (.bl false) e)
theorem GR{f:CmpOp}{r j:R2}(ho:fW X (compareOp op) r)(g:fW X (compareOp f) j)(l:PE X a ta)(m:PE X b tb)(hc:PE X c tc)(n:lastMarks [op,f] [b,c]=false:=by with_unfolding_all rfl):PE X (.Compare a [op,f] [b,c] pos) (O6 r j ta tb tc):=by intro pins s σ H Q I h;refine Compare_chain (cB (l pins s σ H _ I h) λv s1⟨x,H1,I1,r1,q1⟩=>chain_link (cB (m pins s1 σ H1 _ I1 q1) λu s2⟨y,H2,I2,r2,q2⟩=>cB (ho pins s2 σ H2 x y v u _ I2 r1 r2 q2) λd s3⟨z,H3,I3,r3,k,e,q3⟩=>?_)) n;subst e;cases r3;refine wpAny_truthy_bool ?_;cases k with|false=>exact ite_ff ⟨.bl false,H3,I3,rfl,q3⟩|true=>exact ite_tt (chain_last (cB (hc pins s3 σ H3 _ I3 q3) λo s4⟨p,H4,I4,r4,q4⟩=>g pins s4 σ H4 y p u o Q I4 r2 r4 q4))
theorem qw:(sizeLine:Nat)<2^63:=by rw[sizeLine_eq];decide
theorem xU:fW X (binaryOp .Add) (λx y H Q=>∃i j,x=.str i/\y=.str j/\i.length+j.length<=sizeLine/\Q (.str (i++j)) H):=by intro pins s σ H x y v u Q I e f h;obtain⟨i,j,rfl,rfl,hz,q⟩:=h;obtain⟨t,rfl⟩:=e;obtain⟨t',rfl⟩:=f;exact add_str (λt' g=>⟨.str (i++j),H,I.tok _,⟨_,rfl⟩,q⟩) hz
theorem vals1{x:V}(r:Vals [x] us):∃u,us=[u]/\RelV x u:=by cases r with|cons r1 e=>cases e;exact⟨_,rfl,r1⟩
theorem vals2{x y:V}(r:Vals [x,y] us):∃u e,us=[u,e]/\RelV x u/\RelV y e:=by cases r with|cons r1 f=>cases f with|cons g j=>cases j;exact⟨_,_,rfl,r1,g⟩
theorem Cu(hc:X.calm=true):dC X (.builtin "max") (λxs H Q=>∃i j,xs=[.int i,.int j]/\Q (.int (if j>i then j else i)) H):=by
 intro pins s σ H xs us Q I r h;obtain⟨i,j,rfl,q⟩:=h;obtain⟨u,f,rfl,⟨t,rfl⟩,⟨t',rfl⟩⟩:=vals2 r;refine max_two_ints (I.ok.hd hc) λh' g k=>⟨_,H,I.kept k,?_,q⟩;by_cases e:j>i;.rw[if_pos e,if_pos e];exact⟨_,rfl⟩
 .rw[if_neg e,if_neg e];exact⟨_,rfl⟩
theorem CZ(hc:X.calm=true):dC X (.builtin "min") (λxs H Q=>∃i j,xs=[.int i,.int j]/\Q (.int (if j<i then j else i)) H):=by
 intro pins s σ H xs us Q I r h;obtain⟨i,j,rfl,q⟩:=h;obtain⟨u,f,rfl,⟨t,rfl⟩,⟨t',rfl⟩⟩:=vals2 r;refine min_two_ints (I.ok.hd hc) λh' g k=>⟨_,H,I.kept k,?_,q⟩;by_cases e:j<i;.rw[if_pos e,if_pos e];exact⟨_,rfl⟩
 .rw[if_neg e,if_neg e];exact⟨_,rfl⟩
theorem tR:dC X (.type "int") (λxs H Q=>(∃i,xs=[.int i]/\Q (.int i) H)\/∃k,xs=[.bl k]/\Q (.int (if k then 1 else 0)) H):=by
 intro pins s σ H xs us Q I r h;rcases h with⟨i,rfl,q⟩|⟨k,rfl,q⟩;.obtain⟨u,rfl,t,rfl⟩:=vals1 r;exact call_int_int ⟨.int i,H,I,⟨_,rfl⟩,q⟩
 .obtain⟨u,rfl,r1⟩:=vals1 r;cases r1;exact call_int_bool ⟨.int (if k then 1 else 0),H,I.tok _,⟨_,rfl⟩,q⟩
end
theorem rG.some_of{v:V}{o:Option Value}(r:rG (some v) o):∃u,o=some u/\RelV v u:=by cases o with|none=>exact(show False from r).elim|some u=>exact⟨u,rfl,r⟩
structure jP(k:Nat)(A:Around):Prop where
 hd:A.handled=none
 dp:A.depth+3*k+5<recursionLimit
 un:A.units+16*k+200<cLine
theorem jP.deeper{k:Nat}{A:Around}(r:jP (k+1) A)(env:Env):jP k (A.deeper env):=⟨r.hd,by have:=r.dp;show A.depth+1+3*k+5<_;omega,by have:=r.un;show A.units+3+16*k+200<_;omega⟩
theorem jP.depth{k:Nat}{A:Around}(r:jP k A):A.depth<recursionLimit:=by have:=r.dp;omega
def ab2:TA:=λ_ H Q=>Q [] H
def V1(a:TE)(b:TA):TA:=λσ H Q=>a σ H λx c=>b σ c λxs e=>Q (x::xs) e
section
variable{X:Cx}{e:Expr}{es:List Expr}{te:TE}{t:TA}{pos:Pos}
theorem eU:PA X [] ab2:=λ_ _ _ _ H Q I h=>Calls.spliced_nil ⟨[],H,I,.nil,h⟩
theorem bW(a:PE X e te)(hr:PA X es t)(hs:starEach (e::es) X.env=(false,eval e X.env)::starEach es X.env:=by rfl):PA X (e::es) (V1 te t):=by intro pos pins s σ H Q I h;rw[hs];show wpAny _ _ (spliced ((false,eval e X.env)::backTo pos (starEach es X.env))) _ _ s;refine Calls.spliced_cons (cB (a pins s σ H _ I h) λu s1⟨x,H1,I1,r1,q1⟩=>?_);exact cB (hr pos pins s1 σ H1 _ I1 q1) λus s2⟨xs,H2,I2,r2,q2⟩=>⟨x::xs,H2,I2,.cons r1 r2,q2⟩
def abX(t:TA):TE:=λσ H Q=>t σ H λxs a=>xs.length<=sizeLine/\∀p,a p=none->Q (.ref p) (upd a p (.tup xs))
def abn(t:TA):TE:=λσ H Q=>t σ H λxs a=>xs.length<=sizeLine/\∀p,a p=none->Q (.ref p) (upd a p (.lst xs))
theorem R4{x1}(h:PA X es t):PE X (.Tuple es x1 pos) (abX t):=by intro pins s σ H Q I a;refine wpAny_Tuple_spliced (cB (h pos pins s σ H _ I a) λus s1⟨xs,H1,I1,r,z,q⟩=>⟨by rw[<-r.length];exact z,?_⟩);have c:H1 s1.heap.objs.size=none:=I1.hok.fresh (dm);refine⟨.ref s1.heap.objs.size,upd H1 s1.heap.objs.size (.tup xs),I1.laid (t':=s1.toks) (λb u e=>dR e) (dm) ?_,rfl,q _ c⟩;exact⟨z,us,r,⟨_,get?_push_size _ rfl,rfl,_,rfl⟩⟩
theorem Qk(h:PA X es t):PE X (.List es pos) (abn t):=by intro pins s σ H Q I a;refine wpAny_List_spliced (cB (h pos pins s σ H _ I a) λus s1⟨xs,H1,I1,r,z,q⟩=>⟨by rw[<-r.length];exact z,?_⟩);have c:H1 s1.heap.objs.size=none:=I1.hok.fresh (dm);refine⟨.ref s1.heap.objs.size,upd H1 s1.heap.objs.size (.lst xs),I1.laid (t':=s1.toks) (λb u e=>dR e) (dm) ?_,rfl,q _ c⟩;exact⟨z,us,0,r,get?_push_size _ rfl⟩
end
abbrev Sp:=List V->Hp->VK->XK->Prop
abbrev Ft:=List Env->Hp->Shared->XK->Value->Shared->Prop
structure KD(P:Program)(w:World)(K:PySem.W.Frag)(mg:Str->Option Value)(base:Heap)(A:Around)(outer:List Env)(s:Shared)(H:Hp):Prop where
 frames:A.frames=some outer
 mod:Mod K mg base
 bs:∀b o,base.get? b=some o->s.heap.get? b=some o/\H b=none
 Ol:base.objs.size<=s.heap.objs.size
 pU:s.heap.FunFrames base outer
 Vr:∀b∈frs outer,H b=none
 hok:mW P w H s.heap
 bare:AllBare s.gens
def CE(outer:List Env)(P:Program)(w:World)(H:Hp)(s:Shared)(Q:VK)(u:Value)(a:Shared):Prop:=∃v b,a.os=s.os/\AllBare a.gens/\Un (frs outer) [] H b s.heap a.heap/\mW P w b a.heap/\RelV v u/\Q v b
def CR(CX:Ft)(outer:List Env)(P:Program)(w:World)(H:Hp)(s:Shared)(Q:VK)(E:XK)(r:Result)(a:Shared):Prop:=match r with|.ok (.ret u)=>CE outer P w H s Q u a|.ok _=>False|.error e=>CX outer H s E e a
structure m9(P:Program)(w:World)(K:PySem.W.Frag)(mg:Str->Option Value)(base:Heap)(CX:Ft)(k:Nat)(f:Addr)(fd:FuncData)(ps:List Str)(sp:Sp):Prop where
 len:∀vs H Q E,sp vs H Q E->vs.length=ps.length
 run:∀(A:Around)(outer:List Env)(s:Shared)(H:Hp)(args:Args)(us:List Value)(vs:List V)(Q:VK)(E:XK),jP k A->KD P w K mg base A outer s H->BindsTo s fd args (ps.zip us)->Vals vs us->sp vs H Q E->codeAny (model P w) A (.call (.ref f) args) (CR CX outer P w H s Q E) s
section
variable{X:Cx}{pins:List (Addr×Obj)}{σ:St}{H:Hp}{s s':Shared}
theorem Inv.env0(I:Inv X pins σ H s):KD X.prog X.w X.K X.mg X.base X.A X.stack s H:=⟨I.ok.frames,I.ok.mod,I.bs,le_trans I.ok.Ol I.sz,I.stack,I.Bp,I.hok,I.bare⟩
theorem Inv.after{Q:VK}{u:Value}(I:Inv X pins σ H s)(h:CE X.stack X.prog X.w H s Q u s'):EP X pins σ Q u s':=by obtain⟨v,c,os,bare,un,hok,r,q⟩:=h;obtain⟨e,g,d,t,a⟩:=s';obtain rfl:a=s.os:=os;exact⟨v,c,I.call (h':=e) (g':=g) (d':=d) (t':=t) (ch:=[]) un hok bare (λb z=>absurd z (by simp)),r,q⟩
end
def XS(sp:Sp)(a:List V)(E:XK)(t:TA):TE:=λσ H Q=>t σ H λvs b=>sp (vs++a) b Q E
def Binds(K:PySem.W.Frag)(fd:FuncData)(ps:List Str)(ds:List Value):Prop:=∀(s:Shared)(us:List Value),K.In s.heap->(us++ds).length=ps.length->BindsTo s fd ⟨us,[]⟩ (ps.zip (us++ds))
theorem Binds.all{fd:FuncData}{ps:List Str}(h:∀us:List Value,us.length=ps.length->bindArgs fd ⟨us,[]⟩=pure (ps.zip us)):Binds K fd ps []:=λs us _ a=>by rw[append_nil]at a ⊢;exact .of_eq (h us a)
def Passes(CX:Ft)(X:Cx)(E:XK):Prop:=∀(pins:List (Addr×Obj))(σ:St)(H:Hp)(s:Shared)(e:Value)(a:Shared),Inv X pins σ H s->CX X.stack H s E e a->X.xe e a
section
variable{X:Cx}{CX:Ft}{k:Nat}{f C:Addr}{fd:FuncData}{ps:List Str}{sp:Sp}{Oo:List V}{ds:List Value}{E:XK}{x m:Str}{p pos apos:Pos}{e o:Expr}{es:List Expr}{ta:TE}{t:TA}
theorem Rg{σ:St}{Q:VK}{vs:List V}(F:m9 X.prog X.w X.K X.mg X.base CX k f fd ps sp)(hr:jP k X.A)(c:Binds X.K fd ps ds)(hd:Vals Oo ds)(g:Passes CX X E)(I:Inv X pins σ H s)(r:Vals vs us)(h:sp (vs++Oo) H Q E):wpAny (model X.prog X.w) X.A (call (.ref f) us) (EP X pins σ Q) X.xe s:=by
 have b:Vals (vs++Oo) (us++ds):=r.append hd;have j:(us++ds).length=ps.length:=by rw[<-b.length];exact F.len _ _ _ _ h
 refine wpAny_call (codeAny_mono (F.run X.A X.stack s H ⟨us,[]⟩ (us++ds) (vs++Oo) Q E hr I.env0 (c s us I.Ql j) b h) λr l a=>?_);cases r with|error e=>exact g pins σ H s e l I a|ok fl=>cases fl with|ret u=>exact I.after a|next=>exact False.elim a|brk=>exact False.elim a|cont=>exact False.elim a
theorem KH(F:m9 X.prog X.w X.K X.mg X.base CX k f fd ps sp)(hr:jP k X.A)(b:Gl X x)(c:X.mg x=some (.ref f))(g:keepIn X.K (.ref f)=true)(j:Binds X.K fd ps ds)(hd:Vals Oo ds)(l:Passes CX X E)(n:PA X (e::es) t)(a:(x==("__debug__":Str))=false:=by decide)(he:starEach (e::es) X.env=(false,eval e X.env)::starEach es X.env:=by rfl)(hpl:(backTo pos (starEach es X.env)).any (·.1)=false:=by rfl):PE X (.Call (.Name x p) (e::es) [] pos) (XS sp Oo E t):=by intro pins s σ H Q I h;refine wpAny_Call_Name_kw (Lw I b c ?_ a);refine PySem.W.callWith_K (h₀:=X.base) I.ok.mod.oM g (cB (n pos pins s σ H _ I h) λus s1⟨vs,H1,I1,r,q⟩=>⟨I1.Ql,?_⟩) he hpl;exact Rg F hr j hd l I1 r q
end
structure aL(N P:List Str)(sc:Scope):Prop where
 kind:sc.kind=.function
 co:sc.isCoroutine=false
 gen:sc.isGenerator=false
 nd:N.Nodup
 pre:N.take P.length=P
 par:∀x∈P,sc.names.lookup x=some .local\/sc.names.lookup x=some .cell
 Tr:∀y∈sc.names,y.2≠.free
theorem sH{kindOf:Str->Option NameKind}{x:Str}:∀{binds:List (Str×Value)}{m:Str->Option Value},(∀v,(x,v)∉binds)->bindL kindOf binds m x=m x
 |[],_,_=>rfl|(n,v)::r,m,h=>by
   unfold bindL;rw[sH λw a=>h w (mem_cons_of_mem _ a)];split
   . have:x≠n:=by rintro rfl;exact h v mem_cons_self
     simp[this]
   .rfl
theorem tX{kindOf:Str->Option NameKind}{x:Str}:∀{binds:List (Str×Value)}{m:Str->Option Value},(∀v,(x,v)∉binds)->bindC kindOf binds m x=m x
 |[],_,_=>rfl|(n,v)::r,m,h=>by
   unfold bindC;rw[tX λw a=>h w (mem_cons_of_mem _ a)];split;.rfl
   . have:x≠n:=by rintro rfl;exact h v mem_cons_self
     simp[this]
theorem sI{kindOf:Str->Option NameKind}{x:Str}{v:Value}:∀{P:List Str}{vs:List Value}{i:Nat}{m:Str->Option Value},P.Nodup->P[i]?=some x->vs[i]?=some v->kindOf x=some .local->bindL kindOf (P.zip vs) m x=some v|[],_,_,_,_,h,_,_=>by simp at h|_::_,[],_,_,_,_,h,_=>by simp at h|p::P,w::vs,0,m,nd,h1,a,b=>by simp at h1 a;subst h1;subst a;show bindL kindOf ((p,w)::P.zip vs) m p=_;unfold bindL;rw[sH λv c=>(nodup_cons.mp nd).1 (of_mem_zip c).1,if_pos b];simp|p::P,w::vs,i+1,m,nd,h1,a,b=>by show bindL kindOf ((p,w)::P.zip vs) m x=_;unfold bindL;exact sI (i:=i) (nodup_cons.mp nd).2 (by simpa using h1) (by simpa using a) b
theorem tK{kindOf:Str->Option NameKind}{x:Str}{v:Value}:∀{P:List Str}{vs:List Value}{i:Nat}{m:Str->Option Value},P.Nodup->P[i]?=some x->vs[i]?=some v->kindOf x≠some .local->bindC kindOf (P.zip vs) m x=some v|[],_,_,_,_,h,_,_=>by simp at h|_::_,[],_,_,_,_,h,_=>by simp at h|p::P,w::vs,0,m,nd,h1,a,b=>by simp at h1 a;subst h1;subst a;show bindC kindOf ((p,w)::P.zip vs) m p=_;unfold bindC;rw[tX λv c=>(nodup_cons.mp nd).1 (of_mem_zip c).1,if_neg b];simp|p::P,w::vs,i+1,m,nd,h1,a,b=>by show bindC kindOf ((p,w)::P.zip vs) m x=_;unfold bindC;exact tK (i:=i) (nodup_cons.mp nd).2 (by simpa using h1) (by simpa using a) b
noncomputable def start(N:List Str)(vs:List V):St:=vs.map some++replicate (N.length-vs.length) none
noncomputable def yQ(CX:Ft)(P:Program)(w:World)(K:PySem.W.Frag)(mg:Str->Option Value)(base:Heap)(N:List Str)(qual:Str)(scope:Scope)(f:Addr)(b:Value)(A:Around)(outer:List Env)(s:Shared)(H:Hp)(E:XK):Cx where prog:=P;w:=w;K:=K;mg:=mg;base:=base;A:=A.deeper (envOfC qual scope s.heap.objs.size f b);N:=N;s₀:=s;H₀:=H;env:=envOfC qual scope s.heap.objs.size f b;outer:=outer;stack:=envOfC qual scope s.heap.objs.size f b::outer;ex:=[];calm:=true;fn:=λ_=>true;pn:=[];xe:=λe c=>wpAny (model P w) (A.deeper (envOfC qual scope s.heap.objs.size f b)) (leaving (envOfC qual scope s.heap.objs.size f b) e) (λ_ a=>CX outer H s E e a) (λg a=>CX outer H s E g a) c
theorem wQ{a:Scope}{n:Nat}{x:Str}(h:a.names.lookup x=some .cell):∃c,(cellsFrom n a.names []).lookup x=some c:=by have q:=PySem.W.cellsFrom_some a.names n [] (.inl h);exact Option.isSome_iff_exists.mp q
theorem DW{CX:Ft}{P:Program}{mg:Str->Option Value}{base:Heap}{N ps:List Str}{qual:Str}{scope:Scope}{f:Addr}{o:Value}{outer:List Env}{s1:Shared}{E:XK}{vs:List V}(S:aL N ps scope)(hd:A.handled=none)(j:KD P w K mg base A outer s H)(J:vs.length=ps.length)(r:Vals vs us)(x:InCallC s s.heap.objs.size (bindL (envOfC qual scope s.heap.objs.size f o).kindOf (ps.zip us) λ_=>none) (cellsFrom (s.heap.objs.size+1) scope.names []) (bindC (envOfC qual scope s.heap.objs.size f o).kindOf (ps.zip us) λ_=>none) s1):Inv (yQ CX P w K mg base N qual scope f o A outer s H E) [] (start N vs) H s1:=by
 have hpl:ps.length<=N.length:=by have:=congrArg List.length S.pre;rw[length_take]at this;omega
 obtain⟨h1,L,rfl,B⟩:=x.done;have t:∀b:Addr,b∉(yQ CX P w K mg base N qual scope f o A outer s H E).ex:=λb z=>absurd (show b∈([]:List Addr)from z) (by simp);refine⟨⟨j.mod,S.kind,rfl,rfl,dm,λy z c h1 g=>?_,λy hy=>?_,λy c _ h=>?_,λ_=>hd,Around.frames_deeper j.frames,.inr ⟨rfl,rfl⟩,λb z=>absurd z (t b),j.bs,j.Ol,λb _ _=>t b,λb z=>absurd z (t b),j.pU,j.Vr⟩,rfl,j.bare,Un.kept B,⟨_,x.toInCall.ns,λi y v h1 g O=>?_⟩,λy c h=>⟨_,x.cell y c h⟩,j.hok.fresh (dm),λy c h=>?_,λp l=>absurd (show p∈([]:List (Addr×Obj))from l) (by simp),j.hok.kept B,?_⟩;.exact name_of_addr x.apart (PySem.mem_of_lookup h1) (PySem.mem_of_lookup g)
 . have hy:scope.names.lookup y=some .cell\/scope.names.lookup y=some .free:=hy;rcases hy with hy|hy;.exact wQ hy
   .exact absurd rfl (S.Tr _ (PySem.mem_of_lookup hy))
 .exact le_of_lt (x.above y c (PySem.mem_of_lookup h))
 . have hi:i<vs.length:=by
    unfold start at g;by_cases hi:i<vs.length;.exact hi
    .rw[getElem?_append_right (by simpa using hi)]at g;rw[getElem?_replicate]at g;split at g<;>cases g
   have G:vs[i]?=some v:=by unfold start at g;rw[getElem?_append_left (by simpa using hi),getElem?_map]at g;cases e:vs[i]?with|none=>rw[e]at g;cases g|some a=>rw[e]at g;cases g;rfl
   obtain⟨u,C,I⟩:=r.get G;have l:ps[i]?=some y:=by rw[<-S.pre,List.getElem?_take_of_lt (by omega)];exact h1
   have m:ps.Nodup:=by rw[<-S.pre];exact S.nd.sublist (List.take_sublist _ _)
   refine⟨u,I,?_⟩;rcases S.par y (mem_of_getElem? l)with k|k;.exact .inl ⟨k,sI m l C k⟩
   .obtain⟨c,e⟩:=wQ (n:=s.heap.objs.size+1) k;refine .inr ⟨.inl k,c,e,?_⟩;have q:=x.cell y c e;rw[tK m l C (by show scope.names.lookup y≠_;rw[k];decide)]at q;exact q
 .exact j.hok.fresh (le_of_lt (x.above y c (PySem.mem_of_lookup h)))
 .unfold start;show _=N.length;rw[length_append,length_map,List.length_replicate];omega
theorem Wv{CX:Ft}{P:Program}{w:World}{K:PySem.W.Frag}{mg:Str->Option Value}{base:Heap}{k:Nat}{f:Addr}{name qual:Str}{a:Arguments}{body:List Stmt}{scope:Scope}{L kV m O cdv ct oc:Value}{U Z:Option Addr}{z:Array (Option Value)}{N ps:List Str}{sp:Sp}(lk:K.lookup f=some ⟨oc,Z,.func (PySem.W.fnOf name qual a body scope L kV m O U cdv ct),z⟩)(B:PySem.W.codeIn K cdv qual=true)(S:aL N ps scope)(len:∀vs H Q E,sp vs H Q E->vs.length=ps.length)(j:∀(A:Around)(outer:List Env)(s:Shared)(H:Hp)(vs:List V)(Q:VK)(E:XK),jP k (A.deeper (envOfC qual scope s.heap.objs.size f cdv))->sp vs H Q E->∃t,wB (yQ CX P w K mg base N qual scope f cdv A outer s H E) body t/\t {nx:=λ_ g=>Q .non g,rt:=Q} (start N vs) H):m9 P w K mg base CX (k+1) f (PySem.W.fnOf name qual a body scope L kV m O U cdv ct) ps sp:=by
 refine⟨len,λA outer s H args us vs Q E hr p hb r hsp=>?_⟩;have hl:=len _ _ _ _ hsp;have Y:K.In s.heap:=p.mod.oM.keeps λb o e=>(p.bs b o e).1;have lim:s.heap.NoLimit:=p.mod.nolimit.keeps λb o e=>(p.bs b o e).1;have l:∀y∈ps.zip us,scope.names.lookup y.1=some .local\/(scope.names.lookup y.1=some .cell/\((cellsFrom (s.heap.objs.size+1) scope.names []).lookup y.1).isSome=true):=λ⟨n,v⟩hy=>by
  rcases S.par n (of_mem_zip hy).1 with q|q;.exact .inl q
  .exact .inr ⟨q,PySem.W.cellsFrom_some _ _ _ (.inl q)⟩
 refine codeAny_call_function hr.depth (Y _ _ lk) rfl S.co S.gen rfl (PySem.W.codeRec_of Y B) (hb _ _ _ _ ?_);refine wpAny_newFunctionEnv_cells S.kind l λenv he s1 x=>?_;subst he;refine⟨lim.keeps x.toInCall.keep,codeAny_func ?_⟩;obtain⟨t,ht,hq⟩:=j A outer s H vs Q E (hr.deeper _) hsp;have I:Inv (yQ CX P w K mg base N qual scope f cdv A outer s H E) [] (start N vs) H s1:=DW S hr.hd p hl r x;refine wpAny_mono (ht [] s1 (start N vs) H _ I hq) (λfl C hs=>?_) λe C hs=>hs;have fin:∀{c:St}{g:Hp}{v:V}{u:Value},Inv (yQ CX P w K mg base N qual scope f cdv A outer s H E) [] c g C->RelV v u->Q v g->CE outer P w H s Q u C:=λ{c g v u}J G q=>⟨v,g,J.os,J.bare,J.base,J.hok,G,q⟩;cases fl with|ret u=>obtain⟨v,c,g,J,G,q⟩:=hs;exact fin J G q|next=>obtain⟨c,g,J,q⟩:=hs;exact fin (v:=V.non) (u:=Value.none) J rfl q|brk=>obtain⟨_,_,_,q⟩:=hs;exact False.elim q|cont=>obtain⟨_,_,_,q⟩:=hs;exact False.elim q
section
variable{X:Cx}{x:Str}{p pos:Pos}{e:Expr}{es:List Expr}{t:TA}{id T:String}{r:List V->Hp->VK->Prop}
def We(r:List V->Hp->VK->Prop)(t:TA):TE:=λσ H Q=>t σ H λvs a=>r vs a Q
theorem fK(hc:dC X (.builtin id) r)(b:Gl X x)(c:X.mg x=none)(f:bootBuiltins x=some (.builtin id))(g:PA X (e::es) t)(j:x≠"__name__":=by decide)(a:(x==("__debug__":Str))=false:=by decide)(he:starEach (e::es) X.env=(false,eval e X.env)::starEach es X.env:=by rfl)(hpl:(backTo pos (starEach es X.env)).any (·.1)=false:=by rfl):PE X (.Call (.Name x p) (e::es) [] pos) (We r t):=by intro pins s σ H Q I h;refine wpAny_Call_Name_kw (gW I b c f ?_ j a);exact PyProof.Rows.callWith_builtin1 (cB (g pos pins s σ H _ I h) λus s1⟨vs,H1,I1,r1,q1⟩=>hc pins s1 σ H1 vs us Q I1 r1 q1) he hpl
theorem jV(hc:dC X (.type T) r)(b:Gl X x)(c:X.mg x=none)(f:bootBuiltins x=some (.type T))(g:PA X (e::es) t)(j:x≠"__name__":=by decide)(a:(x==("__debug__":Str))=false:=by decide)(he:starEach (e::es) X.env=(false,eval e X.env)::starEach es X.env:=by rfl)(hpl:(backTo pos (starEach es X.env)).any (·.1)=false:=by rfl):PE X (.Call (.Name x p) (e::es) [] pos) (We r t):=by intro pins s σ H Q I h;refine wpAny_Call_Name_kw (gW I b c f ?_ j a);exact PyProof.Rows.callWith_type1 (cB (g pos pins s σ H _ I h) λus s1⟨vs,H1,I1,r1,q1⟩=>hc pins s1 σ H1 vs us Q I1 r1 q1) he hpl
end
end L2
namespace HT
open PySem PyProof.Rows
section
variable{prog:Program}{w:World}{A:Around}{E:Value->Shared->Prop}{s:Shared}
theorem Ku{t b:Addr}{vs ws:List Value}{Q:Value->Shared->Prop}(ht:IsTup s.heap t vs.toArray)(o:IsTup s.heap b ws.toArray)(j:vs≠[])(h1:ws=[]->Q (.ref t) s)(p:ws≠[]->Q (.ref s.heap.objs.size) {s with heap:=s.heap.push {cls:=.type "tuple",data:=.seq (vs++ws).toArray}})(hsz:vs.length+ws.length<=sizeLine):wpAny (model prog w) A (binaryOp .Add (.ref t) (.ref b)) Q E s:=by
 obtain⟨⟨cls,k,data,sl⟩,ho,hc,n,hd⟩:=id ht;obtain⟨⟨l,c,data2,f⟩,a,g,m,h⟩:=id o;simp only at hc hd g h;subst hc hd g h;have e:vs.toArray++ws.toArray=(vs++ws).toArray:=by simp
 by_cases i:ws=[];.exact concat_meets ⟨_,ho,rfl⟩ ⟨_,a,rfl⟩ noFill_tuple_add seq_tuple_add slot_tuple_add entry_tuple_add (args_tuple_add_2 _ _) (tuple_addW1 t b vs.toArray ws.toArray n m k c sl f (by simpa using j) (by simp[i])) ⟨ho,a,h1 i⟩
 .refine concat_meets ⟨_,ho,rfl⟩ ⟨_,a,rfl⟩ noFill_tuple_add seq_tuple_add slot_tuple_add entry_tuple_add (args_tuple_add_2 _ _) (tuple_addW2 t b vs.toArray ws.toArray n m k c sl f (by simpa using j) (by simpa using i) (by rw[size_toArray,size_toArray];exact hsz)) ⟨ho,a,?_⟩;rw[e];exact p i
noncomputable def dB(n d:Nat):Option Int->Nat|none=>d|some v=>if v<0 then(v+(n:Int)).toNat else min v.toNat n
theorem Rr(n d:Nat)(hd:d<=n)(o:Option Int):dB n d o<=n:=by cases o with|none=>exact hd|some v=>
   show(if v<0 then(v+(n:Int)).toNat else min v.toNat n)<=n;by_cases a:v<0;.rw[if_pos a];omega
   .rw[if_neg a];exact Nat.min_le_right _ _
theorem Bh(v:Int)(n d:Nat):(if v<0 then max (v+(n:Int)) 0 else min v (n:Int))=((dB n d (some v):Nat):Int):=by
 show(if v<0 then max (v+(n:Int)) 0 else min v (n:Int))=(((if v<0 then(v+(n:Int)).toNat else min v.toNat n):Nat):Int);by_cases a:v<0;.simp only[if_pos a];omega
 .simp only[if_neg a];omega
theorem zm(lo hi:Option Int)(n:Nat):sliceAdjust lo hi 1 (n:Int)=(((dB n 0 lo:Nat):Int),((dB n n hi:Nat):Int)):=by
 have h1:¬((1:Int)<0):=by omega
 unfold sliceAdjust;simp only[h1,if_false];refine Prod.ext ?_ ?_;.cases lo with|none=>rfl|some v=>exact Bh v n 0
 .cases hi with|none=>rfl|some v=>exact Bh v n n
theorem zg(i j:Nat):slicePlaces (i:Int) (j:Int) 1=j-i:=by
 unfold slicePlaces;have h1:(1:Int)>0:=by omega
 simp only[h1,if_true,Int.ediv_one];split<;>omega
theorem qH{v:Value}{o:Option Int}{Q:Option Int->Shared->Prop}(p:IsPart v o)(h:Q o s):wpAny (model prog w) A (Builtin.Slice.slicePartIndex v) Q E s:=by cases p with|none=>exact slicePart_none h|int i t=>exact slicePart_int h
theorem iz{sl:Addr}{c e:Value}{lo hi:Option Int}{n:Nat}{Q:Int×Int×Nat->Shared->Prop}(hs:s.heap.IsSliceOf sl c e .none)(f:IsPart c lo)(g:IsPart e hi)(h:Q (((dB n 0 lo:Nat):Int),1,dB n n hi-dB n 0 lo) s):wpAny (model prog w) A (sliceApplied (.ref sl) (pure (n:Int))) Q E s:=by obtain⟨os,a,i,b⟩:=id hs;unfold sliceApplied Builtin.Slice.sliceFields;refine wpAny_bind (wpAny_bind (wpAny_field a b (x:=c) rfl (wpAny_bind (wpAny_field a b (x:=e) rfl (wpAny_bind (wpAny_field a b (x:=.none) rfl (wpAny_pure ?_)))))));refine wpAny_bind (slicePart_none ?_);show wpAny _ _ (if((1:Int)==0)=true then _ else _) _ _ s;rw[if_neg (by decide)];refine wpAny_bind (qH f (wpAny_bind (qH g (wpAny_bind (wpAny_pure ?_)))));show wpAny _ _ (match sliceAdjust lo hi 1 (n:Int)with|(lo,hi)=>pure (lo,(1:Int),slicePlaces lo hi 1)) _ _ s;rw[zm lo hi n];show wpAny _ _ (pure (((dB n 0 lo:Nat):Int),(1:Int),slicePlaces ((dB n 0 lo:Nat):Int) ((dB n n hi:Nat):Int) 1)) _ _ s;rw[zg];exact wpAny_pure h
theorem GZ(xs:Array Value)(i k:Nat):((List.range k).filterMap λ(m:Nat)=>xs[((i:Int)+(m:Int)*1).toNat]?).toArray=((xs.toList.drop i).take k).toArray:=by
 have e:(λ(m:Nat)=>xs[((i:Int)+(m:Int)*1).toNat]?)=λm=>xs[i+m]?:=by
  funext m;have:((i:Int)+(m:Int)*1).toNat=i+m:=by omega
  rw[this]
 rw[e];have:=pick_run xs i k;rw[List.filterMap_map]at this;have a:((λx=>xs[x]?)∘ λx=>i+x)=λm=>xs[i+m]?:=rfl;rw[a]at this;rw[this]
theorem mF{t sl:Addr}{items:Array Value}{g i:Value}{lo hi:Option Int}{Q:Value->Shared->Prop}(ht:IsTup s.heap t items)(hs:s.heap.IsSliceOf sl g i .none)(j:IsPart g lo)(k:IsPart i hi)(l:¬(dB items.size 0 lo=0/\dB items.size items.size hi=items.size))(h:Q (.ref s.heap.objs.size) {s with heap:=s.heap.push {cls:=.type "tuple",data:=.seq ((items.toList.drop (dB items.size 0 lo)).take (dB items.size items.size hi-dB items.size 0 lo)).toArray}})(hsz:items.size<=sizeLine):wpAny (model prog w) A (getItem (.ref t) (.ref sl)) Q E s:=by
 have a:sizeOk (.seq ((items.toList.drop (dB items.size 0 lo)).take (dB items.size items.size hi-dB items.size 0 lo)).toArray):=by show((items.toList.drop (dB items.size 0 lo)).take (dB items.size items.size hi-dB items.size 0 lo)).toArray.size<=sizeLine;rw[size_toArray,length_take,List.length_drop,length_toList];omega
 have o:dB items.size items.size hi<=items.size:=Rr _ _ (dm) hi;obtain⟨os,b,c,n⟩:=id hs;have e:s.TypeIs (.ref sl) "slice":=⟨os,b,c⟩;unfold getItem;try with_reducible refine wpAny_holding ?_
 first|refine wpAny_bind (wpAny_pure ?_)|skip
 refine wpAny_bind (wpAny_sequenceKey ht.typeIs (by decide) ?_);refine wpAny_bind (wpAny_callSpecial?_slot (name:=Str.ofString "__getitem__") ht.typeIs PyProof.Rows.slot_tuple_getitem (wpAny_call_entry PyProof.Rows.slot_tuple_getitem ht.typeIs entry_tuple_getitem ?_ (args_tuple_getitem _ _)));show wpAny _ _ (tupleItemsOf (.ref t)>>=_) _ _ s;refine wpAny_bind (tupleItemsOf_ ht ?_);refine wpAny_bind (wpAny_typeOf e ?_);rw[if_pos (by decide)];refine wpAny_bind (iz hs j k ?_);have f:¬((((dB items.size 0 lo:Nat):Int)==0&&(1:Int)==1&&(dB items.size items.size hi-dB items.size 0 lo)==items.size)=true):=by intro q;rw[and_eq_true,and_eq_true]at q;have p:((dB items.size 0 lo:Nat):Int)=0:=eq_of_beq q.1.1;have r:dB items.size items.size hi-dB items.size 0 lo=items.size:=eq_of_beq q.2;exact l ⟨by omega,by omega⟩
 show wpAny _ _ (if(((dB items.size 0 lo:Nat):Int)==0&&(1:Int)==1&&(dB items.size items.size hi-dB items.size 0 lo)==items.size)=true then _ else _) _ _ s;rw[if_neg f,GZ];first|exact wpAny_bind (m:=tupleExact _) (wpAny_newObj_type (wpAny_pure ⟨_,rfl,wpAny_pure h⟩) a)|exact wpAny_bind (m:=tupleExact _) (wpAny_newObj_type (wpAny_bind (wpAny_pure (wpAny_pure ⟨_,rfl,wpAny_pure h⟩))) a)|exact wpAny_bind (wpAny_bind (m:=tupleExact _) (wpAny_newObj_type (wpAny_pure (wpAny_pure ⟨_,rfl,wpAny_pure h⟩)) a))|exact wpAny_bind (wpAny_bind (m:=tupleExact _) (wpAny_newObj_type (wpAny_pure ⟨_,rfl,wpAny_pure h⟩) a))
end
end HT
namespace L2
open PySem PySem.Spec PyProof.Rows
variable{n:Nat}{s:Shared}{x:V}
abbrev TO:=St->Hp->(Option Int->Hp->Prop)->Prop
def PO(X:Cx)(e:Option Expr)(t:TO):Prop:=∀(a:List (Addr × Obj))(s:Shared)(σ:St)(H:Hp)(Q:Option Int->Hp->Prop),Inv X a σ H s->t σ H Q->wpAny (model X.prog X.w) X.A (evalPart e X.env) (λu c=>∃o b,Inv X a σ b c/\IsPart u o/\Q o b) X.xe s
def Kl:TO:=λ_ H Q=>Q none H
def Ym(t:TE):TO:=λσ H Q=>t σ H λx a=>∃i,x=.int i/\Q (some i) a
section
variable{X:Cx}{e:Expr}{te:TE}{lo hi:Option Expr}{tl th:TO}{pos p2:Pos}
theorem JC:PO X none Kl:=by intro a s σ H Q I h;rw[evalPart_none];exact wpAny_pure ⟨none,H,I,.none,h⟩
theorem Kf(h:PE X e te):PO X (some e) (Ym te):=by intro a s σ H Q I b;rw[evalPart_some];refine cB (h a s σ H _ I b) λu s1⟨x,H1,I1,r1,q1⟩=>?_;obtain⟨i,rfl,q⟩:=q1;obtain⟨t,rfl⟩:=r1;exact⟨some i,H1,I1,.int i t,q⟩
def ZZ(X:Cx)(r:V->Option Int->Option Int->Hp->VK->Prop):Prop:=∀(a:List (Addr × Obj))(s:Shared)(σ:St)(H:Hp)(x:V)(v b c:Value)(lo hi:Option Int)(sl:Addr)(Q:VK),Inv X a σ H s->RelV x v->s.heap.IsSliceOf sl b c .none->IsPart b lo->IsPart c hi->r x lo hi H Q->∃T id,typeLookup (.type T) "__getitem__"=pure (some (.builtin id))/\s.TypeIs v T/\wpAny (model X.prog X.w) X.A (getItem v (.ref sl)) (EP X a σ Q) X.xe s
def tSl(r:V->Option Int->Option Int->Hp->VK->Prop)(te:TE)(tl th:TO):TE:=λσ H Q=>te σ H λx a=>tl σ a λl b=>th σ b λu c=>r x l u c Q
theorem xu{r:V->Option Int->Option Int->Hp->VK->Prop}(hr:ZZ X r)(he:PE X e te)(g:PO X lo tl)(i:PO X hi th):PE X (.Subscript e (.Slice lo hi none p2) pos) (tSl r te tl th):=by intro a s σ H Q I h;refine Subscript_ (cB (he a s σ H _ I h) λv s1⟨x,H1,I1,r1,q1⟩=>?_);refine wpAny_Slice (cB (g a s1 σ H1 _ I1 q1) λc s2⟨l,H2,I2,pl,q2⟩=>cB (i a s2 σ H2 _ I2 q2) λf s3⟨u,H3,I3,pu,q3⟩=>?_);rw[evalPart_none];refine wpAny_pure ?_;have j:Inv X a σ H3 {s3 with heap:=s3.heap.push {cls:=.type "slice",data:=.fields #[c,f,.none]}}:=I3.kept (t':=s3.toks) λb o q=>dR q;obtain⟨T,id,k,ht,m⟩:=hr a {s3 with heap:=s3.heap.push {cls:=.type "slice",data:=.fields #[c,f,.none]}} σ H3 x v c f l u s3.heap.objs.size Q j r1 (Heap.IsSliceOf.new ..) pl pu q3;show wpAny (model X.prog X.w) X.A (subscriptTail e (.Slice lo hi none p2) v (.ref s3.heap.objs.size)) (EP X a σ Q) X.xe {s3 with heap:=s3.heap.push {cls:=.type "slice",data:=.fields #[c,f,.none]}};exact tail_any (ops:=[.ref s3.heap.objs.size,v]) ht k m (by with_unfolding_all rfl)
noncomputable def vG(xs:List V)(lo hi:Option Int):List V:=(xs.drop (HT.dB xs.length 0 lo)).take (HT.dB xs.length xs.length hi-HT.dB xs.length 0 lo)
theorem nW(xs:List V)(lo hi:Option Int):(vG xs lo hi).length<=xs.length:=by unfold vG;rw[length_take,List.length_drop];omega
def aaZ(K:PySem.W.Frag):V->Option Int->Option Int->Hp->VK->Prop:=λx lo hi H Q=>∃a xs,x=.ref a/\iB K H a xs/\¬(HT.dB xs.length 0 lo=0/\HT.dB xs.length xs.length hi=xs.length)/\∀p,H p=none->Q (.ref p) (upd H p (.tup (vG xs lo hi)))
theorem Tg:ZZ X (aaZ X.K):=by
 intro g s σ H x v p t lo hi sl Q I i hs j k h;obtain⟨a,xs,rfl,l,m,q⟩:=h;cases i;obtain⟨f,r,ht,hz⟩:=I.tuple l;have c:f.toArray.size=xs.length:=by rw[size_toArray];exact r.length.symm
 refine⟨"tuple",_,PyProof.Rows.slot_tuple_getitem.lookup,ht.typeIs,?_⟩;refine HT.mF ht hs j k (by rw[c];exact m) ?_ (by rw[c];exact hz);rw[c];refine⟨.ref s.heap.objs.size,_,I.laid (t':=s.toks) (o:=.tup (vG xs lo hi)) (λb u q=>dR q) (dm) ?_,rfl,q _ (I.hok.fresh (dm))⟩;exact⟨le_trans (nW xs lo hi) hz,_,(r.drop (HT.dB xs.length 0 lo)).take (HT.dB xs.length xs.length hi-HT.dB xs.length 0 lo),IsTup.new _ _⟩
def W2(K:PySem.W.Frag):R2:=λx y H Q=>∃a b xs ys,x=.ref a/\y=.ref b/\iB K H a xs/\iB K H b ys/\xs≠[]/\xs.length+ys.length<=sizeLine/\(ys=[]->Q (.ref a) H)/\(ys≠[]->∀p,H p=none->Q (.ref p) (upd H p (.tup (xs++ys))))
theorem Vals.pC{xs:List V}{a:List Value}(r:Vals xs a):a=[]↔xs=[]:=by cases r with|nil=>simp|cons _ _=>simp
theorem JZ:fW X (binaryOp .Add) (W2 X.K):=by intro f s σ H x y v u Q I i j h;obtain⟨a,b,xs,ys,rfl,rfl,k,l,m,hz,p,r⟩:=h;cases i;cases j;obtain⟨t,r1,p1,_⟩:=I.tuple k;obtain⟨g,c,p2,_⟩:=I.tuple l;refine HT.Ku p1 p2 (λz=>m (r1.pC.mp z)) (λz=>⟨.ref a,H,I,rfl,p (c.pC.mp z)⟩) (λz=>?_) (by rw[<-r1.length,<-c.length];exact hz);refine⟨.ref s.heap.objs.size,_,I.laid (t':=s.toks) (o:=.tup (xs++ys)) (λb A q=>dR q) (dm) ?_,rfl,r (λw=>z (c.pC.mpr w)) _ (I.hok.fresh (dm))⟩;exact⟨by rw[length_append];exact hz,_,r1.append c,IsTup.new _ _⟩
end
noncomputable def iy(n:Nat)(i:Int):Option Nat:=if 0<=i then(if i<n then some i.toNat else none)else if-(n:Int)<=i then some (i+n).toNat else none
noncomputable def Hv{a:Type}(xs:List a)(i:Int):Option a:=(iy xs.length i).bind λj=>xs[j]?
theorem Bv{i:Int}{j:Nat}(h:iy n i=some j):seqIndex? i n=some j/\j<n/\-(n:Int)<=i/\i<n:=by
 unfold iy at h;by_cases h0:0<=i
 . rw[if_pos h0]at h;by_cases h1:i<n;.rw[if_pos h1]at h;have e:i.toNat=j:=Option.some.inj h;exact⟨by rw[seqIndex_of h0 h1,e],by omega,by omega,h1⟩
   .rw[if_neg h1]at h;cases h
 . rw[if_neg h0]at h;by_cases h1:-(n:Int)<=i;.rw[if_pos h1]at h;have e:(i+n).toNat=j:=Option.some.inj h;exact⟨by rw[seqIndex_neg (by omega) h1,e],by omega,h1,by omega⟩
   .rw[if_neg h1]at h;cases h
theorem uH{a:Type}{xs:List a}{i:Int}{v:a}(h:Hv xs i=some v):∃j,seqIndex? i xs.length=some j/\xs[j]?=some v/\j<xs.length/\-(xs.length:Int)<=i/\i<xs.length:=by unfold Hv at h;cases e:iy xs.length i with|none=>rw[e]at h;cases h|some j=>rw[e]at h;obtain⟨h1,b,c,f⟩:=Bv e;exact⟨j,h1,h,b,c,f⟩
def u9(b:Expr):Prop:=∀o i,subscripted b false o i=operate [o,i] (getItem o i)
def IxR(X:Cx)(r:R2):Prop:=∀(b slice:Expr)(a:List (Addr × Obj))(s:Shared)(σ:St)(H:Hp)(x y:V)(v u:Value)(Q:VK),Inv X a σ H s->RelV x v->RelV y u->r x y H Q->subscripted slice false v u=operate [v,u] (getItem v u)->wpAny (model X.prog X.w) X.A (subscriptTail b slice v u) (EP X a σ Q) X.xe s
def MtR(X:Cx)(id:String)(r:V->List V->Hp->VK->Prop):Prop:=∀(a:List (Addr × Obj))(s:Shared)(σ:St)(H:Hp)(x:V)(xs:List V)(v:Value)(b:List Value)(Q:VK),Inv X a σ H s->RelV x v->Vals xs b->r x xs H Q->wpAny (model X.prog X.w) X.A (call (.builtin id) (v::b)) (EP X a σ Q) X.xe s
section
variable{X:Cx}{a b:Expr}{ta tb:TE}{pos:Pos}
theorem Mw{r:R2}(hr:IxR X r)(e:PE X a ta)(f:PE X b tb)(hs:u9 b):PE X (.Subscript a b pos) (RJ r ta tb):=by intro c s σ H Q I h;exact Subscript_ (Ph e f I h λv u s2 x y g i j k q=>hr a b c s2 σ g x y v u Q i j k q (hs _ _))
def VB(K:PySem.W.Frag):R2:=λx y H Q=>∃p xs i v,x=.ref p/\y=.int i/\dN K H p xs/\Hv xs i=some v/\Q v H
def aaW(K:PySem.W.Frag):R2:=λx y H Q=>∃p xs i v,x=.ref p/\y=.int i/\iB K H p xs/\Hv xs i=some v/\Q v H
theorem Aw:IxR X (VB X.K):=by
 intro e slice c s σ H x y v u Q I m o h hs;obtain⟨p,xs,i,z,rfl,rfl,A,he,q⟩:=h;cases m;obtain⟨t,rfl⟩:=o;obtain⟨f,r,g,hz⟩:=I.list A;obtain⟨j,h1,B,M,C,E⟩:=uH he;obtain⟨w,l,G⟩:=r.get B;have J:=r.length;have N:=qw;have fin:EP X c σ Q w s:=⟨z,H,I,G,q⟩;by_cases h0:0<=i
 . have k:i.toNat=j:=by rw[seqIndex_of h0 E]at h1;exact Option.some.inj h1
   exact item_listR g.isList h0 (by omega) (by rw[k];simpa using l) fin hs
 . have k:(i+(f.toArray.size:Int)).toNat=j:=by rw[seqIndex_neg (by omega) C]at h1;rw[size_toArray,<-J];exact Option.some.inj h1
   exact subscriptTail_builtinR (x:=w) g.isList.typeIs slot_list_getitem.lookup (wpAny_getItem_list_neg (Q:=λr L=>r=w/\EP X c σ Q r L) g.isList (by omega) (by rw[size_toArray]<;>omega) (by omega) (by rw[k];simpa using l) ⟨rfl,fin⟩) hs
theorem RN:IxR X (aaW X.K):=by intro e slice c s σ H x y v u Q I g k h hs;obtain⟨p,xs,i,z,rfl,rfl,l,he,q⟩:=h;cases g;obtain⟨t,rfl⟩:=k;obtain⟨m,r,f,hz⟩:=I.tuple l;obtain⟨j,h1,o,G,J,L⟩:=uH he;obtain⟨w,A,B⟩:=r.get o;have C:=r.length;have M:=qw;have fin:EP X c σ Q w s:=⟨z,H,I,B,q⟩;exact subscriptTail_builtinR (x:=w) f.typeIs slot_tuple_getitem.lookup (getItem_tuple (j:=j) (Q:=λr E=>r=w/\EP X c σ Q r E) f (by omega) (by omega) (by rw[size_toArray,<-C];exact h1) (by simpa using A) ⟨rfl,fin⟩) hs
theorem yo(c:List Value)(n j:Nat)(u:Value):Obj.mapSeq (·.setIfInBounds j u) {cls:=.type "list",data:=.seq c.toArray n}={cls:=.type "list",data:=.seq (c.set j u).toArray n}:=by simp[Obj.mapSeq]
theorem Inv.lst{f:List (Addr×Obj)}{σ:St}{H:Hp}{s:Shared}{p:Addr}{xs:List V}(I:Inv X f σ H s)(h:H p=some (.lst xs)):∃(c:List Value)(n:Nat),Vals xs c/\s.heap.get? p=some {cls:=.type "list",data:=.seq c.toArray n}/\xs.length<=sizeLine:=by obtain⟨z,c,n,r,e⟩:=I.hok p _ h;exact⟨c,n,r,e,z⟩
theorem Inv.Ti{c:List (Addr×Obj)}{σ:St}{H:Hp}{s:Shared}{p:Addr}{xs ys:List V}{g its':List Value}{n i:Nat}{f:Obj->Obj}(I:Inv X c σ H s)(h:H p=some (.lst xs))(ho:s.heap.get? p=some {cls:=.type "list",data:=.seq g.toArray n})(j:f {cls:=.type "list",data:=.seq g.toArray n}={cls:=.type "list",data:=.seq its'.toArray i})(r:Vals ys its')(hz:ys.length<=sizeLine)(t:Nat):Inv X c σ (upd H p (.lst ys)) {s with heap:=s.heap.update p f,toks:=t}:=by
 have e:(s.heap.update p f).get? p=some {cls:=.type "list",data:=.seq its'.toArray i}:=by rw[get?_update_self f ho (by rw[j]<;>rfl),j]
 refine I.write (x:=p) (e:=p) (by rw[h];trivial) (.inl rfl) (λb u k q=>(get?_update_other _ _ (Ne.symm k)).trans q) ⟨_,e⟩ ?_;exact⟨hz,its',i,r,e⟩
def Wb:V->V->V->Hp->(Hp->Prop)->Prop:=λo i v H Q=>∃p xs k j,o=.ref p/\i=.int k/\H p=some (.lst xs)/\iy xs.length k=some j/\Q (upd H p (.lst (xs.set j v)))
theorem set_list:O8 X Wb:=by
 intro c s σ H o i v ov iv u Q I z A B h;obtain⟨p,xs,k,j,rfl,rfl,l,C,q⟩:=h;cases z;obtain⟨t,rfl⟩:=A;obtain⟨e,n,r,ho,hz⟩:=I.lst l;obtain⟨h1,E,m,w⟩:=Bv C;have f:=r.length;have G:=qw;have y:Inv X c σ (upd H p (.lst (xs.set j v))) {s with heap:=s.heap.update p (Obj.mapSeq (·.setIfInBounds j u))}:=I.Ti l ho (yo e n j u) (r.set B j) (by rw[length_set];exact hz) s.toks;by_cases h0:0<=k
 . have g:k.toNat=j:=by rw[seqIndex_of h0 w]at h1;exact Option.some.inj h1
   exact PySem.W.ki_setAt ho h0 (by omega) (by rw[size_toArray,<-f];exact w) (by rw[g];exact⟨_,y,q⟩)
 . have g:(k+(e.toArray.size:Int)).toNat=j:=by rw[seqIndex_neg (by omega) m]at h1;rw[size_toArray,<-f];exact Option.some.inj h1
   exact PySem.W.ki_setBack ho (by omega) (by rw[size_toArray,<-f];exact m) (by omega) (by rw[g];exact⟨_,y,q⟩)
theorem uO(lo hi:Option Int)(n:Nat):(sliceBounds lo hi none n).1=((HT.dB n 0 lo:Nat):Int)/\(sliceBounds lo hi none n).2.1=((HT.dB n n hi:Nat):Int)/\(sliceBounds lo hi none n).2.2=1:=by
 refine⟨?_,?_,rfl⟩;.cases lo with|none=>simp[sliceBounds,HT.dB]|some i=>
     simp only[sliceBounds,HT.dB,getD_none,show(1:Int)>0 by decide,if_true];by_cases h:i<0;.simp only[h,if_true]<;>omega
     .simp only[h,if_false]<;>omega
 .cases hi with|none=>simp[sliceBounds,HT.dB]|some i=>
     simp only[sliceBounds,HT.dB,getD_none,show(1:Int)>0 by decide,if_true];by_cases h:i<0;.simp only[h,if_true]<;>omega
     .simp only[h,if_false]<;>omega
theorem rK(c:List Value)(lo hi:Option Int):slicePick c.toArray lo hi none=((c.drop (HT.dB c.length 0 lo)).take (HT.dB c.length c.length hi-HT.dB c.length 0 lo)).toArray:=by obtain⟨h1,e,f⟩:=uO lo hi c.toArray.size;unfold slicePick;rw[h1,e,f];simp only[sliceRange_one,pick_run,size_toArray]<;>rfl
def aa3(K:PySem.W.Frag):V->Option Int->Option Int->Hp->VK->Prop:=λx lo hi H Q=>∃a xs,x=.ref a/\dN K H a xs/\∀p,H p=none->Q (.ref p) (upd H p (.lst (vG xs lo hi)))
theorem K4:ZZ X (aa3 X.K):=by intro e s σ H x v l m lo hi sl Q I f hs g i h;obtain⟨a,xs,rfl,j,q⟩:=h;cases f;obtain⟨k,r,ht,hz⟩:=I.list j;have c:=r.length;refine⟨"list",_,slot_list_getitem.lookup,ht.isList.typeIs,?_⟩;refine wpAny_getItem_list_slice ht.isList hs g i .none (by simp) ?_ (by rw[size_toArray]<;>omega);rw[rK,<-c];refine⟨.ref s.heap.objs.size,_,I.laid (t':=s.toks) (o:=.lst (vG xs lo hi)) (λb p q=>dR q) (dm) ?_,rfl,q _ (I.hok.fresh (dm))⟩;exact⟨le_trans (nW xs lo hi) hz,_,0,(r.drop (HT.dB xs.length 0 lo)).take (HT.dB xs.length xs.length hi-HT.dB xs.length 0 lo),get?_push_size _ rfl⟩
noncomputable def kh:V->Bool|.non=>true|.bl _=>true|.int _=>true|.str _=>true|_=>false
noncomputable def LQ:V->V->Bool|.non,.non=>true|.bl a,.bl b=>a==b|.bl a,.int b=>(if a then 1 else 0)==b|.int a,.bl b=>a==(if b then 1 else 0)|.int a,.int b=>a==b|.str a,.str b=>a==b|_,_=>false
theorem QF{A:Around}{y:V}{u v:Value}(e:RelV y u)(c:RelV x v)(g:kh y=true)(f:kh x=true):SeqAt.EqAt A s u v (LQ y x):=by cases y with
 |non=>cases e;cases x with|non=>cases c;exact SeqAt.EqAt.same _|bl b=>cases c;exact none_bool b|int b=>obtain⟨t,rfl⟩:=c;exact none_int b t|str b=>obtain⟨t,rfl⟩:=c;exact none_str b t|_=>exact absurd (show false=true from f) Bool.false_ne_true
 |bl a=>cases e;cases x with|non=>cases c;exact bool_none a|bl b=>cases c;exact bool_bool a b|int b=>obtain⟨t,rfl⟩:=c;exact bool_int a b t|str b=>obtain⟨t,rfl⟩:=c;exact bool_str a b t|_=>exact absurd (show false=true from f) Bool.false_ne_true
 |int a=>obtain⟨t',rfl⟩:=e;cases x with|non=>cases c;exact int_none a t'|bl b=>cases c;exact int_bool a t' b|int b=>obtain⟨t,rfl⟩:=c;exact int_int a t' b t|str b=>obtain⟨t,rfl⟩:=c;exact int_str a t' b t|_=>exact absurd (show false=true from f) Bool.false_ne_true
 |str a=>obtain⟨t',rfl⟩:=e;cases x with|non=>cases c;exact str_none a t'|bl b=>cases c;exact str_bool a t' b|int b=>obtain⟨t,rfl⟩:=c;exact str_int a t' b t|str b=>obtain⟨t,rfl⟩:=c;exact str_str a t' b t|_=>exact absurd (show false=true from f) Bool.false_ne_true
 |_=>exact absurd (show false=true from g) Bool.false_ne_true
noncomputable def zL(x:V)(u:Value):Bool:=match u with|.none=>LQ .non x|.bool b=>LQ (.bl b) x|.int i _=>LQ (.int i) x|.str z _=>LQ (.str z) x|_=>false
theorem Gq{y:V}{u:Value}(r:RelV y u)(f:kh y=true):zL x u=LQ y x:=by cases y with|non=>cases r;rfl|bl b=>cases r;rfl|int i=>obtain⟨t,rfl⟩:=r;rfl|str z=>obtain⟨t,rfl⟩:=r;rfl|_=>exact absurd (show false=true from f) Bool.false_ne_true
theorem mJ{x:V}:∀{xs:List V}{c:List Value},Vals xs c->xs.all kh=true->c.any (zL x)=xs.any λy=>LQ y x|_,_,.nil,_=>rfl|y::xs,u::c,.cons r t,f=>by rw[all_cons,and_eq_true]at f;rw[any_cons,any_cons,Gq r f.1,mJ t f.2]
theorem jM{A:Around}{s:Shared}{x:V}{v:Value}(e:RelV x v)(g:kh x=true):∀{xs:List V}{c:List Value},Vals xs c->xs.all kh=true->∀u∈c,SeqAt.EqAt A s u v (zL x u)
 |_,_,.nil,_=>λu hu=>by cases hu|y::xs,u::c,.cons r t,f=>λh hu=>by
   rw[all_cons,and_eq_true]at f;rcases mem_cons.mp hu with rfl|hu;.rw[Gq r f.1];exact QF r e f.1 g
   .exact jM e g t f.2 h hu
noncomputable def inV(x:V)(xs:List V):Bool:=xs.any λy=>LQ y x
def rIn(K:PySem.W.Frag)(neg:Bool):R2:=λx y H Q=>∃p xs,y=.ref p/\(dN K H p xs\/iB K H p xs)/\kh x=true/\xs.all kh=true/\Q (.bl (if neg then !inV x xs else inV x xs)) H
theorem Dh:fW X (compareOp .In) (rIn X.K false):=by
 intro g s σ H x y v u Q I i k h;obtain⟨p,xs,rfl,hq,j,fs,q⟩:=h;cases k;rcases hq with hq|hq;.obtain⟨c,r,e,hz⟩:=I.list hq;refine SeqAt.in_listAt (zL x) e.isList (λw f=>jM i j r fs w (by simpa using f)) ⟨.bl _,H,I,rfl,?_⟩;rw[show c.toArray.any (zL x)=c.any (zL x)by simp,mJ r fs];exact q
 .obtain⟨c,r,e,hz⟩:=I.tuple hq;refine SeqAt.in_tupleAt (zL x) e (λw f=>jM i j r fs w (by simpa using f)) ⟨.bl _,H,I,rfl,?_⟩;rw[show c.toArray.any (zL x)=c.any (zL x)by simp,mJ r fs];exact q
theorem uB:fW X (compareOp .NotIn) (rIn X.K true):=by
 intro g s σ H x y v u Q I i k h;obtain⟨p,xs,rfl,hq,j,fs,q⟩:=h;cases k;rcases hq with hq|hq;.obtain⟨c,r,e,hz⟩:=I.list hq;refine SeqAt.notIn_listAt (zL x) e.isList (λw f=>jM i j r fs w (by simpa using f)) ⟨.bl _,H,I,rfl,?_⟩;rw[show c.toArray.any (zL x)=c.any (zL x)by simp,mJ r fs];exact q
 .obtain⟨c,r,e,hz⟩:=I.tuple hq;refine SeqAt.notIn_tupleAt (zL x) e (λw f=>jM i j r fs w (by simpa using f)) ⟨.bl _,H,I,rfl,?_⟩;rw[show c.toArray.any (zL x)=c.any (zL x)by simp,mJ r fs];exact q
theorem u0:dC X (.builtin "len") (λxs H Q=>∃p ys,xs=[.ref p]/\(dN X.K H p ys\/iB X.K H p ys)/\Q (.int ys.length) H):=by
 intro i s σ H xs k Q I r h;obtain⟨p,ys,rfl,hq,q⟩:=h;obtain⟨u,rfl,j⟩:=vals1 r;cases j;have l:=qw;rcases hq with hq|hq;.obtain⟨e,f,g,hz⟩:=I.list hq;have c:=f.length;exact Calls.call_len_list g.isList (by simp only[size_toArray]<;>omega) ⟨.int ys.length,H,I.tok _,⟨s.toks+1,by rw[size_toArray,c]⟩,q⟩
 .obtain⟨e,f,g,hz⟩:=I.tuple hq;have c:=f.length;exact len_tuple g (by simp only[size_toArray]<;>omega) ⟨.int ys.length,H,I.tok _,⟨s.toks+1,by rw[size_toArray,c]⟩,q⟩
theorem vm:dC X (.type "list") (λxs H Q=>∃p ys,xs=[.ref p]/\(dN X.K H p ys\/iB X.K H p ys)/\∀l,H l=none->Q (.ref l) (upd H l (.lst ys))):=by
 intro i s σ H xs v Q I r h;obtain⟨p,ys,rfl,hq,q⟩:=h;obtain⟨u,rfl,t⟩:=vals1 r;cases t;have fin:∀(c:List Value),Vals ys c->ys.length<=sizeLine->∀(h':Heap)(f:Nat),(∀b m,s.heap.get? b=some m->h'.get? b=some m)->h'.get? s.heap.objs.size=some {cls:=.type "list",dict:=none,data:=.seq c.toArray f,slots:=#[]}->EP X i σ Q (.ref s.heap.objs.size) {s with heap:=h'}:=λc g hz h' f kp e=>⟨.ref s.heap.objs.size,_,I.laid (t':=s.toks) kp (dm) (show cz X.prog X.w _ h' _ (.lst ys)from⟨hz,c,f,g,e⟩),rfl,q _ (I.hok.fresh (dm))⟩;rcases hq with hq|hq;.obtain⟨c,g,k,hz⟩:=I.list hq;have j:=g.length;obtain⟨o,ho,hc,n,hd⟩:=k.isList;exact call_list_seq p (.inl rfl) ho hc hd (λh' f kp e=>fin c g hz h' f kp e) (by simp only[size_toArray]<;>omega)
 .obtain⟨c,g,k,hz⟩:=I.tuple hq;have j:=g.length;obtain⟨o,ho,hc,n,hd⟩:=k;exact call_list_seq p (.inr rfl) ho hc hd (λh' f kp e=>fin c g hz h' f kp e) (by simp only[size_toArray]<;>omega)
theorem kj:dC X (.type "tuple") (λxs H Q=>∃p ys,xs=[.ref p]/\((dN X.K H p ys/\∀l,H l=none->Q (.ref l) (upd H l (.tup ys)))\/(iB X.K H p ys/\Q (.ref p) H))):=by
 intro c s σ H xs y Q I r h;obtain⟨p,ys,rfl,h⟩:=h;obtain⟨u,rfl,t⟩:=vals1 r;cases t;rcases h with⟨g,q⟩|⟨g,q⟩;.obtain⟨f,i,j,hz⟩:=I.list g;have k:=i.length;refine call_tuple_list j.isList (λh' kp=>?_) (by simp only[size_toArray]<;>omega);have m:Inv X c σ H {s with heap:=h'}:=I.kept (t':=s.toks) kp;have v:Inv X c σ (upd H h'.objs.size (.tup ys)) {s with heap:=h'.push {cls:=.type "tuple",data:=.seq f.toArray}}:=m.laid (t':=s.toks) (λb o e=>dR e) (dm) (show cz X.prog X.w _ _ _ (.tup ys)from⟨hz,f,i,IsTup.new _ _⟩);exact⟨.ref h'.objs.size,_,v,rfl,q _ (m.hok.fresh (dm))⟩
 .obtain⟨f,i,j,hz⟩:=I.tuple g;exact call_tuple_same j ⟨.ref p,H,I,rfl,q⟩
def tyV(K:PySem.W.Frag)(T:String)(x:V)(H:Hp):Prop:=match x with|.str _=>T="str"|.int _=>T="int"|.ref p=>(T="list"/\∃xs,dN K H p xs)\/(T="tuple"/\∃o,K.lookup p=some o/\o.cls=.type "tuple"/\o.dict=none)\/(T="dict"/\((∃kvs,H p=some (.dK kvs))\/∃kvs,H p=some (.dT kvs)))\/(T="set"/\∃S n,H p=some (.set S n))|_=>False
theorem Qe{g:List (Addr×Obj)}{σ:St}{H:Hp}{T:String}{v:Value}(I:Inv X g σ H s)(r:RelV x v)(ty:tyV X.K T x H):
 s.TypeIs v T/\∀a,v=.ref a->∃j,s.heap.get? a=some j/\j.dict=none:=by cases x with|str z=>obtain⟨t,rfl⟩:=r;cases(show T="str"from ty);exact⟨typeIs_str s z t,λ_ e=>nomatch e⟩|int i=>obtain⟨t,rfl⟩:=r;cases(show T="int"from ty);exact⟨typeIs_int s i t,λ_ e=>nomatch e⟩|ref p=>
   cases r;rcases ty with⟨rfl,xs,l⟩|⟨rfl,o,f,hc,hd⟩|⟨rfl,f⟩|⟨rfl,S,n,f⟩;.obtain⟨m,_,k,_⟩:=I.list l;refine⟨k.isList.typeIs,λa e=>?_⟩;cases e;obtain⟨o,n,e,c,hd,_⟩:=k;exact⟨o,e,hd⟩
   .refine⟨⟨o,I.Ql p o f,hc⟩,λa e=>?_⟩;cases e;exact⟨o,I.Ql _ o f,hd⟩
   . have z:∃o,s.heap.get? p=some o/\o.ExactDict:=by
      rcases f with⟨kvs,f⟩|⟨kvs,f⟩;.obtain⟨_,_,_,_,o,_,_,e,ex,_⟩:=I.hok p _ f;exact⟨o,e,ex⟩
      .obtain⟨_,_,_,_,o,_,_,e,ex,_⟩:=I.hok p _ f;exact⟨o,e,ex⟩
     obtain⟨o,e,ex⟩:=z;refine⟨⟨o,e,ex.1⟩,λa h=>?_⟩;cases h;exact⟨o,e,ex.2.1⟩
   .obtain⟨o,_,_,_,e,ex,_⟩:=I.hok p _ f;refine⟨⟨o,e,ex.1⟩,λa h=>?_⟩;cases h;exact⟨o,e,ex.2.1⟩|_=>exact False.elim ty
def tBM(K:PySem.W.Frag)(T:String)(r:V->List V->Hp->VK->Prop)(to:TE)(t:TA):TE:=λσ H Q=>to σ H λx c=>tyV K T x c/\t σ c λxs e=>r x xs e Q
variable{o e:Expr}{es:List Expr}{to:TE}{t:TA}{name:Str}{apos cpos:Pos}{T id:String}{r:V->List V->Hp->VK->Prop}
theorem Es(m:PlainAttrs T)(slot:Slot T name id)(k:typeOf (.builtin id)=pure (.type "method_descriptor"))(p:MtR X id r)(ho:PE X o to)(q:PA X (e::es) t)(g:attributeBase o name X.env (eval o X.env)=eval o X.env:=by rfl)(j:((backTo cpos (starEach (e::es) X.env)).all (λx=>!x.1)&&(backToKw cpos (keywordEach [] X.env)).all (λx=>x.1.isSome)&&decide ((e::es).length+([]:List Keyword).length+(if([]:List Keyword).isEmpty then 0 else 1)<30))=true:=by rfl)(i:(apos.endLine==cpos.line)=true:=by rfl)(hs:starEach (e::es) X.env=(false,eval e X.env)::starEach es X.env:=by rfl)(f:(backTo cpos (starEach es X.env)).any (·.1)=false:=by rfl):PE X (.Call (.Attribute o name apos) (e::es) [] cpos) (tBM X.K T r to t):=by intro c s σ H Q I h;refine wpAny_Call_method_late g j i rfl (cB (ho c s σ H _ I h) λv s1⟨x,H1,I1,r1,ty,q1⟩=>?_);obtain⟨h1,u⟩:=Qe I1 r1 ty;refine⟨T,id,m,slot,k,h1,u,?_⟩;have l:=q cpos c s1 σ H1 _ I1 q1;rw[hs]at l ⊢;refine Calls.callWith_builtin (by show(false||(backTo cpos (starEach es X.env)).any (·.1))=false;rw[f]<;>rfl) (Calls.evalArgs_plain ?_);exact cB l λw s2⟨vs,H2,I2,r2,q2⟩=>p c s2 σ H2 x vs v w Q I2 r1 r2 q2
end
def MtM(X:Cx)(id:String)(r:V->List V->Hp->VK->Prop):Prop:=∀(a:List (Addr × Obj))(s:Shared)(σ:St)(H:Hp)(x:V)(xs:List V)(v:Value)(b:List Value)(Q:VK),Inv X a σ H s->RelV x v->Vals xs b->r x xs H Q->wpAny (model X.prog X.w) X.A (call (.builtin id) (v::b)) (EP X a σ Q) X.xe s
theorem Vals.one:∀{x:V}{a:List Value},Vals [x] a->∃u,a=[u]/\RelV x u|x,a,h=>by cases h with|cons r t=>cases t;exact⟨_,rfl,r⟩
theorem Vals.two:∀{x y:V}{a:List Value},Vals [x,y] a->∃u v,a=[u,v]/\RelV x u/\RelV y v|x,y,a,h=>by cases h with|cons r t=>cases t with|cons q z=>cases z;exact⟨_,_,rfl,r,q⟩
theorem Vals.zero:∀{a:List Value},Vals [] a->a=[]|_,.nil=>rfl
theorem Vals.reverse{xs:List V}{a:List Value}(h:Vals xs a):Vals xs.reverse a.reverse:=by induction h with|nil=>exact .nil|cons r t b=>rw[reverse_cons,reverse_cons];exact Vals.append b (.cons r .nil)
theorem Vals.rep{xs:List V}{a:List Value}(h:Vals xs a):∀k:Nat,Vals (replicate k xs).flatten (replicate k a).flatten|0=>.nil|k+1=>by rw[replicate_succ,replicate_succ,flatten_cons,flatten_cons];exact Vals.append h (Vals.rep h k)
theorem foldl_rep(a:List Value):∀(k:Nat)(b:List Value),foldl (λc f=>c++f) b.toArray (replicate k a.toArray)=(b++(replicate k a).flatten).toArray
 |0,b=>by simp|k+1,b=>by
   have e:b.toArray++a.toArray=(b++a).toArray:=by simp
   have g:(b++a)++(replicate k a).flatten=b++(replicate (k+1) a).flatten:=by rw[replicate_succ,flatten_cons,append_assoc]
   rw[<-g,<-foldl_rep a k (b++a),<-e,replicate_succ,foldl_cons]
section
variable{X:Cx}{pins:List (Addr×Obj)}{σ:St}{H:Hp}{s:Shared}{l b:Addr}{xs ys zs:List V}
theorem Inv.VF{a its':List Value}{f:Array Value->Array Value}{t':Nat}(I:Inv X pins σ H s)(c:H l=some (.lst xs))(e:s.heap.get? l=some {cls:=.type "list",data:=.seq a.toArray n})(g:f a.toArray=its'.toArray)(h:Vals ys its')(hz:ys.length<=sizeLine):Inv X pins σ (upd H l (.lst ys)) {s with heap:=s.heap.update l (Obj.mapSeq f),toks:=t'}:=by have q:=PySem.IsL.update e f;rw[g]at q;refine I.write (x:=l) (e:=l) (by rw[c];exact trivial) (.inl rfl) (λk u i j=>(get?_update_other s.heap (Obj.mapSeq f) (Ne.symm i)).trans j) ⟨_,q⟩ ?_;exact⟨hz,its',_,h,q⟩
theorem Inv.QZ{a:List Value}{t':Nat}(I:Inv X pins σ H s)(c:Vals ys a)(hz:ys.length<=sizeLine):Inv X pins σ (upd H s.heap.objs.size (.lst ys)) {s with heap:=s.heap.push {cls:=.type "list",data:=.seq a.toArray},toks:=t'}:=I.laid (λ_ _ q=>dR q) (dm) ⟨hz,a,0,c,get?_push_size _ rfl⟩
theorem Inv.fresh(I:Inv X pins σ H s):H s.heap.objs.size=none:=I.hok.fresh (dm)
theorem Inv.XM(I:Inv X pins σ H s)(c:H l=some (.lst xs)):xs.length<=sizeLine/\∃(a:List Value)(n:Nat),Vals xs a/\xs.length=a.length/\s.heap.get? l=some {cls:=.type "list",data:=.seq a.toArray n}:=by obtain⟨z,a,n,r,e⟩:=I.hok l _ c;exact⟨z,a,n,r,r.length,e⟩
theorem Ho(h:n<=sizeLine):listTooLong n=false:=by unfold listTooLong;exact decide_eq_false (by omega)
end
section
variable{X:Cx}
def Lx:V->List V->Hp->VK->Prop:=λx vs H Q=>∃l xs y,x=.ref l/\vs=[y]/\H l=some (.lst xs)/\xs.length<sizeLine/\Q .non (upd H l (.lst (xs++[y])))
theorem m5:MtM X "list.append" Lx:=by intro b s σ H x vs v j Q I f g h;obtain⟨l,xs,y,rfl,rfl,c,hz,q⟩:=h;cases f;obtain⟨u,rfl,i⟩:=g.one;obtain⟨z,a,n,r,k,e⟩:=I.XM c;refine call_meets F.slot_list_append ⟨_,e,rfl⟩ F.entry_list_append (F.args_list_append_2 _ _) (PySem.list_append l a.toArray n u (by rw[size_toArray];omega)) ⟨e,?_⟩;refine⟨.non,_,I.VF (its':=a++[u]) c e (by simp) (r.append (.cons i .nil)) ?_,rfl,q⟩;rw[length_append,List.length_singleton];omega
theorem len_rep{a:Type}(xs:List a)(k:Nat):(replicate k xs).flatten.length=k*xs.length:=by induction k with|zero=>simp|succ k b=>rw[replicate_succ,flatten_cons,length_append,b,Nat.succ_mul,Nat.add_comm]
end
end L2
namespace Att
open PySem PySem.W PySem.Calls PyProof.Rows
theorem oF{P:Params}{h:Heap}:∀(ns:List Int)(vs:List Value),WellAll P h vs (ns.map WData.int)->IntsAre vs ns:=by intro ns;induction ns with|nil=>intro vs w;rw[map_nil]at w;cases w;exact .nil|cons n ns c=>intro vs w;rw[map_cons]at w;cases w with|cons a b=>cases a;exact .cons _ _ (c _ b)
theorem Ec{l:OpenLaw}{n:Nat}(k:l.most=some n){P:Params}{h:Heap}{args:List WData}{b:List Value}(c:l.row.toRowW.claim.pre args=true)(i:WellAll P h b args):∃a vs ns,b=[Value.ref a]/\args=[WData.list (ns.map WData.int)]/\h.get? a=some {cls:=.type "list",data:=.seq vs.toArray}/\IntsAre vs ns/\ns.length<=n:=by
 have j:WShape.hasAll [] args [.list .int]=true:=(pre_splitW c).1;have hc:l.pre.holds [] {args:=args}=true:=(pre_splitW c).2;obtain⟨d,r,rfl,h1,m⟩:=hasAllW_cons j;obtain rfl:=hasAllW_nil m;obtain⟨xs,rfl,o⟩:=hasW_list h1;obtain⟨ns,rfl⟩:=items_int o;have e:ns.length<=n:=by
  unfold OpenLaw.pre at hc;have f:(WTm.not (.lt (.lit (.int (n:Int))) (.len (.arg 0)))).holds [] {args:=[.list (ns.map .int)]}=true:=by have f:=(holds_andW hc).1;rw[k]at f;exact f
  have g:=condW_of f (w_not (w_lt w_lit (w_len_list (w_arg rfl))));rw[length_map]at g;refine Nat.le_of_not_lt λq=>?_;have p:(n:Int)<((ns.length:Nat):Int):=by omega
  first|(rw[decide_eq_true p]at g;exact absurd g (by decide))|(simp at g;omega)
 cases i with|cons s t=>cases t;cases s with|list ho hall=>exact⟨_,_,ns,rfl,rfl,ho,oF ns _ hall,e⟩
theorem Dp(l:OpenLaw)(args:List WData):l.row.toRowW.claim.post args (.bool true) args=true:=postW_of (r:=l.row.toRowW) (X:=(true==true)) (show WShape.has [] (.bool true) .bool=true by first|rfl|decide|simp[WShape.has,WShape.arms,WShape.armsAll]) (show(WTm.eq .res (.lit (.bool true))).value [] {args:=args,res:=some (.bool true),after:=args}=some (.bool (true==true))from w_eq_bool (w_res rfl) w_lit) rfl
theorem vQ{l:OpenLaw}{n:Nat}{q:Program}{c:List Str}{z:(Str->Option Value)->Heap->Prop}{A:World->Heap->Prop}{d:DefRec}(H:l.most=some n)(s:d.params.defaults=[])(call:∀(w:World)(s₀ b:Shared)(mg t:Str->Option Value)(h:Addr)(o:Obj)(u m e:Value)(a:Addr)(vs:List Value)(ns:List Int),Ground q c [] z w s₀ mg t b.heap->A w b.heap->b.heap.get? h=some o->o.data=.func (docDef d.name d.params d.body d.scope u m e)->b.heap.CodeRec m d.name->mg d.name=some (.ref h)->b.heap.get? a=some {cls:=.type "list",data:=.seq vs.toArray}->IntsAre vs ns->ns.length<=n->b.gens=#[]->codeAny (model l.prog w) callerA (.call (.ref h) ⟨[.ref a],[]⟩) (λr p=>r=.ok (.ret (.bool true))/\OldK b.heap p.heap/\p.os=b.os/\AllBare p.gens) b):WalkO q c z A l.row.toRowW d [] (λf vs=>PySem.call f vs):=by intro w s₀ b mg t G Y h o u m e I kV ho hd v B x J args C as i E L y M;obtain rfl:I=.none:=Dflts.none B s;obtain rfl:kV=.none:=Dflts.noKw B;obtain⟨a,vs,ns,rfl,rfl,j,g,k⟩:=Ec H i y;refine enter_call (codeAny_mono (call w s₀ b mg t h o u m e a vs ns G Y ho (fd_plain hd) v x j g k J) λr p N=>?_);obtain⟨rfl,O,Q,U⟩:=N;exact⟨.inl ⟨.bool true,.bool true,[],rfl,λ_=>rfl,.bool true,Dp l _,λ_=>⟨List.Pairwise.nil,λ_ W=>(nomatch W)⟩⟩,O,Q,U⟩
end Att
namespace L2
open PySem PySem.Spec PyProof.Rows
theorem sS:∀{vs:List Value}{ns:List Int},IntsAre vs ns->Vals (ns.map V.int) vs|_,_,.nil=>.nil|_,_,.cons n t h=>.cons ⟨t,rfl⟩ (sS h)
def Only(H:Hp):Prop:=∀b,H b=none\/∃o xs,H b=some (.cM o (.lst xs))
theorem Hk{P:Program}{w:World}{K:PySem.W.Frag}{mg G:Str->Option Value}{CX:Ft}{k:Nat}{I a:Addr}{fd:FuncData}{x:Str}{sp:Sp}{c:Shared}{vs:List Value}{ns:List Int}(M:K.In c.heap)(p:c.heap.Ns mainGlobals mg)(f:c.heap.Ns builtinsNs G)(J:∀x:Str,x≠"__name__"->G x=bootBuiltins x)(t:c.heap.NoLimit)(Z:c.gens=#[])(E:c.heap.get? a=some {cls:=.type "list",data:=.seq vs.toArray})(hi:IntsAre vs ns)(N:ns.length<=sizeLine)(hr:jP k callerA)(F:∀base:Heap,K.In base->base.Ns mainGlobals mg->m9 P w K mg base CX k I fd [x] sp)(l:∀(s:Shared)(u:Value),BindsTo s fd ⟨[u],[]⟩ [(x,u)])(hsp:∀H:Hp,Only H->dN K H a (ns.map V.int)->sp [.ref a] H (λv _=>v=.bl true) λ_ _ _=>False)(Ys:∀H e g,CX [] H c (λ_ _ _=>False) e g->False):codeAny (model P w) callerA (.call (.ref I) ⟨[.ref a],[]⟩) (λr g=>r=.ok (.ret (.bool true))/\OldK c.heap g.heap/\g.os=c.os/\AllBare g.gens) c:=by
 have O:=sS hi;have y:=hi.length--from an abstract heap in which nothing but the script may be tracked
 have j:∀H:Hp,Only H->dN K H a (ns.map V.int)->mW P w H c.heap->(∀b,H b≠none->b=a)->(H a≠none->K.lookup a=none)->codeAny (model P w) callerA (.call (.ref I) ⟨[.ref a],[]⟩) (λr g=>r=.ok (.ret (.bool true))/\OldK c.heap g.heap/\g.os=c.os/\AllBare g.gens) c:=by
  intro H Q hS hok U hK;have X:∀{b:Addr}{o:Obj},c.heap.get? b=some o->H b=none->(ue c.heap H).get? b=some o:=λe n=>GC e n;have Yr:∀{b:Addr}{o:Obj}{es:Array DictEntry}{ep:Nat},c.heap.get? b=some o->o.data=.dict es ep->H b=none:=λ{b o es ep}e d=>by cases q:H b with|none=>rfl|some u=>have L:b=a:=U b (by rw[q];simp);subst L;rw[E]at e;cases e;have d':Data.seq vs.toArray _=Data.dict es ep:=d;cases d'
  have i:∀{b:Addr}{m:Str->Option Value},c.heap.Ns b m->(ue c.heap H).Ns b m:=λ{b m}⟨o,es,ep,e,d,r⟩=>⟨o,es,ep,X e (Yr e d),d,r⟩;have A:K.In (ue c.heap H):=λb o e=>X (M b o e) (by cases q:H b with|none=>rfl|some u=>have L:b=a:=U b (by rw[q];simp);subst L;rw[hK (by rw[q];simp)]at e;cases e);have hM:Mod K mg (ue c.heap H):=⟨A,i p,⟨G,i f,J⟩,let⟨mc,h1,h2⟩:=t;⟨mc,i h1,h2⟩⟩;have e0:KD P w K mg (ue c.heap H) callerA [] c H:=⟨rfl,hM,λb o e=>JF e,Nat.le_of_eq (Dg _ _),trivial,λb f=>absurd (show b∈([]:List Addr)from f) (by simp),hok,.of_eq Z⟩;refine codeAny_mono ((F _ A (i p)).run callerA [] c H ⟨[.ref a],[]⟩ [.ref a] [.ref a] _ _ hr e0 (l c (.ref a)) (.cons rfl .nil) (hsp H Q hS)) λr g h=>?_;cases r with|error e=>exact(Ys H e g h).elim|ok fl=>cases fl with|next=>exact False.elim h|brk=>exact False.elim h|cont=>exact False.elim h|ret u=>obtain⟨v,H',os,bare,un,B,r',q⟩:=h;have q':v=.bl true:=q;subst q';obtain rfl:u=Value.bool true:=r';refine⟨rfl,OldK.of_keep λb o e=>?_,os,bare⟩;cases q:H b with|none=>exact un.keep b o e q (by intro z;exact absurd (show b∈([]:List Addr)from z) (by simp)) (by simp)|some u=>
        rcases Q b with z|⟨ob,xs,z⟩;.rw[q]at z;cases z
        .have z2:=un.vq b ob _ z;obtain⟨Y,_⟩:=hok b _ z;obtain⟨e2,_⟩:=B b _ z2;rw[e]at Y;cases Y;exact e2
 cases hk:K.lookup a with|some o=>--the script is one of the module's own objects
   have e:=M a o hk;rw[E]at e;cases e;refine j (λ_=>none) (λ_=>.inl rfl) (.inr ⟨_,vs.toArray,_,hk,rfl,rfl,rfl,by rw[size_toArray,y];exact N,by simpa using O⟩) (λb u z=>by have C:(none:Option HO)=some u:=z;cases C) (λb z=>absurd rfl z) λz=>absurd rfl z|none=>
   refine j (λb=>if b=a then some (.cM {cls:=.type "list",data:=.seq vs.toArray} (.lst (ns.map V.int)))else none) (λb=>?_) (.inl (.inr ⟨{cls:=.type "list",data:=.seq vs.toArray},if_pos rfl⟩)) (λb u z=>?_) (λb z=>?_) λ_=>hk
   . by_cases f:b=a;.exact .inr ⟨_,_,if_pos f⟩
     .exact .inl (if_neg f)
   . by_cases f:b=a;.have C:=(if_pos f).symm.trans z;cases C;subst f;exact⟨E,by rw[length_map];exact N,vs,_,O,E⟩
     .have C:=(if_neg f).symm.trans z;cases C
   . by_cases f:b=a;.exact f
     .exact absurd (if_neg f) z
theorem Kv{l:PySem.W.OpenLaw}{n k:Nat}{q:Program}{i:List Str}{E:(Str->Option Value)->Heap->Prop}{B:World->Heap->Prop}{d:DefRec}{K:Params->PySem.W.Frag}{CX:World->Ft}{sp:World->Sp}{x:Str}(I:l.most=some n)(t:n<=sizeLine)(y:d.params.defaults=[])(hr:jP k callerA)(J:∀(w:World)(h:Heap),B w h->(K w.params).In h)(F:∀(w:World)(mg:Str->Option Value)(r:Addr)(h:Heap),(K w.params).In h->h.Ns mainGlobals mg->mg d.name=some (.ref r)->∃ fd:FuncData,(∀(s:Shared)(u:Value),BindsTo s fd ⟨[u],[]⟩ [(x,u)])/\∀base:Heap,(K w.params).In base->base.Ns mainGlobals mg->m9 l.prog w (K w.params) mg base (CX w) k r fd [x] (sp w))(hsp:∀(w:World)(H:Hp)(a:Addr)(ns:List Int),ns.length<=n->Only H->dN (K w.params) H a (ns.map V.int)->sp w [.ref a] H (λv _=>v=.bl true) λ_ _ _=>False)(L:∀(w:World)(H:Hp)(s:Shared)(e:Value)(z:Shared),CX w [] H s (λ_ _ _=>False) e z->False):PySem.W.WalkO q i E B l.row.toRowW d [] (λf vs=>PySem.call f vs):=by refine Att.vQ I y λw s₀ m mg mb r o pm cd M a vs ns G Y ho hd N A p j c O=>?_;have C:=J w _ Y;obtain⟨fd,Q,U⟩:=F w mg r _ C G.T.g A;exact Hk C G.T.g G.T.b G.T.builtins G.T.nolimit O p j (le_trans c t) hr U Q (λH X Z=>hsp w H a ns c X Z) λH e z=>L w H m e z
theorem FQ{l:PySem.W.OpenLaw}{n k:Nat}{q:Program}{b:List Str}{o:(Str->Option Value)->Heap->Prop}{j:World->Heap->Prop}{d:DefRec}{K:Params->PySem.W.Frag}{CX:Ft}{sp:PySem.W.Frag->Sp}{x:Str}(p:l.most=some n)(c:n<=sizeLine)(g:d.params.defaults=[])(hr:jP k callerA)(r:∀(w:World)(h:Heap),j w h->(K w.params).In h)(F:∀(w:World)(mg:Str->Option Value)(m:Addr)(h:Heap),(K w.params).In h->h.Ns mainGlobals mg->mg d.name=some (.ref m)->∃ fd:FuncData,(∀(s:Shared)(u:Value),BindsTo s fd ⟨[u],[]⟩ [(x,u)])/\∀base:Heap,(K w.params).In base->base.Ns mainGlobals mg->m9 l.prog w (K w.params) mg base CX k m fd [x] (sp (K w.params)))(hsp:∀(K:PySem.W.Frag)(H:Hp)(a:Addr)(ns:List Int),ns.length<=n->Only H->dN K H a (ns.map V.int)->sp K [.ref a] H (λv _=>v=.bl true) λ_ _ _=>False)(t:∀(H:Hp)(s:Shared)(e:Value)(i:Shared),CX [] H s (λ_ _ _=>False) e i->False):PySem.W.WalkO q b o j l.row.toRowW d [] (λf vs=>PySem.call f vs):=Kv (K:=K) (CX:=λ_=>CX) (sp:=λw=>sp (K w.params)) p c g hr r F (λw H a ns h1 y z=>hsp (K w.params) H a ns h1 y z) λ_ H s e i=>t H s e i
end L2
namespace L2
open PySem PySem.Spec PyProof.Rows
noncomputable def iQ(s:Stmt):Arguments:=match s with|.FunctionDef _ a _ _ _ _ _ _ _ _=>a|_=>{posonlyargs:=[],args:=[],vararg:=none,kwonlyargs:=[],kw_defaults:=[],kwarg:=none,defaults:=[]}
noncomputable def gb(s:Stmt):List Stmt:=match s with|.FunctionDef _ _ b _ _ _ _ _ _ _=>b|_=>[]
noncomputable def az(s:Stmt):Scope:=match s with|.FunctionDef _ _ _ _ _ _ a _ _ _=>a|_=>{kind:=.function,names:=[],isGenerator:=false,isCoroutine:=false}
abbrev Fw:Ft:=λ_ _ _ _ _ _=>False
abbrev E0:XK:=λ_ _ _=>False
theorem XD{X:Cx}:Passes Fw X E0:=λ_ _ _ _ _ _ _ h=>h.elim
structure iD(K:PySem.W.Frag)(x qual:Str)(st:Stmt)(f:Addr)(fd:FuncData):Prop where
 ex:∃(oc:Value)(od:Option Addr)(kV doc pm:Value)(an:Option Addr)(cdv ct:Value)(osl:Array (Option Value)),fd=PySem.W.fnOf x qual (iQ st) (gb st) (az st) .none kV doc pm an cdv ct/\K.lookup f=some ⟨oc,od,.func fd,osl⟩/\PySem.W.codeIn K cdv qual=true
 kp:keepIn K (.ref f)=true
section
variable{P:Program}{w:World}{K:PySem.W.Frag}{mg:Str->Option Value}{base:Heap}
theorem iD.ok{x qual:Str}{st:Stmt}{f:Addr}{fd:FuncData}{N ps:List Str}{k:Nat}{sp:Sp}(F:iD K x qual st f fd)(S:aL N ps (az st))(len:∀vs H Q E,sp vs H Q E->vs.length=ps.length)(a:∀(cdv:Value)(A:Around)(outer:List Env)(s:Shared)(H:Hp)(vs:List V)(Q:VK)(E:XK),jP k (A.deeper (envOfC qual (az st) s.heap.objs.size f cdv))->sp vs H Q E->∃t,wB (yQ Fw P w K mg base N qual (az st) f cdv A outer s H E).WK (gb st) t/\t {nx:=λ_ c=>Q .non c,rt:=Q} (start N vs) H):m9 P w K mg base Fw (k+1) f fd ps sp:=by obtain⟨oc,i,kV,e,j,l,cdv,ct,g,rfl,lk,b⟩:=F.ex;refine Wv lk b S len λA outer s H vs Q E hr hsp=>?_;obtain⟨t,h,q⟩:=a cdv A outer s H vs Q E hr hsp;exact⟨t,h.WK,q⟩
theorem iD.binds{x qual:Str}{st:Stmt}{f:Addr}{fd:FuncData}{ps:List Str}(F:iD K x qual st f fd)(h:∀(kV a b:Value)(c:Option Addr)(cdv ct:Value)(e:List Value),e.length=ps.length->bindArgs (PySem.W.fnOf x qual (iQ st) (gb st) (az st) .none kV a b c cdv ct) ⟨e,[]⟩=pure (ps.zip e)):Binds K fd ps []:=by obtain⟨oc,j,kV,a,b,c,cdv,ct,g,rfl,lk,i⟩:=F.ex;exact .all (h kV a b c cdv ct)
theorem Qs{x qual:Str}{st:Stmt}{f:Addr}{oc:Value}{h e:Option Addr}{b:Array (Option Value)}{kV a g cdv ct:Value}(l:K.lookup f=some ⟨oc,h,.func (PySem.W.fnOf x qual (iQ st) (gb st) (az st) .none kV a g e cdv ct),b⟩)(c:PySem.W.codeIn K cdv qual=true)(k:keepIn K (.ref f)=true):iD K x qual st f (PySem.W.fnOf x qual (iQ st) (gb st) (az st) .none kV a g e cdv ct):=⟨⟨oc,h,kV,a,g,e,cdv,ct,b,rfl,l,c⟩,k⟩
end
def aG(H a:Hp):Prop:=∀b o,H b=some o->a b=some o
theorem aG.refl(H:Hp):aG H H:=λ_ _ h=>h
theorem aG.trans{H e f:Hp}(a:aG H e)(b:aG e f):aG H f:=λc o h=>b c o (a c o h)
theorem aG.seq{K:PySem.W.Frag}{H b:Hp}{a:Addr}{xs:List V}(e:aG H b)(h:dN K H a xs):dN K b a xs:=by
 rcases h with(h|⟨o,h⟩)|h;.exact .inl (.inl (e _ _ h))
 .exact .inl (.inr ⟨o,e _ _ h⟩)
 .exact .inr h
end L2
end
section
namespace HH
open PySem
inductive Dc where|k(kvs:List (Int×Int))|t(kvs:List (List Int×Int))deriving DecidableEq
inductive D where|non|bl(b:Bool)|int(i:Int)|str(s:Str)|tup(ds:List D)|lst(ds:List D)|dH(m:Dc)|dv(ks:List Int)(ds:List D)deriving Inhabited
mutual
noncomputable def jo:D->D->Bool|.non,.non=>true|.bl a,.bl b=>a==b|.bl a,.int i=>(if a then(1:Int)else 0)==i|.int i,.bl a=>i==(if a then(1:Int)else 0)|.int i,.int j=>i==j|.str a,.str b=>a==b|.tup xs,.tup ys=>iw xs ys|.lst xs,.lst ys=>iw xs ys|.dH a,.dH b=>decide (a=b)|.dv a xs,.dv b ys=>decide (a=b)&&iw xs ys|_,_=>false
noncomputable def iw:List D->List D->Bool|[],[]=>true|x::xs,y::ys=>jo x y&&iw xs ys|_,_=>false
end
theorem lE:iw [] []=true:=rfl
theorem jg{x y:D}{xs ys:List D}:iw (x::xs) (y::ys)=(jo x y&&iw xs ys):=rfl
theorem qY{y:D}{ys:List D}:iw [] (y::ys)=false:=rfl
theorem qT{x:D}{xs:List D}:iw (x::xs) []=false:=rfl
theorem pqi{i j}:jo (.int i) (.int j)=(i==j):=(rfl)
theorem pqt{x y}:jo (.tup x) (.tup y)=iw x y:=(rfl)
theorem pql{x y}:jo (.lst x) (.lst y)=iw x y:=(rfl)
noncomputable def il:Nat->D->Bool|_,.non=>true|_,.bl _=>true|_,.int _=>true|_,.str _=>true|0,.tup _=>false|0,.lst _=>false|_,.dH _=>false|_,.dv _ _=>false|n+1,.tup ds=>ds.all (il n)|n+1,.lst ds=>ds.all (il n)
theorem bJ{n:Nat}{ds:List D}:il (n+1) (.tup ds)=ds.all (il n):=rfl
theorem bF{n:Nat}{ds:List D}:il (n+1) (.lst ds)=ds.all (il n):=rfl
theorem bM{n:Nat}{m:Dc}:il n (.dH m)=false:=by cases n<;>rfl
theorem bL{n:Nat}{k:List Int}{ds:List D}:il n (.dv k ds)=false:=by cases n<;>rfl
theorem bN{ds:List D}:il 0 (.tup ds)=false:=rfl
theorem bK{ds:List D}:il 0 (.lst ds)=false:=rfl
inductive Sl where|aQ|val(b:Bool)(d:D)|own(b:Bool)(ds:List D)|lent(ds:List D)|tY(m:Dc)|hold(rows:List (List D))|cN(kvs:List (Int×D))deriving Inhabited
inductive R where|val(d:D)|own(ds:List D)deriving Inhabited
noncomputable def R.d:R->D|.val d=>d|.own ds=>.lst ds
inductive Res(α:Type)where|ok(a:α)(ρ:List Sl)|exc(k:Nat)(ρ:List Sl)|stuck deriving Inhabited
noncomputable def Res.bind{b c:Type}(f:b->List Sl->Res c):Res b->Res c|.ok a ρ=>f a ρ|.exc _ _=>.stuck|.stuck=>.stuck
noncomputable def lift{b:Type}(o:Option b)(ρ:List Sl):Res b:=match o with|some a=>.ok a ρ|none=>.stuck
inductive Op where|add|sub|mul|fdiv|mod|pow|shl|shr|band|zM|din|adK deriving DecidableEq
inductive Cm where|eq|ne|lt|le|gt|ge|isN|Jg|inn|Cg|isT|Yt|leT deriving DecidableEq
inductive Ty where|int|bool|str|tuple|list|none deriving DecidableEq
inductive XH where|len|list|tuple|min2|max2|xH|Ef|sum|all|int|keys|Vs|rvT|Jh deriving DecidableEq
inductive P where|var(i:Nat)|con(d:D)|bin(o:Op)(a b:P)|neg(a:P)|not(a:P)|and(a b:P)|or(a b:P)|cmp(o:Cm)(a b:P)|chain(o o':Cm)(a b c:P)|Oq(c a b:P)|tup(as:List P)|lst(as:List P)|idx(a i:P)|slice(a lo hi:P)|call(f:Nat)(as:List P)|blt(b:XH)(as:List P)|inst(ts:List Ty)(a:P)|comp(src:P)(n:Nat)(is:List Nat)(one:Bool)(test:Option P)(elt:P)|rO(a b:P)|Vt(a:P)|zip(a b:P)|vw(x:Nat)|Ot(x:Nat)(k:P)|Ou(x:Nat)(k:P)(neg:Bool)|zN(k e:Int)|tZ(i:Nat)(a:P)(n:Nat)(is:List Nat)(one:Bool)(test:Option P)(elt:P)deriving Inhabited
noncomputable abbrev lim:Nat:=16777216
noncomputable def qy:D->D->Option R|.int i,.int j=>some (.val (.int (i+j)))|.lst xs,.lst ys=>if xs.length+ys.length<=lim then some (.own (xs++ys))else none|.tup xs,.tup ys=>if xs.length+ys.length<=lim then some (.val (.tup (xs++ys)))else none|.str x,.str y=>if x.length+y.length<=lim then some (.val (.str (x++y)))else none|_,_=>none
noncomputable def ju:D->D->Option R|.int i,.int j=>if((-18446744073709551616<i/\i<18446744073709551616)\/(-18446744073709551616<j/\j<18446744073709551616))then some (.val (.int (i*j)))else none|.lst xs,.int k=>if 0<=k/\0<xs.length/\xs.length*k.toNat<=lim then some (.own (replicate k.toNat xs).flatten)else none|.tup xs,.int k=>if 0<=k/\0<xs.length/\xs.length*k.toNat<=lim then some (.val (.tup (replicate k.toNat xs).flatten))else none|_,_=>none
noncomputable def wg:D->D->Option R|.int i,.int j=>some (.val (.int (i-j)))|_,_=>none
noncomputable def qz:D->D->Option R|.int i,.int j=>if 0<j/\j<1606938044258990275541962092341162602522202993782792835301376 then some (.val (.int (i/j)))else none|_,_=>none
noncomputable def vO:D->D->Option R|.int i,.int j=>if 0<j then some (.val (.int (i%j)))else none|_,_=>none
noncomputable def xx:D->D->Option R|.int i,.int j=>if 0<=j/\j<=1000/\i.natAbs<18446744073709551616 then some (.val (.int (i^j.toNat)))else none|_,_=>none
noncomputable def Ff:D->D->Option R|.int i,.int j=>if 0<=j/\j<=1000/\i.natAbs<18446744073709551616 then some (.val (.int (i*2^j.toNat)))else none|_,_=>none
noncomputable def GJ:D->D->Option R|.int i,.int j=>if 0<=j then some (.val (.int (i/2^j.toNat)))else none|_,_=>none
noncomputable def yP:D->D->Option R|.int i,.int j=>some (.val (.int (Builtin.bitAnd i j)))|_,_=>none
noncomputable def flat:D->Bool|.tup _=>false|.lst _=>false|.dH _=>false|.dv _ _=>false|_=>true
noncomputable def items:D->Option (List D)|.lst ds=>some ds|.tup ds=>some ds|_=>none
noncomputable def Qu:D->Option (List D)|.tup ds=>some ds|_=>none
noncomputable def yl(x y:D):Option Bool:=if il 8 x&&il 8 y then some (jo x y)else none
noncomputable def Iw(x y:D):Option Bool:=if il 8 x&&il 8 y then some (!jo x y)else none
noncomputable def Jt(f:Int->Int->Bool):D->D->Option Bool|.int i,.int j=>some (f i j)|_,_=>none
noncomputable def jz:D->Bool|.non=>true|_=>false
noncomputable def YT(neg:Bool)(x:D):D->Option Bool|.non=>some (if neg then !jz x else jz x)|_=>none
noncomputable def wM(neg:Bool)(x y:D):Option Bool:=(items y).bind λys=>if(flat x&&ys.all flat)=true then some (if neg then !(ys.any λy=>jo y x)else ys.any λy=>jo y x)else none
noncomputable def cmT(neg:Bool):D->D->Option Bool|.bl b,.bl true=>some (if neg then !b else b)|_,_=>none
noncomputable def cZ:List Int->List Int->Bool|[],_::_=>true|i::a,j::b=>decide (i<j)||(decide (i=j)&&cZ a b)|_,[]=>false
noncomputable def rH:D->Int|.int i=>i|_=>0
noncomputable def qd:D->List Int|.int i=>[i]|.tup ds=>ds.map rH|_=>[]
noncomputable def gP:D->Bool|.int _=>true|_=>false
noncomputable def Dc.get:Dc->D->Option (Option Int)|.k kvs,.int i=>some ((kvs.find? λa=>decide (a.1=i)).map (·.2))|_,_=>none
noncomputable def putD{b:Type}[DecidableEq b](kvs:List (b×Int))(k:b)(v:Int):List (b×Int):=if(kvs.any λa=>decide (a.1=k))=true then kvs.map (λa=>if a.1=k then(a.1,v)else a)else kvs++[(k,v)]
noncomputable def Dc.put:Dc->D->Int->Option Dc|.k kvs,.int i,v=>if kvs.length<lim then some (.k (putD kvs i v))else none|_,_,_=>none
noncomputable def lD(kvs:List (Int×D))(k:Int):Option D:=(kvs.find? λp=>decide (p.1=k)).map (·.2)
noncomputable def gf(kvs:List (Int×D))(k:Int)(d:D):List (Int×D):=if(kvs.any λp=>decide (p.1=k))=true then kvs.map (λp=>if p.1=k then(p.1,d)else p)else kvs++[(k,d)]
noncomputable def v9(neg:Bool):D->D->Option R|.int k,.dv ks _=>some (.val (.bl (if neg then !ks.contains k else ks.contains k)))|_,_=>none
noncomputable def BP:D->D->Option R|.dH m,k=>(m.get k).bind λo=>o.map λv=>.val (.int v)|.dv ks ds,.int k=>(lD (ks.zip ds) k).map .val|_,_=>none
noncomputable def rJ:Op->D->D->Option R|.add=>qy|.mul=>ju|.sub=>wg|.fdiv=>qz|.mod=>vO|.pow=>xx|.shl=>Ff|.shr=>GJ|.band=>yP|.zM=>BP|.din=>v9 false|.adK=>v9 true
noncomputable def WL:D->D->Option Bool|.int i,.int j=>some (decide (i<j))|.tup xs,.tup ys=>if(xs.all gP&&ys.all gP)=true then some (cZ (xs.map rH) (ys.map rH))else none|_,_=>none
noncomputable def abm:D->D->Option Bool|.int i,.int j=>some (decide (i<=j))|.tup xs,.tup ys=>if(xs.all gP&&ys.all gP)=true then some (!cZ (ys.map rH) (xs.map rH))else none|_,_=>none
noncomputable def cm:Cm->D->D->Option Bool|.eq=>yl|.ne=>Iw|.lt=>WL|.le=>Jt λi j=>decide (i<=j)|.leT=>abm|.gt=>Jt λi j=>decide (j<i)|.ge=>Jt λi j=>decide (j<=i)|.isN=>YT false|.Jg=>YT true|.inn=>wM false|.Cg=>wM true|.isT=>cmT false|.Yt=>cmT true
noncomputable def pg(o:Cm)(x y:D):Option R:=(cm o x y).map λk=>.val (.bl k)
noncomputable def Y5(ks:List Int)(k:Int):List Int:=if ks.contains k=true then ks else ks++[k]
noncomputable def iy(n:Nat)(i:Int):Option Nat:=if 0<=i then(if i<n then some i.toNat else none)else if-(n:Int)<=i then some (i+n).toNat else none
noncomputable def at'{a:Type}(xs:List a)(i:Int):Option a:=(iy xs.length i).bind λj=>xs[j]?
noncomputable def dB(n d:Nat):Option Int->Nat|none=>d|some i=>if 0<=i then min i.toNat n else(i+n).toNat
noncomputable def cut{a:Type}(xs:List a)(lo hi:Option Int):List a:=(xs.drop (dB xs.length 0 lo)).take (dB xs.length xs.length hi-dB xs.length 0 lo)
noncomputable def gn:D->Option Int|.int i=>some i|_=>none
noncomputable def zb:D->Option Bool|.bl b=>some b|_=>none
noncomputable def dl2(k e:Int)(x y:D):Option R:=(gn x).bind λi=>(gn y).bind λj=>if i=k then none else some (.val (.dv [k,i] [.int e,.int j]))
noncomputable def lixR:D->D->Option R|.lst ds,.int i=>(ds.mapM gn).bind λns=>if i∈ns/\ns.length<=1000 then some (.val (.int (ns.idxOf i)))else none|_,_=>none
noncomputable def Eb(x y:D):Option R:=(items x).bind λds=>(gn y).bind λi=>(at' ds i).map .val
noncomputable def FT(x:D):Option R:=(gn x).map λi=>.val (.int (-i))
noncomputable def Xh:P->Bool|.con .non=>true|_=>false
noncomputable def part(p:P)(d:D):Option (Option Int):=if Xh p then some none else(gn d).map some
noncomputable def yK:D->Option (Option Int)->Option (Option Int)->Option R|.lst xs,some lo,some hi=>some (.own (cut xs lo hi))|.tup xs,some lo,some hi=>some (.val (.tup (cut xs lo hi)))|_,_,_=>none
noncomputable def cQ:Ty->D->Bool|.int,.int _=>true|.int,.bl _=>true|.bool,.bl _=>true|.str,.str _=>true|.tuple,.tup _=>true|.list,.lst _=>true|.none,.non=>true|_,_=>false
noncomputable def yD:D->Bool|.tup (x::xs)=>(x::xs).all gP|_=>false
noncomputable def sortable(ds:List D):Bool:=decide (ds.length<=16777216)&&(ds.all gP||ds.all yD)
noncomputable def srt(ds:List D):List D:=ds.mergeSort λa b=>!cZ (qd b) (qd a)
noncomputable def yF:D->Option (List D)|.lst ds=>some ds|_=>none
noncomputable def prD(p:Int×Int):D:=.tup [.int p.1,.int p.2]
noncomputable def blt:XH->List D->Option R|.len,[x]=>(items x).map λds=>.val (.int ds.length)|.list,[x]=>(items x).map λds=>.own ds|.tuple,[x]=>(items x).map λds=>.val (.tup ds)|.min2,[.int i,.int j]=>some (.val (.int (if j<i then j else i)))|.max2,[.int i,.int j]=>some (.val (.int (if i<j then j else i)))|.xH,[x]=>((items x).bind λds=>ds.mapM gn).bind λns=>ns.min?.map λi=>.val (.int i)|.Ef,[x]=>((items x).bind λds=>ds.mapM gn).bind λns=>ns.max?.map λi=>.val (.int i)|.sum,[x]=>((items x).bind λds=>ds.mapM gn).map λns=>.val (.int ns.sum)|.Jh,[x]=>((items x).bind λds=>ds.mapM gn).map λns=>.val (.int (ns.max?.getD 0))|.all,[x]=>((yF x).bind λds=>ds.mapM zb).map λbs=>.val (.bl (bs.all id))|.int,[.int i]=>some (.val (.int i))|.int,[.bl b]=>some (.val (.int (if b then 1 else 0)))|.keys,[.dH (.k kvs)]=>some (.val (.tup (kvs.map λp=>.int p.1)))|.keys,[.dv ks _]=>some (.val (.tup (ks.map D.int)))|.Vs,[.dv ks _]=>if ks.length<=16777216 then some (.own (ks.map D.int))else none|.rvT,[.lst ds]=>some (.val (.tup ds.reverse))|_,_=>none
noncomputable def pk(ρ:List Sl)(i:Nat):Option D:=match ρ[i]?with|some (.val _ d)=>some d|some (.own _ ds)=>some (.lst ds)|some (.lent ds)=>some (.lst ds)|_=>none
noncomputable def zx(ρ:List Sl)(i:Nat):Option (List D):=match pk ρ i with|some (.lst ds)=>some ds|_=>none
noncomputable abbrev Ev:=List Sl->Res R
noncomputable def isVar:P->Option Nat|.var i=>some i|_=>none
noncomputable def cW(i:Option Nat)(e:Ev)(ρ:List Sl):Res D:=match i with|some i=>lift (pk ρ i) ρ|none=>(e ρ).bind λr ρ=>.ok r.d ρ
noncomputable def iu(i:Option Nat)(e:Ev)(j:Option Nat)(f:Ev)(ρ:List Sl):Res (D×D):=match i with|some i=>(lift (pk ρ i) ρ).bind λ_ ρ=>(cW j f ρ).bind λy ρ=>(lift (pk ρ i) ρ).bind λx ρ=>.ok (x,y) ρ|none=>(cW none e ρ).bind λx ρ=>(cW j f ρ).bind λy ρ=>.ok (x,y) ρ
noncomputable def iM(e:Ev)(ρ:List Sl):Res Bool:=(e ρ).bind λr ρ=>lift (zb r.d) ρ
inductive Arg where|dat(d:D)|tmp(ds:List D)|fH(i:Nat)
noncomputable def rY:R->Arg|.val d=>.dat d|.own ds=>.tmp ds
noncomputable def cj(ρ:List Sl):List Arg->List Nat->Option (List Sl)|[],_=>some []|.dat d::r,a=>(cj ρ r a).map λs=>.val false d::s|.tmp ds::r,a=>(cj ρ r a).map λs=>.own false ds::s|.fH i::r,a=>match ρ[i]?with|some (.val _ d)=>(cj ρ r a).map λs=>.val false d::s|some (.own _ ds)=>if a.contains i then none else(cj ρ r (i::a)).map λs=>.own true ds::s|some (.lent ds)=>if a.contains i then none else(cj ρ r (i::a)).map λs=>.lent ds::s|_=>none
theorem zq{ρ:List Sl}{u:List Nat}:cj ρ [] u=some []:=rfl
theorem zj{ρ:List Sl}{d:D}{r:List Arg}{u:List Nat}:cj ρ (.dat d::r) u=(cj ρ r u).map λs=>.val false d::s:=rfl
theorem yC{ρ:List Sl}{d:List D}{r:List Arg}{u:List Nat}:cj ρ (.tmp d::r) u=(cj ρ r u).map λs=>.own false d::s:=rfl
theorem qD{ρ:List Sl}{i:Nat}{r:List Arg}{u:List Nat}:cj ρ (.fH i::r) u=match ρ[i]?with|some (.val _ d)=>(cj ρ r u).map λs=>.val false d::s|some (.own _ ds)=>if u.contains i then none else(cj ρ r (i::u)).map λs=>.own true ds::s|some (.lent ds)=>if u.contains i then none else(cj ρ r (i::u)).map λs=>.lent ds::s|_=>none:=rfl
noncomputable def aY(i:Nat):List Arg->List Sl->Option Sl|.fH k::as,s::ss=>if k=i then some s else aY i as ss|.dat _::as,_::ss=>aY i as ss|.tmp _::as,_::ss=>aY i as ss|_,_=>none
noncomputable def dM:Sl->Option Sl->Sl|.own b _,some (.own _ ds)=>.own b ds|.own b _,some (.val _ d)=>.val b d|s,_=>s
noncomputable def eV(as:List Arg)(ss:List Sl):Nat->List Sl->List Sl|_,[]=>[]|i,s::ρ=>dM s (aY i as ss)::eV as ss (i+1) ρ
theorem qR{as:List Arg}{ss:List Sl}{i:Nat}:eV as ss i []=[]:=rfl
theorem lg{as:List Arg}{ss:List Sl}{i:Nat}{s:Sl}{ρ:List Sl}:eV as ss i (s::ρ)=dM s (aY i as ss)::eV as ss (i+1) ρ:=rfl
noncomputable abbrev Call:=Nat->List Sl->Res R
noncomputable def pR(c:Call)(f:Nat)(as:List Arg)(ρ:List Sl):Res R:=match cj ρ as []with|none=>.stuck|some args=>match c f args with|.ok r a=>.ok r (eV as a 0 ρ)|.exc _ _=>.stuck|.stuck=>.stuck
noncomputable def put(ρ:List Sl)(i:Nat)(s:Sl):Option (List Sl):=match ρ[i]?with|some .aQ=>some (ρ.set i s)|some (.val false _)=>some (ρ.set i s)|some (.own false _)=>some (ρ.set i s)|_=>none
noncomputable def putAll(ρ:List Sl):List Nat->List D->Option (List Sl)|[],[]=>some ρ|i::a,d::ds=>(put ρ i (.val false d)).bind λρ=>putAll ρ a ds|_,_=>none
theorem jG{ρ:List Sl}:putAll ρ [] []=some ρ:=rfl
theorem jc{ρ:List Sl}{i:Nat}{a:List Nat}{d:D}{ds:List D}:putAll ρ (i::a) (d::ds)=(put ρ i (.val false d)).bind λρ=>putAll ρ a ds:=rfl
theorem mX{ρ:List Sl}{i:Nat}{a:List Nat}:putAll ρ (i::a) []=none:=rfl
theorem m7{ρ:List Sl}{d:D}{ds:List D}:putAll ρ [] (d::ds)=none:=rfl
noncomputable def cI(ρ:List Sl)(a:List Nat)(one:Bool)(d:D):Option (List Sl):=match one,a,d with|true,[i],d=>put ρ i (.val false d)|false,a,.tup ds=>putAll ρ a ds|_,_,_=>none
noncomputable def srcOf(i:Option Nat)(e:Ev)(ρ:List Sl):Res (List D):=match i with
 |some i=>match ρ[i]?with|some (.val _ d)=>lift (items d) ρ|some (.own _ ds)=>.ok ds (ρ.set i (.lent ds))|some (.lent ds)=>.ok ds ρ|_=>.stuck
 |none=>(e ρ).bind λr ρ=>lift (items r.d) ρ
noncomputable def aU(a:List Sl)(i:Option Nat)(ρ:List Sl):List Sl:=match i with
 |some i=>match a[i]?with|some (.own b ds)=>ρ.set i (.own b ds)|_=>ρ
 |none=>ρ
noncomputable def Fv(i:Nat)(f:Ev)(ρ:List Sl):Res (List D×List Sl):=(f ρ).bind λr a=>(lift (items r.d) a).bind λes a=>match a[i]?with|some (.val _ d)=>(lift (items d) a).bind λds a=>.ok ((es.zip ds).map λp=>D.tup [p.1,p.2],a) a|some (.own _ ds)=>.ok ((es.zip ds).map λp=>D.tup [p.1,p.2],a) (a.set i (.lent ds))|some (.lent ds)=>.ok ((es.zip ds).map λp=>D.tup [p.1,p.2],a) a|_=>.stuck
noncomputable def turns(f:List Nat)(one:Bool)(a:List Sl->Res Bool)(e:Ev):List D->List D->List Sl->Res (List D)|[],c,ρ=>.ok c ρ|d::r,c,ρ=>match cI ρ f one d with|none=>.stuck|some ρ=>(a ρ).bind λb ρ=>if b then(e ρ).bind λx ρ=>turns f one a e r (c++[x.d]) ρ else turns f one a e r c ρ
theorem ye{b:List Nat}{o:Bool}{f:List Sl->Res Bool}{e:Ev}{a:List D}{ρ:List Sl}:turns b o f e [] a ρ=.ok a ρ:=rfl
theorem zB{c:List Nat}{o:Bool}{f:List Sl->Res Bool}{e:Ev}{d:D}{r a:List D}{ρ:List Sl}:turns c o f e (d::r) a ρ=match cI ρ c o d with|none=>.stuck|some ρ=>(f ρ).bind λb ρ=>if b then(e ρ).bind λx ρ=>turns c o f e r (a++[x.d]) ρ else turns c o f e r a ρ:=rfl
mutual
noncomputable def ev(c:Call):P->List Sl->Res R
 |.var i,ρ=>match ρ[i]?with|some (.val _ d)=>.ok (.val d) ρ|some (.own b ds)=>.ok (.val (.lst ds)) (ρ.set i (.val b (.lst ds)))|some (.tY (.k kvs))=>.ok (.val (.dH (.k kvs))) (ρ.set i (.val false (.dH (.k kvs))))|some (.cN kvs)=>.ok (.val (.dv (kvs.map (·.1)) (kvs.map (·.2)))) (ρ.set i (.val false (.dv (kvs.map (·.1)) (kvs.map (·.2)))))|_=>.stuck
 |.con d,ρ=>.ok (.val d) ρ|.bin o a b,ρ=>(iu (isVar a) (ev c a) (isVar b) (ev c b) ρ).bind λq ρ=>lift (rJ o q.1 q.2) ρ|.neg a,ρ=>(cW (isVar a) (ev c a) ρ).bind λx ρ=>lift (FT x) ρ|.not a,ρ=>(iM (ev c a) ρ).bind λb ρ=>.ok (.val (.bl (!b))) ρ|.and a b,ρ=>(iM (ev c a) ρ).bind λx ρ=>if x then(iM (ev c b) ρ).bind λy ρ=>.ok (.val (.bl y)) ρ else .ok (.val (.bl false)) ρ|.or a b,ρ=>(iM (ev c a) ρ).bind λx ρ=>if x then .ok (.val (.bl true)) ρ else(iM (ev c b) ρ).bind λy ρ=>.ok (.val (.bl y)) ρ|.cmp o a b,ρ=>(iu (isVar a) (ev c a) (isVar b) (ev c b) ρ).bind λq ρ=>lift (pg o q.1 q.2) ρ|.chain o C a b d,ρ=>(iu (isVar a) (ev c a) (isVar b) (ev c b) ρ).bind λq ρ=>(lift (if flat q.2=true then cm o q.1 q.2 else none) ρ).bind λk ρ=>if k then(cW (isVar d) (ev c d) ρ).bind λz ρ=>lift (pg C q.2 z) ρ else .ok (.val (.bl false)) ρ|.Oq t a b,ρ=>(iM (ev c t) ρ).bind λk ρ=>if k then(ev c a ρ).bind λr ρ=>.ok (.val r.d) ρ else(ev c b ρ).bind λr ρ=>.ok (.val r.d) ρ|.tup as,ρ=>(evs c as ρ).bind λds ρ=>.ok (.val (.tup ds)) ρ|.lst as,ρ=>(evs c as ρ).bind λds ρ=>.ok (.own ds) ρ|.idx a i,ρ=>(iu (isVar a) (ev c a) (isVar i) (ev c i) ρ).bind λq ρ=>lift (Eb q.1 q.2) ρ|.slice a l h,ρ=>match isVar a with|some i=>(lift (pk ρ i) ρ).bind λ_ ρ=>(cW (isVar l) (ev c l) ρ).bind λy ρ=>(cW (isVar h) (ev c h) ρ).bind λz ρ=>(lift (pk ρ i) ρ).bind λx ρ=>lift (yK x (part l y) (part h z)) ρ|none=>(cW none (ev c a) ρ).bind λx ρ=>(cW (isVar l) (ev c l) ρ).bind λy ρ=>(cW (isVar h) (ev c h) ρ).bind λz ρ=>lift (yK x (part l y) (part h z)) ρ
 |.call f as,ρ=>(ym c as ρ).bind λxs ρ=>pR c f xs ρ|.blt b [a],ρ=>(cW (isVar a) (ev c a) ρ).bind λx ρ=>lift (blt b [x]) ρ|.blt b as,ρ=>(evs c as ρ).bind λds ρ=>lift (blt b ds) ρ|.inst E a,ρ=>(cW (isVar a) (ev c a) ρ).bind λx ρ=>.ok (.val (.bl (E.any λt=>cQ t x))) ρ|.comp src n w one u v,ρ=>(srcOf (isVar src) (ev c src) ρ).bind λds g=>if ds.length<=lim then(turns w one (ou c u) (ev c v) ds [] (g++replicate n .aQ)).bind λxs s=>.ok (.own xs) (aU ρ (isVar src) (s.take g.length))else .stuck|.rO a b,ρ=>(iu (isVar a) (ev c a) (isVar b) (ev c b) ρ).bind λq ρ=>lift ((gn q.1).bind λi=>(gn q.2).bind λj=>if-1000000<=i/\i<=1000000000/\j<=1000000000/\-1000000000<=j then some (.val (.lst ((List.range (j-i).toNat).map λ(k:Nat)=>D.int (i+(k:Int)))))else none) ρ|.Vt a,ρ=>(ev c a ρ).bind λr ρ=>lift ((items r.d).map λds=>.val (.lst (ds.mapIdx λi d=>D.tup [.int (i:Int),d]))) ρ|.zip a b,ρ=>(ev c a ρ).bind λx ρ=>(ev c b ρ).bind λy ρ=>lift ((items x.d).bind λds=>(items y.d).map λes=>.val (.lst ((ds.zip es).map λp=>D.tup [p.1,p.2]))) ρ|.vw x,ρ=>match ρ[x]?with|some (.tY m)=>.ok (.val (.dH m)) (ρ.set x (.val false (.dH m)))|some (.cN kvs)=>.ok (.val (.dv (kvs.map (·.1)) (kvs.map (·.2)))) (ρ.set x (.val false (.dv (kvs.map (·.1)) (kvs.map (·.2)))))|some (.own b ds)=>.ok (.val (.lst ds)) (ρ.set x (.val b (.lst ds)))|some (.val _ d)=>.ok (.val d) ρ|_=>.stuck
 |.Ot x k,ρ=>match ρ[x]?with
   |some (.cN _)=>(cW (isVar k) (ev c k) ρ).bind λA ρ=>match ρ[x]?with|some (.cN kvs)=>lift ((gn A).bind λk=>(lD kvs k).map .val) ρ|_=>.stuck
   |_=>.stuck
 |.Ou x k neg,ρ=>(cW (isVar k) (ev c k) ρ).bind λA ρ=>match ρ[x]?with|some (.cN kvs)=>lift ((gn A).map λk=>.val (.bl (if neg then !(kvs.map (·.1)).contains k else(kvs.map (·.1)).contains k))) ρ|_=>.stuck
 |.zN k e,ρ=>.ok (.val (.dv [k] [.int e])) ρ|.tZ i a n w one u v,ρ=>(Fv i (ev c a) ρ).bind λB g=>if B.1.length<=lim then(turns w one (ou c u) (ev c v) B.1 [] (g++replicate n .aQ)).bind λxs s=>.ok (.own xs) (aU B.2 (some i) (s.take g.length))else .stuck
noncomputable def evs(c:Call):List P->List Sl->Res (List D)|[],ρ=>.ok [] ρ|a::r,ρ=>(ev c a ρ).bind λx ρ=>(evs c r ρ).bind λxs ρ=>.ok (x.d::xs) ρ
noncomputable def ym(c:Call):List P->List Sl->Res (List Arg)|[],ρ=>.ok [] ρ|a::r,ρ=>match isVar a with|some i=>(lift (pk ρ i) ρ).bind λ_ ρ=>(ym c r ρ).bind λxs ρ=>.ok (.fH i::xs) ρ|none=>(ev c a ρ).bind λx ρ=>(ym c r ρ).bind λxs ρ=>.ok (rY x::xs) ρ
noncomputable def ou(c:Call):Option P->List Sl->Res Bool|none,ρ=>.ok true ρ|some t,ρ=>iM (ev c t) ρ
end
theorem HW{c:Call}{ρ:List Sl}:evs c [] ρ=.ok [] ρ:=rfl
theorem vo{c:Call}{a:P}{r:List P}{ρ:List Sl}:evs c (a::r) ρ=(HH.ev c a ρ).bind λx ρ=>(evs c r ρ).bind λxs ρ=>.ok (x.d::xs) ρ:=rfl
theorem Ij{c:Call}{ρ:List Sl}:ym c [] ρ=.ok [] ρ:=rfl
theorem yj{c:Call}{a:P}{r:List P}{ρ:List Sl}:ym c (a::r) ρ=match isVar a with|some i=>(lift (pk ρ i) ρ).bind λ_ ρ=>(ym c r ρ).bind λxs ρ=>.ok (.fH i::xs) ρ|none=>(HH.ev c a ρ).bind λx ρ=>(ym c r ρ).bind λxs ρ=>.ok (rY x::xs) ρ:=rfl
theorem E1{c i ρ}:ev c (.var i) ρ=match ρ[i]?with|some (.val _ d)=>.ok (.val d) ρ|some (.own b ds)=>.ok (.val (.lst ds)) (ρ.set i (.val b (.lst ds)))|some (.tY (.k kvs))=>.ok (.val (.dH (.k kvs))) (ρ.set i (.val false (.dH (.k kvs))))|some (.cN kvs)=>.ok (.val (.dv (kvs.map (·.1)) (kvs.map (·.2)))) (ρ.set i (.val false (.dv (kvs.map (·.1)) (kvs.map (·.2)))))|_=>.stuck:=(rfl)
theorem E2{c d ρ}:ev c (.con d) ρ=.ok (.val d) ρ:=(rfl)
theorem E3{c o a b ρ}:ev c (.bin o a b) ρ=(iu (isVar a) (ev c a) (isVar b) (ev c b) ρ).bind λe ρ=>lift (rJ o e.1 e.2) ρ:=(rfl)
theorem E4{c a ρ}:ev c (.neg a) ρ=(cW (isVar a) (ev c a) ρ).bind λx ρ=>lift (FT x) ρ:=(rfl)
theorem E5{c a ρ}:ev c (.not a) ρ=(iM (ev c a) ρ).bind λb ρ=>.ok (.val (.bl (!b))) ρ:=(rfl)
theorem E6{c a b ρ}:ev c (.and a b) ρ=(iM (ev c a) ρ).bind λx ρ=>if x then(iM (ev c b) ρ).bind λy ρ=>.ok (.val (.bl y)) ρ else .ok (.val (.bl false)) ρ:=(rfl)
theorem E7{c a b ρ}:ev c (.or a b) ρ=(iM (ev c a) ρ).bind λx ρ=>if x then .ok (.val (.bl true)) ρ else(iM (ev c b) ρ).bind λy ρ=>.ok (.val (.bl y)) ρ:=(rfl)
theorem E8{c o a b ρ}:ev c (.cmp o a b) ρ=(iu (isVar a) (ev c a) (isVar b) (ev c b) ρ).bind λe ρ=>lift (pg o e.1 e.2) ρ:=(rfl)
theorem E9{c o o' a b d ρ}:ev c (.chain o o' a b d) ρ=(iu (isVar a) (ev c a) (isVar b) (ev c b) ρ).bind λe ρ=>(lift (if flat e.2=true then cm o e.1 e.2 else none) ρ).bind λk ρ=>if k then(cW (isVar d) (ev c d) ρ).bind λz ρ=>lift (pg o' e.2 z) ρ else .ok (.val (.bl false)) ρ:=(rfl)
theorem E10{c t a b ρ}:ev c (.Oq t a b) ρ=(iM (ev c t) ρ).bind λk ρ=>if k then(ev c a ρ).bind λr ρ=>.ok (.val r.d) ρ else(ev c b ρ).bind λr ρ=>.ok (.val r.d) ρ:=(rfl)
theorem E11{c as ρ}:ev c (.tup as) ρ=(evs c as ρ).bind λds ρ=>.ok (.val (.tup ds)) ρ:=(rfl)
theorem E12{c as ρ}:ev c (.lst as) ρ=(evs c as ρ).bind λds ρ=>.ok (.own ds) ρ:=(rfl)
theorem E13{c a i ρ}:ev c (.idx a i) ρ=(iu (isVar a) (ev c a) (isVar i) (ev c i) ρ).bind λb ρ=>lift (Eb b.1 b.2) ρ:=(rfl)
theorem E14{c a l h ρ}:ev c (.slice a l h) ρ=match isVar a with|some i=>(lift (pk ρ i) ρ).bind λ_ ρ=>(cW (isVar l) (ev c l) ρ).bind λy ρ=>(cW (isVar h) (ev c h) ρ).bind λz ρ=>(lift (pk ρ i) ρ).bind λx ρ=>lift (yK x (part l y) (part h z)) ρ|none=>(cW none (ev c a) ρ).bind λx ρ=>(cW (isVar l) (ev c l) ρ).bind λy ρ=>(cW (isVar h) (ev c h) ρ).bind λz ρ=>lift (yK x (part l y) (part h z)) ρ:=(rfl)
theorem E15{c f as ρ}:ev c (.call f as) ρ=(ym c as ρ).bind λxs ρ=>pR c f xs ρ:=(rfl)
theorem E16{c b a ρ}:ev c (.blt b [a]) ρ=(cW (isVar a) (ev c a) ρ).bind λx ρ=>lift (blt b [x]) ρ:=(rfl)
theorem E17{c b x y r ρ}:ev c (.blt b (x::y::r)) ρ=(evs c (x::y::r) ρ).bind λds ρ=>lift (blt b ds) ρ:=(rfl)
theorem VH{c b ρ}:ev c (.blt b []) ρ=(evs c [] ρ).bind λds ρ=>lift (blt b ds) ρ:=(rfl)
theorem E18{c ts a ρ}:ev c (.inst ts a) ρ=(cW (isVar a) (ev c a) ρ).bind λx ρ=>.ok (.val (.bl (ts.any λt=>cQ t x))) ρ:=(rfl)
theorem E19{c src n is one test elt ρ}:ev c (.comp src n is one test elt) ρ=(srcOf (isVar src) (ev c src) ρ).bind λds a=>if ds.length<=lim then(turns is one (ou c test) (ev c elt) ds [] (a++replicate n .aQ)).bind λxs b=>.ok (.own xs) (aU ρ (isVar src) (b.take a.length))else .stuck:=(rfl)
theorem E20{c a b ρ}:ev c (.rO a b) ρ=(iu (isVar a) (ev c a) (isVar b) (ev c b) ρ).bind λe ρ=>lift ((gn e.1).bind λi=>(gn e.2).bind λj=>if-1000000<=i/\i<=1000000000/\j<=1000000000/\-1000000000<=j then some (.val (.lst ((List.range (j-i).toNat).map λ(k:Nat)=>D.int (i+(k:Int)))))else none) ρ:=(rfl)
theorem E21{c a ρ}:ev c (.Vt a) ρ=(ev c a ρ).bind λr ρ=>lift ((items r.d).map λds=>.val (.lst (ds.mapIdx λi d=>D.tup [.int (i:Int),d]))) ρ:=(rfl)
theorem E22{c a b ρ}:ev c (.zip a b) ρ=(ev c a ρ).bind λx ρ=>(ev c b ρ).bind λy ρ=>lift ((items x.d).bind λds=>(items y.d).map λes=>.val (.lst ((ds.zip es).map λp=>D.tup [p.1,p.2]))) ρ:=(rfl)
theorem E23{c x ρ}:ev c (.vw x) ρ=match ρ[x]?with|some (.tY m)=>.ok (.val (.dH m)) (ρ.set x (.val false (.dH m)))|some (.cN kvs)=>.ok (.val (.dv (kvs.map (·.1)) (kvs.map (·.2)))) (ρ.set x (.val false (.dv (kvs.map (·.1)) (kvs.map (·.2)))))|some (.own b ds)=>.ok (.val (.lst ds)) (ρ.set x (.val b (.lst ds)))|some (.val _ d)=>.ok (.val d) ρ|_=>.stuck:=(rfl)
theorem E24{c x k ρ}:ev c (.Ot x k) ρ=match ρ[x]?with
 |some (.cN _)=>(cW (isVar k) (ev c k) ρ).bind λa ρ=>match ρ[x]?with|some (.cN kvs)=>lift ((gn a).bind λk=>(lD kvs k).map .val) ρ|_=>.stuck
 |_=>.stuck:=(rfl)
theorem E25{c x k neg ρ}:ev c (.Ou x k neg) ρ=(cW (isVar k) (ev c k) ρ).bind λa ρ=>match ρ[x]?with|some (.cN kvs)=>lift ((gn a).map λk=>.val (.bl (if neg then !(kvs.map (·.1)).contains k else(kvs.map (·.1)).contains k))) ρ|_=>.stuck:=(rfl)
theorem E26{c k e ρ}:ev c (.zN k e) ρ=.ok (.val (.dv [k] [.int e])) ρ:=(rfl)
theorem E27{c i a n is one test elt ρ}:ev c (.tZ i a n is one test elt) ρ=(Fv i (ev c a) ρ).bind λf b=>if f.1.length<=lim then(turns is one (ou c test) (ev c elt) f.1 [] (b++replicate n .aQ)).bind λxs e=>.ok (.own xs) (aU f.2 (some i) (e.take b.length))else .stuck:=(rfl)
inductive S where|pass|brk|cont|bad|expr(e:P)|asg(i:Nat)(e:P)|par(i j:Nat)(a b:P)|Yu(i:List Nat)(e:P)|xJ(x:Nat)(i e:P)|app(x:Nat)(e:P)|ret(e:P)|Yv|ifs(c:P)(a b:List S)|iI(src:P)(i:List Nat)(one:Bool)(body:List S)|whl(c:P)(body:List S)|aug(x:Nat)(sub:Bool)(e:P)|Ji(x:Nat)(i:P)(sub:Bool)(e:P)|ins(x:Nat)(i e:P)|Jj(x:Nat)(src:P)(k:Nat)(is:List Nat)(one:Bool)(elt:P)|Jk(x:Nat)(i e:P)|Eg(src:P)(is:List Nat)(one:Bool)(body:List S)|cM(x:Nat)|Eh(x:Nat)|Jl(x:Nat)(k e:Int)|gf(x:Nat)(k e:P)deriving Inhabited
inductive Fl where|next|brk|cont|ret(r:R)deriving Inhabited
noncomputable def yI:R->Sl|.val d=>.val false d|.own ds=>.own false ds
noncomputable def iZ(a:List Nat)(one:Bool)(body:List Sl->Res Fl):List D->List Sl->Res Fl|[],ρ=>.ok .next ρ|d::r,ρ=>match cI ρ a one d with|none=>.stuck|some ρ=>(body ρ).bind λfl ρ=>match fl with|.next=>iZ a one body r ρ|.cont=>iZ a one body r ρ|.brk=>.ok .next ρ|.ret r=>.ok (.ret r) ρ
theorem Io{a:List Nat}{o:Bool}{b:List Sl->Res Fl}{ρ:List Sl}:iZ a o b [] ρ=.ok .next ρ:=rfl
theorem yh{a:List Nat}{o:Bool}{b:List Sl->Res Fl}{d:D}{r:List D}{ρ:List Sl}:iZ a o b (d::r) ρ=match cI ρ a o d with|none=>.stuck|some ρ=>(b ρ).bind λfl ρ=>match fl with|.next=>iZ a o b r ρ|.cont=>iZ a o b r ρ|.brk=>.ok .next ρ|.ret r=>.ok (.ret r) ρ:=rfl
noncomputable def qP(a:List Sl->Res Bool)(body:List Sl->Res Fl):Nat->List Sl->Res Fl|0,_=>.stuck|n+1,ρ=>(a ρ).bind λb ρ=>if b then(body ρ).bind λfl ρ=>match fl with|.next=>qP a body n ρ|.cont=>qP a body n ρ|.brk=>.ok .next ρ|.ret r=>.ok (.ret r) ρ else .ok .next ρ
theorem Sy{f:List Sl->Res Bool}{b:List Sl->Res Fl}{ρ:List Sl}:qP f b 0 ρ=.stuck:=rfl
theorem GQ{f:List Sl->Res Bool}{b:List Sl->Res Fl}{n:Nat}{ρ:List Sl}:qP f b (n+1) ρ=(f ρ).bind λx ρ=>if x then(b ρ).bind λfl ρ=>match fl with|.next=>qP f b n ρ|.cont=>qP f b n ρ|.brk=>.ok .next ρ|.ret r=>.ok (.ret r) ρ else .ok .next ρ:=rfl
noncomputable def gw(c:List Nat)(one:Bool)(b:Ev):List D->List (List D)->List Sl->Res (List (List D))|[],a,ρ=>.ok a ρ|d::r,a,ρ=>match cI ρ c one d with|none=>.stuck|some ρ=>(b ρ).bind λx ρ=>match x with|.own ds=>gw c one b r (a++[ds]) ρ|.val _=>.stuck
theorem IV{b:List Nat}{o:Bool}{e:Ev}{a:List (List D)}{ρ:List Sl}:gw b o e [] a ρ=.ok a ρ:=rfl
theorem G9{b:List Nat}{o:Bool}{e:Ev}{d:D}{r:List D}{a:List (List D)}{ρ:List Sl}:gw b o e (d::r) a ρ=match cI ρ b o d with|none=>.stuck|some ρ=>(e ρ).bind λx ρ=>match x with|.own ds=>gw b o e r (a++[ds]) ρ|.val _=>.stuck:=rfl
noncomputable def rowAt(a:List (List D))(k:Int):Option (List D):=(iy a.length k).bind λr=>a[r]?
noncomputable def jr(a:List (List D))(k:Int)(f:List D->Option (List D)):Option (List (List D)):=(iy a.length k).bind λr=>(a[r]?).bind λrow=>(f row).map λb=>a.set r b
noncomputable def setAt(l:Int)(d:D)(row:List D):Option (List D):=(iy row.length l).map λm=>row.set m d
noncomputable def ji(ρ:List Sl)(x:Nat):Option (List (List D)):=match ρ[x]?with|some (.hold a)=>some a|_=>none
noncomputable def um(ρ:List Sl)(x:Nat)(k:D):Option (List D):=(ji ρ x).bind λa=>(gn k).bind λk=>rowAt a k
noncomputable def Cw(ρ:List Sl)(x:Nat)(o:Option (List (List D))):Res Fl:=match o with|some a=>.ok .next (ρ.set x (.hold a))|none=>.stuck
noncomputable def rowOne(x r:Nat)(b c e:List Sl->Res D)(ρ:List Sl):Res Fl:=(c ρ).bind λk ρ=>(lift ((ji ρ x).bind λa=>(a[r]?).bind λrow=>(gn k).bind λk=>(at' row k).bind gn) ρ).bind λu ρ=>(e ρ).bind λl ρ=>(lift ((ji ρ x).bind λa=>(a[r]?).bind λrow=>(gn l).bind λl=>(at' row l).bind gn) ρ).bind λv ρ=>(b ρ).bind λj ρ=>Cw ρ x ((ji ρ x).bind λa=>(a[r]?).bind λrow=>(gn j).bind λj=>(setAt j (.int (u+v)) row).map λf=>a.set r f)
noncomputable def PK(x y:Nat)(a b c:List Sl->Res D):Nat->Nat->List Sl->Res Fl|0,_,ρ=>.ok .next ρ|m+1,r,ρ=>(lift (put ρ y .aQ) ρ).bind λρ _=>(rowOne x r a b c ρ).bind λ_ ρ=>PK x y a b c m (r+1) ρ
noncomputable def Pn(b:List Nat)(one:Bool)(body:List Sl->Res Fl)(c:List Sl->Option (Nat×List Sl)):List D->List Sl->Option (Nat×List Sl)|[],_=>none|d::r,ρ=>match cI ρ b one d with|none=>none|some ρ=>match c ρ with|some x=>some x|none=>match body ρ with|.ok .next a=>Pn b one body c r a|.ok .cont a=>Pn b one body c r a|_=>none
noncomputable def QL:P->P|.idx a _=>a|e=>e
noncomputable def Nr(c:Call)(e:P)(ρ:List Sl):Option (Nat×List Sl):=match QL e with
 |.call f as=>match ym c as ρ with
   |.ok xs b=>match cj b xs []with
     |some args=>match c f args with|.exc k a=>some (k,eV xs a 0 b)|_=>none
     |none=>none
   |_=>none
 |_=>none
mutual
noncomputable def ex(c:Call)(n:Nat):S->List Sl->Res Fl
 |.pass,ρ=>.ok .next ρ|.brk,ρ=>.ok .brk ρ|.cont,ρ=>.ok .cont ρ|.bad,_=>.stuck|.expr e,ρ=>(ev c e ρ).bind λ_ ρ=>.ok .next ρ|.asg i e,ρ=>(ev c e ρ).bind λr ρ=>(lift (put ρ i (yI r)) ρ).bind λg _=>.ok .next g|.par i j a b,ρ=>(ev c a ρ).bind λx ρ=>(ev c b ρ).bind λy ρ=>(lift ((put ρ i (.val false x.d)).bind λρ=>put ρ j (.val false y.d)) ρ).bind λg _=>.ok .next g|.Yu o e,ρ=>(ev c e ρ).bind λr ρ=>match r.d with|.tup ds=>(lift (putAll ρ o ds) ρ).bind λg _=>.ok .next g|_=>.stuck
 |.xJ x i e,ρ=>(ev c e ρ).bind λr ρ=>(lift (pk ρ x) ρ).bind λ_ ρ=>(cW (isVar i) (ev c i) ρ).bind λk ρ=>match ρ[x]?,k with
   |some (.own b ds),.int k=>match iy ds.length k with|some j=>.ok .next (ρ.set x (.own b (ds.set j r.d)))|none=>.stuck
   |_,_=>.stuck
 |.app x e,ρ=>(lift (zx ρ x) ρ).bind λ_ ρ=>(ev c e ρ).bind λr ρ=>match ρ[x]?with|some (.own b ds)=>if ds.length<lim then .ok .next (ρ.set x (.own b (ds++[r.d])))else .stuck|_=>.stuck
 |.ret e,ρ=>match isVar e with
   |some i=>match ρ[i]?with|some (.own false ds)=>.ok (.ret (.own ds)) (ρ.set i .aQ)|_=>(ev c e ρ).bind λr ρ=>.ok (.ret r) ρ
   |none=>(ev c e ρ).bind λr ρ=>.ok (.ret r) ρ
 |.Yv,ρ=>.ok (.ret (.val .non)) ρ|.ifs t a b,ρ=>(iM (ev c t) ρ).bind λk ρ=>if k then iJ c n a ρ else iJ c n b ρ|.iI src o one body,ρ=>(srcOf (isVar src) (ev c src) ρ).bind λds f=>(iZ o one (iJ c n body) ds f).bind λfl m=>.ok fl (aU ρ (isVar src) m)|.whl t body,ρ=>qP (iM (ev c t)) (iJ c n body) n ρ|.aug x sub e,ρ=>(lift (pk ρ x) ρ).bind λa ρ=>(cW (isVar e) (ev c e) ρ).bind λb ρ=>match a,b with|.int i,.int j=>(lift (put ρ x (.val false (.int (if sub then i-j else i+j)))) ρ).bind λg _=>.ok .next g|_,_=>.stuck
 |.Ji x i sub e,ρ=>(lift (zx ρ x) ρ).bind λ_ ρ=>(cW (isVar i) (ev c i) ρ).bind λk ρ=>(lift (zx ρ x) ρ).bind λl ρ=>(lift ((gn k).bind λi=>at' l i) ρ).bind λa ρ=>(cW (isVar e) (ev c e) ρ).bind λb ρ=>match a,b,ρ[x]?,k with
   |.int u,.int v,some (.own q ds),.int k=>match iy ds.length k with|some j=>.ok .next (ρ.set x (.own q (ds.set j (.int (if sub then u-v else u+v)))))|none=>.stuck
   |_,_,_,_=>.stuck
 |.ins x i e,ρ=>(lift (zx ρ x) ρ).bind λ_ ρ=>(cW (isVar i) (ev c i) ρ).bind λk ρ=>(ev c e ρ).bind λr ρ=>match ρ[x]?,k with|some (.own b ds),.int j=>if 0<=j/\j<=1000000/\ds.length<lim then .ok .next (ρ.set x (.own b (ds.take j.toNat++r.d::ds.drop j.toNat)))else .stuck|_,_=>.stuck
 |.Jj x src k o one p,ρ=>(srcOf (isVar src) (ev c src) ρ).bind λds f=>if ds.length<=lim then(gw o one (ev c p) ds [] (f++replicate k .aQ)).bind λh m=>(lift (put (aU ρ (isVar src) (m.take f.length)) x (.hold h)) ρ).bind λg _=>.ok .next g else .stuck|.Jk x i e,ρ=>(cW (isVar i) (ev c i) ρ).bind λk ρ=>(lift (um ρ x k) ρ).bind λ_ ρ=>(ev c e ρ).bind λr ρ=>Cw ρ x ((ji ρ x).bind λh=>(gn k).bind λk=>jr h k λrow=>if row.length<lim then some (row++[r.d])else none)|.Eg src o one body,ρ=>(ev c src ρ).bind λr f=>(lift (items r.d) f).bind λds f=>iZ o one (iJ c n body) ds f|.cM x,ρ=>match ρ[x]?with|some (.hold h)=>.ok .next (ρ.set x (.val false (.lst (h.map D.lst))))|_=>.stuck
 |.Eh x,ρ=>match ρ[x]?with|some .aQ=>.ok .next (ρ.set x (.cN []))|some (.cN _)=>.ok .next (ρ.set x (.cN []))|some (.val false _)=>.ok .next (ρ.set x (.cN []))|_=>.stuck
 |.Jl x k e,ρ=>match ρ[x]?with|some .aQ=>.ok .next (ρ.set x (.cN [(k,.int e)]))|some (.cN _)=>.ok .next (ρ.set x (.cN [(k,.int e)]))|some (.val false _)=>.ok .next (ρ.set x (.cN [(k,.int e)]))|_=>.stuck
 |.gf x k e,ρ=>(ev c e ρ).bind λr ρ=>match ρ[x]?with
   |some (.cN _)=>(cW (isVar k) (ev c k) ρ).bind λs ρ=>match ρ[x]?,s with|some (.cN kvs),.int k=>if kvs.length<lim then .ok .next (ρ.set x (.cN (gf kvs k r.d)))else .stuck|_,_=>.stuck
   |_=>.stuck
noncomputable def iJ(c:Call)(n:Nat):List S->List Sl->Res Fl|[],ρ=>.ok .next ρ|s::r,ρ=>(ex c n s ρ).bind λfl ρ=>match fl with|.next=>iJ c n r ρ|fl=>.ok fl ρ
noncomputable def exX(c:Call)(n:Nat):S->List Sl->Option (Nat×List Sl)
 |.ifs t a b,ρ=>match iM (ev c t) ρ with|.ok x f=>if x then Ih c n a f else Ih c n b f|_=>none
 |.iI src g one body,ρ=>match srcOf (isVar src) (ev c src) ρ with|.ok ds f=>(Pn g one (iJ c n body) (Ih c n body) ds f).map λx=>(x.1,aU ρ (isVar src) x.2)|_=>none
 |.asg _ e,ρ=>Nr c e ρ|.expr e,ρ=>Nr c e ρ|_,_=>none
noncomputable def Ih(c:Call)(n:Nat):List S->List Sl->Option (Nat×List Sl)|[],_=>none|s::r,ρ=>match exX c n s ρ with|some x=>some x|none=>match ex c n s ρ with|.ok .next a=>Ih c n r a|_=>none
end
theorem X1{c n ρ}:ex c n (.pass) ρ=.ok .next ρ:=(rfl)
theorem X2{c n ρ}:ex c n (.brk) ρ=.ok .brk ρ:=(rfl)
theorem X3{c n ρ}:ex c n (.cont) ρ=.ok .cont ρ:=(rfl)
theorem X4{c n ρ}:ex c n (.bad) ρ=.stuck:=(rfl)
theorem X5{c n e ρ}:ex c n (.expr e) ρ=(ev c e ρ).bind λ_ ρ=>.ok .next ρ:=(rfl)
theorem X6{c n i e ρ}:ex c n (.asg i e) ρ=(ev c e ρ).bind λr ρ=>(lift (put ρ i (yI r)) ρ).bind λa _=>.ok .next a:=(rfl)
theorem X7{c n i j a b ρ}:ex c n (.par i j a b) ρ=(ev c a ρ).bind λx ρ=>(ev c b ρ).bind λy ρ=>(lift ((put ρ i (.val false x.d)).bind λρ=>put ρ j (.val false y.d)) ρ).bind λe _=>.ok .next e:=(rfl)
theorem X8{c n is e ρ}:ex c n (.Yu is e) ρ=(ev c e ρ).bind λr ρ=>match r.d with|.tup ds=>(lift (putAll ρ is ds) ρ).bind λa _=>.ok .next a|_=>.stuck:=(rfl)
theorem X9{c n x i e ρ}:ex c n (.xJ x i e) ρ=(ev c e ρ).bind λr ρ=>(lift (pk ρ x) ρ).bind λ_ ρ=>(cW (isVar i) (ev c i) ρ).bind λk ρ=>match ρ[x]?,k with
 |some (.own b ds),.int k=>match iy ds.length k with|some j=>.ok .next (ρ.set x (.own b (ds.set j r.d)))|none=>.stuck
 |_,_=>.stuck:=(rfl)
theorem X10{c n x e ρ}:ex c n (.app x e) ρ=(lift (zx ρ x) ρ).bind λ_ ρ=>(ev c e ρ).bind λr ρ=>match ρ[x]?with|some (.own b ds)=>if ds.length<lim then .ok .next (ρ.set x (.own b (ds++[r.d])))else .stuck|_=>.stuck:=(rfl)
theorem Zb{c n e ρ}:ex c n (.ret e) ρ=match isVar e with
 |some i=>match ρ[i]?with|some (.own false ds)=>.ok (.ret (.own ds)) (ρ.set i .aQ)|_=>(ev c e ρ).bind λr ρ=>.ok (.ret r) ρ
 |none=>(ev c e ρ).bind λr ρ=>.ok (.ret r) ρ:=(rfl)
theorem X12{c n ρ}:ex c n (.Yv) ρ=.ok (.ret (.val .non)) ρ:=(rfl)
theorem X13{c n t a b ρ}:ex c n (.ifs t a b) ρ=(iM (ev c t) ρ).bind λk ρ=>if k then iJ c n a ρ else iJ c n b ρ:=(rfl)
theorem X14{c n src is one body ρ}:ex c n (.iI src is one body) ρ=(srcOf (isVar src) (ev c src) ρ).bind λds a=>(iZ is one (iJ c n body) ds a).bind λfl b=>.ok fl (aU ρ (isVar src) b):=(rfl)
theorem X15{c n t body ρ}:ex c n (.whl t body) ρ=qP (iM (ev c t)) (iJ c n body) n ρ:=(rfl)
theorem X16{c n x sub e ρ}:ex c n (.aug x sub e) ρ=(lift (pk ρ x) ρ).bind λa ρ=>(cW (isVar e) (ev c e) ρ).bind λb ρ=>match a,b with|.int i,.int j=>(lift (put ρ x (.val false (.int (if sub then i-j else i+j)))) ρ).bind λf _=>.ok .next f|_,_=>.stuck:=(rfl)
theorem X17{c n x i sub e ρ}:ex c n (.Ji x i sub e) ρ=(lift (zx ρ x) ρ).bind λ_ ρ=>(cW (isVar i) (ev c i) ρ).bind λk ρ=>(lift (zx ρ x) ρ).bind λl ρ=>(lift ((gn k).bind λi=>at' l i) ρ).bind λa ρ=>(cW (isVar e) (ev c e) ρ).bind λb ρ=>match a,b,ρ[x]?,k with
 |.int u,.int v,some (.own f ds),.int k=>match iy ds.length k with|some j=>.ok .next (ρ.set x (.own f (ds.set j (.int (if sub then u-v else u+v)))))|none=>.stuck
 |_,_,_,_=>.stuck:=(rfl)
theorem X18{c n x i e ρ}:ex c n (.ins x i e) ρ=(lift (zx ρ x) ρ).bind λ_ ρ=>(cW (isVar i) (ev c i) ρ).bind λk ρ=>(ev c e ρ).bind λr ρ=>match ρ[x]?,k with|some (.own b ds),.int j=>if 0<=j/\j<=1000000/\ds.length<lim then .ok .next (ρ.set x (.own b (ds.take j.toNat++r.d::ds.drop j.toNat)))else .stuck|_,_=>.stuck:=(rfl)
theorem X19{c n x src k is one elt ρ}:ex c n (.Jj x src k is one elt) ρ=(srcOf (isVar src) (ev c src) ρ).bind λds a=>if ds.length<=lim then(gw is one (ev c elt) ds [] (a++replicate k .aQ)).bind λe b=>(lift (put (aU ρ (isVar src) (b.take a.length)) x (.hold e)) ρ).bind λf _=>.ok .next f else .stuck:=(rfl)
theorem X20{c n x i e ρ}:ex c n (.Jk x i e) ρ=(cW (isVar i) (ev c i) ρ).bind λk ρ=>(lift (um ρ x k) ρ).bind λ_ ρ=>(ev c e ρ).bind λr ρ=>Cw ρ x ((ji ρ x).bind λa=>(gn k).bind λk=>jr a k λrow=>if row.length<lim then some (row++[r.d])else none):=(rfl)
theorem X21{c n src is one body ρ}:ex c n (.Eg src is one body) ρ=(ev c src ρ).bind λr a=>(lift (items r.d) a).bind λds a=>iZ is one (iJ c n body) ds a:=(rfl)
theorem X22{c n x ρ}:ex c n (.cM x) ρ=match ρ[x]?with|some (.hold a)=>.ok .next (ρ.set x (.val false (.lst (a.map D.lst))))|_=>.stuck:=(rfl)
theorem X23{c n x ρ}:ex c n (.Eh x) ρ=match ρ[x]?with|some .aQ=>.ok .next (ρ.set x (.cN []))|some (.cN _)=>.ok .next (ρ.set x (.cN []))|some (.val false _)=>.ok .next (ρ.set x (.cN []))|_=>.stuck:=(rfl)
theorem X24{c n x k e ρ}:ex c n (.Jl x k e) ρ=match ρ[x]?with|some .aQ=>.ok .next (ρ.set x (.cN [(k,.int e)]))|some (.cN _)=>.ok .next (ρ.set x (.cN [(k,.int e)]))|some (.val false _)=>.ok .next (ρ.set x (.cN [(k,.int e)]))|_=>.stuck:=(rfl)
theorem X25{c n x k e ρ}:ex c n (.gf x k e) ρ=(ev c e ρ).bind λr ρ=>match ρ[x]?with
 |some (.cN _)=>(cW (isVar k) (ev c k) ρ).bind λa ρ=>match ρ[x]?,a with|some (.cN kvs),.int k=>if kvs.length<lim then .ok .next (ρ.set x (.cN (gf kvs k r.d)))else .stuck|_,_=>.stuck
 |_=>.stuck:=(rfl)
structure Fd where
 np:Nat
 nn:Nat
 body:List S deriving Inhabited
noncomputable abbrev Tab:=Nat->Option Fd
noncomputable def enter(c:Call)(n:Nat)(d:Fd)(args:List Sl):Res R:=if args.length=d.np/\d.np<=d.nn then match iJ c n d.body (args++replicate (d.nn-d.np) .aQ)with|.ok .next ρ=>.ok (.val .non) (ρ.take d.np)|.ok (.ret r) ρ=>.ok r (ρ.take d.np)|_=>match Ih c n d.body (args++replicate (d.nn-d.np) .aQ)with|some (k,ρ)=>.exc k (ρ.take d.np)|none=>.stuck else .stuck
noncomputable def run(Γ:Tab)(w:Nat):Nat->Call|0,_,_=>.stuck|n+1,f,args=>match Γ f with|some d=>enter (run Γ w n) w d args|none=>.stuck
end HH
end
section
namespace HH
open PySem L2
variable{ρ:List Sl}{σ:St}{v:V}
noncomputable def Dc.ho:Dc->HO|.k kvs=>.dK (kvs.map λp=>(Sum.inl p.1,V.int p.2))|.t kvs=>.dT (kvs.map λp=>(p.1.map Sum.inl,V.int p.2))
noncomputable def BV(ks:List Int)(vs:List V):HO:=.dK ((ks.zip vs).map λp=>(Sum.inl p.1,p.2))
section
variable(K:PySem.W.Frag)
mutual
def Rep(F:Hp):V->D->Prop|v,.non=>v=.non|v,.bl b=>v=.bl b|v,.int i=>v=.int i|v,.str x=>v=.str x|v,.tup ds=>∃a xs,v=.ref a/\iB K F a xs/\aF F xs ds|v,.lst ds=>∃a xs,v=.ref a/\dN K F a xs/\aF F xs ds|v,.dH m=>∃a o,v=.ref a/\F a=some (.cM o m.ho)|v,.dv ks ds=>∃a o vs,v=.ref a/\F a=some (.cM o (BV ks vs))/\aF F vs ds/\ks.length=ds.length
def aF(F:Hp):List V->List D->Prop|vs,[]=>vs=[]|vs,d::ds=>∃v r,vs=v::r/\Rep F v d/\aF F r ds
end
end
section
variable{K:PySem.W.Frag}{F F' H H':Hp}
theorem aG.gF{a:Addr}{xs:List V}(e:aG H H')(h:iB K H a xs):iB K H' a xs:=by
 rcases h with(h|⟨o,h⟩)|h;.exact .inl (.inl (e _ _ h))
 .exact .inl (.inr ⟨o,e _ _ h⟩)
 .exact .inr h
mutual
theorem Rep.mono(e:aG F F'):∀{d:D}{v:V},Rep K F v d->Rep K F' v d|.non,_,h=>by rw[Rep]at h ⊢;exact h|.bl _,_,h=>by rw[Rep]at h ⊢;exact h|.int _,_,h=>by rw[Rep]at h ⊢;exact h|.str _,_,h=>by rw[Rep]at h ⊢;exact h|.tup ds,_,h=>by rw[Rep]at h ⊢;obtain⟨a,xs,rfl,hs,r⟩:=h;exact⟨a,xs,rfl,aG.gF e hs,aF.mono e r⟩|.lst ds,_,h=>by rw[Rep]at h ⊢;obtain⟨a,xs,rfl,hs,r⟩:=h;exact⟨a,xs,rfl,e.seq hs,aF.mono e r⟩|.dH m,_,h=>by rw[Rep]at h ⊢;obtain⟨a,o,rfl,hs⟩:=h;exact⟨a,o,rfl,e _ _ hs⟩|.dv ks ds,_,h=>by rw[Rep]at h ⊢;obtain⟨a,o,vs,rfl,hs,r,b⟩:=h;exact⟨a,o,vs,rfl,e _ _ hs,aF.mono e r,b⟩theorem aF.mono(e:aG F F'):∀{ds:List D}{vs:List V},aF K F vs ds->aF K F' vs ds|[],_,h=>by rw[aF]at h ⊢;exact h|d::ds,_,h=>by rw[aF]at h ⊢;obtain⟨v,r,rfl,h1,a⟩:=h;exact⟨v,r,rfl,Rep.mono e h1,aF.mono e a⟩end
theorem aF.nil:aF K F [] []:=by rw[aF]
theorem aF.cons{v:V}{d:D}{vs:List V}{ds:List D}(h:Rep K F v d)(t:aF K F vs ds):aF K F (v::vs) (d::ds):=by rw[aF];exact⟨v,vs,rfl,h,t⟩
theorem aF.cC{vs:List V}{d:D}{ds:List D}(h:aF K F vs (d::ds)):∃v r,vs=v::r/\Rep K F v d/\aF K F r ds:=by rw[aF]at h;exact h
theorem aF.eZ{vs:List V}(h:aF K F vs []):vs=[]:=by rw[aF]at h;exact h
theorem aF.length:∀{ds:List D}{vs:List V},aF K F vs ds->vs.length=ds.length|[],_,h=>by rw[h.eZ];rfl|d::ds,_,h=>by obtain⟨v,r,rfl,_,t⟩:=h.cC;simp[aF.length t]
theorem aF.get:∀{ds:List D}{vs:List V}{i:Nat}{d:D},aF K F vs ds->ds[i]?=some d->∃v,vs[i]?=some v/\Rep K F v d|[],_,_,_,h,e=>by simp at e|d::ds,_,0,_,h,e=>by obtain⟨v,r,rfl,h1,t⟩:=h.cC;simp at e;subst e;exact⟨v,rfl,h1⟩|d::ds,_,i+1,_,h,e=>by obtain⟨v,r,rfl,_,t⟩:=h.cC;simp at e;obtain⟨w,a,b⟩:=t.get e;exact⟨w,by simpa using a,b⟩
theorem aF.append:∀{ds es:List D}{vs a:List V},aF K F vs ds->aF K F a es->aF K F (vs++a) (ds++es)|[],_,_,_,h,h'=>by rw[h.eZ];exact h'|d::ds,_,_,_,h,h'=>by obtain⟨v,r,rfl,h1,t⟩:=h.cC;exact .cons h1 (t.append h')
theorem aF.set{v:V}{d:D}(hr:Rep K F v d):∀{ds:List D}{vs:List V}(i:Nat),aF K F vs ds->aF K F (vs.set i v) (ds.set i d)|[],_,_,h=>by rw[h.eZ];exact .nil|_::_,_,0,h=>by obtain⟨w,r,rfl,h1,t⟩:=h.cC;exact .cons hr t|_::_,_,i+1,h=>by obtain⟨w,r,rfl,h1,t⟩:=h.cC;exact .cons h1 (aF.set hr i t)
theorem aF.take:∀{ds:List D}{vs:List V}(n:Nat),aF K F vs ds->aF K F (vs.take n) (ds.take n)|[],_,n,h=>by rw[h.eZ];simpa using aF.nil|_::_,_,0,h=>.nil|_::_,_,n+1,h=>by obtain⟨w,r,rfl,h1,t⟩:=h.cC;exact .cons h1 (t.take n)
theorem aF.drop:∀{ds:List D}{vs:List V}(n:Nat),aF K F vs ds->aF K F (vs.drop n) (ds.drop n)|[],_,n,h=>by rw[h.eZ];simpa using aF.nil|_::_,_,0,h=>h|_::_,_,n+1,h=>by obtain⟨w,r,rfl,h1,t⟩:=h.cC;exact t.drop n
theorem aF.rep{ds:List D}{vs:List V}(h:aF K F vs ds):∀n,aF K F (replicate n vs).flatten (replicate n ds).flatten|0=>by simpa using aF.nil|n+1=>by simpa[replicate_succ]using h.append (aF.rep h n)
inductive Oc where|l(ds:List D)|d(m:Dc)|v(kvs:List (Int×D))
noncomputable def lst?:Sl->Option Oc|.own _ ds=>some (.l ds)|.lent ds=>some (.l ds)|.tY m=>some (.d m)|.cN kvs=>some (.v kvs)|_=>none
def kE(K:PySem.W.Frag)(F:Hp)(o:HO):Oc->Prop|.l ds=>∃xs,o=.lst xs/\aF K F xs ds|.d m=>o=m.ho|.v kvs=>∃vs,o=BV (kvs.map (·.1)) vs/\aF K F vs (kvs.map (·.2))
theorem kE.mono{o:HO}{x:Oc}(e:aG F F')(h:kE K F o x):kE K F' o x:=by cases x with|l ds=>obtain⟨xs,a,h⟩:=h;exact⟨xs,a,h.mono e⟩|d m=>exact h|v kvs=>obtain⟨xs,a,h⟩:=h;exact⟨xs,a,h.mono e⟩
def bz(ρ:List Sl)(σ:St)(i:Nat)(a:Addr):Prop:=(∃s ds,ρ[i]?=some s/\lst? s=some ds)/\σ[i]?=some (some (V.ref a))
def Own(ρ:List Sl)(σ:St)(a:Addr):Prop:=∃i,bz ρ σ i a
structure GS(K:PySem.W.Frag)(F:Hp)(ρ:List Sl)(σ:St)(H:Hp):Prop where
 sub:aG F H
 len:ρ.length=σ.length
 val:∀(i:Nat)(b:Bool)(d:D),ρ[i]?=some (Sl.val b d)->∃v:V,σ[i]?=some (some v)/\Rep K F v d
 own:∀(i:Nat)(s:Sl)(ds:Oc),ρ[i]?=some s->lst? s=some ds->∃(a:Addr)(xs:HO),σ[i]?=some (some (V.ref a))/\H a=some xs/\F a=none/\kE K F xs ds
 dis:∀(i j:Nat)(a:Addr),bz ρ σ i a->bz ρ σ j a->i=j
theorem GS.lB(g:GS K F ρ σ H)(i:Nat)(s:Sl)(ds:List D)(e:ρ[i]?=some s)(b:lst? s=some (.l ds)):∃(a:Addr)(xs:List V),σ[i]?=some (some (V.ref a))/\H a=some (.lst xs)/\F a=none/\aF K F xs ds:=by obtain⟨a,o,h1,c,f,xs,rfl,h⟩:=g.own i s (.l ds) e b;exact⟨a,xs,h1,c,f,h⟩
noncomputable def sO:Sl->Bool|.val b _=>b|.own b _=>b|.lent _=>true|.aQ=>false|.tY _=>false|.cN _=>false|.hold _=>true
def mL:Sl->Sl->Prop|.val true d,s=>s=.val true d|.own true _,s=>(∃ds,s=.own true ds)\/∃d,s=.val true d|.lent ds,s=>s=.lent ds|.hold ds,s=>s=.hold ds|_,_=>True
theorem mL.refl(s:Sl):mL s s:=by unfold mL;split<;>first|rfl|exact .inl ⟨_,rfl⟩|trivial
theorem mL.sO{s a:Sl}(h:mL s a)(l:sO s=true):HH.sO a=true:=by cases s with
 |aQ=>cases l|tY _=>cases l|cN _=>cases l|val b d=>cases b with|true=>cases h;rfl|false=>cases l
 |own b d=>cases b with|true=>rcases h with⟨_,rfl⟩|⟨_,rfl⟩<;>rfl|false=>cases l
 |lent d=>cases h;rfl|hold d=>cases h;rfl
theorem mL.trans{s c a:Sl}(l:HH.sO s=true)(h:mL s c)(h':mL c a):mL s a:=by cases s with
 |aQ=>cases l|tY _=>cases l|cN _=>cases l|val b d=>cases b with|true=>cases h;exact h'|false=>cases l
 |own b d=>cases b with
   | true => rcases h with⟨_,rfl⟩|⟨d,rfl⟩;.exact h'
             .exact .inr ⟨d,h'⟩|false=>cases l
 |lent d=>cases h;exact h'|hold d=>cases h;exact h'
noncomputable def nt:Option HO->Option HO|some (.tup _)=>none|o=>o
theorem jY{o:Option HO}(h:o=none):nt o=none:=by rw[h];rfl
theorem HY{H:Hp}{b:Addr}{xs:List V}(h:H b=some (.lst xs))(z:nt (H b)=none):False:=by rw[h]at z;cases z
theorem GP{o:HO}{x:Oc}(h:kE K F o x)(z:nt (some o)=none):False:=by cases x with|l ds=>obtain⟨xs,rfl,_⟩:=h;cases z|d m=>cases m<;>(cases(show o=_ from h);cases z)|v kvs=>obtain⟨xs,rfl,_⟩:=h;cases z
structure aC(K:PySem.W.Frag)(F:Hp)(ρ:List Sl)(σ:St)(H:Hp)(F':Hp)(ρ':List Sl)(σ':St)(H':Hp):Prop where
 gs:GS K F' ρ' σ' H'
 bU:aG F F'
 xK:∀b,F b=none->F' b≠none->Own ρ σ b\/nt (H b)=none
 keep:∀b o,H b=some o->¬ Own ρ σ b->H' b=some o
 vB:∀b,Own ρ' σ' b->Own ρ σ b\/H b=none
 len:ρ'.length=ρ.length
 lk:∀(i:Nat)(s:Sl),ρ[i]?=some s->sO s=true->σ'[i]?=σ[i]?/\∃s',ρ'[i]?=some s'/\mL s s'
theorem aC.refl{ρ:List Sl}{σ:St}(g:GS K F ρ σ H):aC K F ρ σ H F ρ σ H:=⟨g,aG.refl _,λb h h'=>absurd h h',λ_ _ h _=>h,λ_ h=>.inl h,rfl,λi s h _=>⟨rfl,s,h,.refl s⟩⟩
theorem aC.trans{F1 F2 m p:Hp}{ρ f j:List Sl}{σ g k:St}(a:aC K F ρ σ H F1 f g m)(b:aC K F1 f g m F2 j k p):aC K F ρ σ H F2 j k p:=by
 have back:∀c,Own f g c\/m c=none->Own ρ σ c\/H c=none:=λc h=>by
  rcases h with h|h;.exact a.vB c h
  . by_cases ho:Own ρ σ c;.exact .inl ho
    .right;cases e:H c with|none=>rfl|some o=>rw[a.keep c o e ho]at h;cases h
 refine⟨b.gs,a.bU.trans b.bU,λc h h'=>?_,λc o h n=>?_,λc h=>back c (b.vB c h),b.len.trans a.len,λi s h l=>?_⟩
 . by_cases e:F1 c=none
   . by_cases ho:Own ρ σ c;.exact .inl ho
     . rcases b.xK c e h' with z|z;.exact(back c (.inl z)).imp id jY
       .right;cases q:H c with|none=>rfl|some o=>rw[a.keep c o q ho]at z;exact z
   .exact a.xK c h e
 . refine b.keep c o (a.keep c o h n) λh'=>?_;rcases a.vB c h' with h'|h';.exact n h'
   .rw[h]at h';cases h'
 .obtain⟨t,s1,h1,r⟩:=a.lk i s h l;obtain⟨u,s2,w,x⟩:=b.lk i s1 h1 (r.sO l);exact⟨u.trans t,s2,w,.trans l r x⟩
def dj(K:PySem.W.Frag)(F H:Hp)(v:V)(d:D):Prop:=Rep K F v d\/∃a xs ds,v=.ref a/\H a=some (.lst xs)/\aF K F xs ds/\d=.lst ds
def cT(K:PySem.W.Frag)(F':Hp)(b:List Sl)(c:St)(H':Hp)(ρ:List Sl)(σ:St)(H:Hp)(v:V):R->Prop|.val d=>Rep K F' v d|.own ds=>∃a xs,v=.ref a/\H' a=some (.lst xs)/\F' a=none/\aF K F' xs ds/\¬ Own b c a/\(Own ρ σ a\/H a=none)
theorem aG.dD{F:Hp}{a:Addr}{o:HO}(h:F a=none):aG F (upd F a o):=λb u e=>by
 have:b≠a:=by rintro rfl;rw[h]at e;cases e
 rw[aD this];exact e
theorem aC.cM{c:List Sl}{f:St}{r:R}(s:aC K F ρ σ H F' c f H')(h:cT K F' c f H' ρ σ H v r):∃g,aC K F ρ σ H g c f H'/\aG F' g/\Rep K g v r.d:=by cases r with|val d=>exact⟨F',s,.refl _,h⟩|own ds=>
   obtain⟨a,xs,rfl,h1,u,w,x,y⟩:=h;have k:aG F' (upd F' a (.lst xs)):=aG.dD u;refine⟨upd F' a (.lst xs),⟨⟨λb o e=>?_,s.gs.len,λi b d e=>?_,λi sl l e q=>?_,s.gs.dis⟩,s.bU.trans k,λb n t=>?_,s.keep,s.vB,s.len,s.lk⟩,k,?_⟩
   . by_cases j:b=a;.subst j;rw[aM]at e;cases e;exact h1
     .rw[aD j]at e;exact s.gs.sub b o e
   .obtain⟨v,m,p⟩:=s.gs.val i b d e;exact⟨v,m,p.mono k⟩
   . obtain⟨b,ys,m,p,z,A⟩:=s.gs.own i sl l e q;have j:b≠a:=by rintro rfl;exact x ⟨i,⟨sl,l,e,q⟩,m⟩
     exact⟨b,ys,m,p,by rw[aD j];exact z,A.mono k⟩
   . by_cases j:b=a;.subst j;exact y.imp id jY
     .rw[aD j]at t;exact s.xK b n t
   .show Rep K _ _ (.lst ds);rw[Rep];exact⟨a,xs,rfl,dN.of aM,w.mono k⟩
theorem GS.pk{ρ:List Sl}{σ:St}{i:Nat}{d:D}(g:GS K F ρ σ H)(e:HH.pk ρ i=some d):∃v:V,σ[i]?=some (some v)/\dj K F H v d:=by
 unfold HH.pk at e;split at e;.rename_i b d' h;cases e;obtain⟨v,h1,c⟩:=g.val i b d h;exact⟨v,h1,.inl c⟩
 .rename_i b ds h;cases e;obtain⟨a,xs,h1,c,j,f⟩:=g.lB i _ ds h rfl;exact⟨.ref a,h1,.inr ⟨a,xs,ds,rfl,c,f,rfl⟩⟩
 .rename_i ds h;cases e;obtain⟨a,xs,h1,c,j,f⟩:=g.lB i _ ds h rfl;exact⟨.ref a,h1,.inr ⟨a,xs,ds,rfl,c,f,rfl⟩⟩
 .cases e
structure Ext(F H F' H':Hp):Prop where
 hs:aG H H'
 fs:aG F F'
 sub:aG F' H'
 gr:∀b,F b=none->F' b≠none->nt (H b)=none
theorem Ext.refl(h:aG F H):Ext F H F H:=⟨.refl _,.refl _,h,λ_ a b=>absurd a b⟩
theorem Ext.stp(g:GS K F ρ σ H)(e:Ext F H F' H'):aC K F ρ σ H F' ρ σ H':=by
 refine⟨⟨e.sub,g.len,λi b d h=>?_,λi s ds h h'=>?_,g.dis⟩,e.fs,λb n j=>.inr (e.gr b n j),λb o h _=>e.hs b o h,λ_ h=>.inl h,rfl,λi s h _=>⟨rfl,s,h,.refl s⟩⟩;.obtain⟨v,h1,c⟩:=g.val i b d h;exact⟨v,h1,c.mono e.fs⟩
 .obtain⟨a,xs,h1,c,k,f⟩:=g.own i s ds h h';refine⟨a,xs,h1,e.hs _ _ c,?_,f.mono e.fs⟩;cases q:F' a with|none=>rfl|some o=>have:=e.gr a k (by rw[q];simp);rw[c]at this;exact(GP f this).elim
def cF(K:PySem.W.Frag)(F' H' H:Hp)(v:V):R->Prop|.val d=>Rep K F' v d|.own ds=>∃a xs,v=.ref a/\H' a=some (.lst xs)/\F' a=none/\aF K F' xs ds/\H a=none
theorem cF.qp{r:R}(g:GS K F ρ σ H)(h:cF K F' H' H v r):cT K F' ρ σ H' ρ σ H v r:=by cases r with|val d=>exact h|own ds=>obtain⟨a,xs,rfl,h1,l,m,f⟩:=h;refine⟨a,xs,rfl,h1,l,m,?_,.inr f⟩;rintro⟨i,⟨s,c,e,n⟩,o⟩;obtain⟨b,ys,j,k,_⟩:=g.own i s c e n;rw[o]at j;cases j;rw[f]at k;cases k
theorem cT.later{F1 j F2 k:Hp}{c f:List Sl}{g i:St}{r:R}(a:aC K F ρ σ H F1 c g j)(h:cT K F2 f i k c g j v r):cT K F2 f i k ρ σ H v r:=by cases r with|val d=>exact h|own ds=>
   obtain⟨b,xs,rfl,h1,l,m,n,h5⟩:=h;refine⟨b,xs,rfl,h1,l,m,n,?_⟩;rcases h5 with h5|h5;.exact a.vB b h5
   . by_cases ho:Own ρ σ b;.exact .inl ho
     .right;cases e:H b with|none=>rfl|some o=>rw[a.keep b o e ho]at h5;cases h5
end
end HH
end
section
namespace HH
open PySem L2 PySem.Spec PyProof.Rows
variable{ρ' ρ ρ₀:List Sl}{es:List Expr}{K:PySem.W.Frag}{F H H₀:Hp}{σ:L2.St}{i n:Nat}{ds:List D}{x:Str}{v:V}{vs:List V}{op:CmpOp}{p':Pos}{as:List Arg}
theorem aj{c e:Type}{x:Res c}{f:c->List Sl->Res e}{b:e}(h:x.bind f=.ok b ρ'):∃a ρ,x=.ok a ρ/\f a ρ=.ok b ρ':=by cases x with|ok a ρ=>exact⟨a,ρ,rfl,h⟩|exc _ _=>cases h|stuck=>cases h
theorem aB{c:Type}{o:Option c}{a:c}(h:lift o ρ=.ok a ρ'):o=some a/\ρ=ρ':=by cases o with|none=>cases h|some b=>cases h;exact⟨rfl,rfl⟩
theorem map_some{c e:Type}{o:Option c}{f:c->e}{b:e}(h:o.map f=some b):∃a,o=some a/\f a=b:=by cases o with|none=>cases h|some a=>cases h;exact⟨a,rfl,rfl⟩
theorem bZ{c e:Type}{o:Option c}{f:c->Option e}{b:e}(h:o.bind f=some b):∃a,o=some a/\f a=some b:=by cases o with|none=>cases h|some a=>exact⟨a,rfl,h⟩
theorem bB{e:Type}{c:Prop}[Decidable c]{a b:e}(h:(if c then some a else none)=some b):c/\a=b:=by
 split at h;.rename_i hc;cases h;exact⟨hc,rfl⟩
 .cases h
section
variable{X:Cx}{c:Call}{e a b:Expr}{p pa pb:P}{pos:Pos}
theorem eY{t t':TE}(h:PE X e t)(i:∀σ H Q,t' σ H Q->t σ H Q):PE X e t':=λf s σ H Q I q=>h f s σ H Q I (i σ H Q q)
theorem wW{t t':TT}(h:PT X e t)(i:∀σ H Q,t' σ H Q->t σ H Q):PT X e t':=λf s σ H Q I q=>h f s σ H Q I (i σ H Q q)
theorem N6{t t':TT}(h:PW X e t)(i:∀σ H Q,t' σ H Q->t σ H Q):PW X e t':=λwh f s σ H Q I q=>h wh f s σ H Q I (i σ H Q q)
theorem vD{t t':TA}(h:PA X es t)(i:∀σ H Q,t' σ H Q->t σ H Q):PA X es t':=λpos f s σ H Q I q=>h pos f s σ H Q I (i σ H Q q)
inductive sU(K:PySem.W.Frag)(f:Ev)(σ:L2.St)(H:Hp)(Q:VK):Prop where|mk(F:Hp)(ρ:List Sl)(r:R)(ρ':List Sl)(g:GS K F ρ σ H)(e:f ρ=.ok r ρ')(k:∀v F' H',aC K F ρ σ H F' ρ' σ H'->cT K F' ρ' σ H' ρ σ H v r->Q v H')
inductive Eo(K:PySem.W.Frag)(f:List Sl->Res Bool)(σ:L2.St)(H:Hp)(Q:Bool->Hp->Prop):Prop where|mk(F:Hp)(ρ:List Sl)(b:Bool)(ρ':List Sl)(g:GS K F ρ σ H)(e:f ρ=.ok b ρ')(k:∀F' H',aC K F ρ σ H F' ρ' σ H'->Q b H')
inductive ab4(K:PySem.W.Frag)(f:List Sl->Res (List D))(σ:L2.St)(H:Hp)(Q:List V->Hp->Prop):Prop where|mk(F:Hp)(ρ:List Sl)(ds:List D)(ρ':List Sl)(g:GS K F ρ σ H)(e:f ρ=.ok ds ρ')(k:∀vs F' H',aC K F ρ σ H F' ρ' σ H'->aF K F' vs ds->Q vs H')
structure SX(X:Cx)(c:Call)(e:Expr)(p:P):Prop where ev:PE X e (sU X.K (HH.ev c p))var:∀i,isVar p=some i->PE X e (Ro i)
def SA(X:Cx)(c:Call)(es:List Expr)(ps:List P):Prop:=PA X es (ab4 X.K (evs c ps))/\ps.length=es.length
theorem SX.cW(h:SX X c e p):∃t,PE X e t/\∀{σ:L2.St}{H F:Hp}{ρ ρ':List Sl}{d:D}{Q:VK},GS X.K F ρ σ H->cW (isVar p) (HH.ev c p) ρ=.ok d ρ'->(∀v j f,aC X.K F ρ σ H j ρ' σ f->dj X.K j f v d->Q v f)->t σ H Q:=by cases hv:isVar p with|none=>refine⟨_,h.ev,λ{σ H F ρ ρ' d Q}g e k=>?_⟩;obtain⟨r,q,l,m⟩:=aj e;cases m;refine⟨F,ρ,r,_,g,l,λv j f s u=>?_⟩;obtain⟨o,w,_,y⟩:=s.cM u;exact k v o f w (.inl y)|some i=>refine⟨_,h.var i hv,λ{σ H F ρ ρ' d Q}g e k=>?_⟩;obtain⟨l,m⟩:=aB e;subst m;obtain⟨v,h1,z⟩:=g.pk l;exact⟨v,h1,k v F H (.refl g) z⟩
theorem SX.iu(J:SX X c a pa)(N:SX X c b pb):∃L h,PE X a L/\PE X b h/\∀{σ:L2.St}{H F:Hp}{ρ ρ':List Sl}{j:D×D}{R:V->V->Hp->Prop},GS X.K F ρ σ H->iu (isVar pa) (HH.ev c pa) (isVar pb) (HH.ev c pb) ρ=.ok j ρ'->(∀v u w l,aC X.K F ρ σ H w ρ' σ l->dj X.K w l v j.1->dj X.K w l u j.2->R v u l)->L σ H λx z=>h σ z λy A=>R x y A:=by obtain⟨h,m,o⟩:=N.cW;cases hv:isVar pa with|none=>refine⟨_,h,J.ev,m,λ{σ H F ρ ρ' j R}g e k=>?_⟩;obtain⟨x,B,q,e⟩:=aj e;obtain⟨y,C,f,e⟩:=aj e;cases e;obtain⟨r,M,q,E⟩:=aj q;cases E;refine⟨F,ρ,r,_,g,q,λv w l s O=>?_⟩;obtain⟨F1,s1,_,Q⟩:=s.cM O;refine o s1.gs f λu F2 A s2 G=>?_;exact k v u F2 A (s1.trans s2) (.inl (Q.mono s2.bU)) G|some i=>refine⟨_,h,J.var i hv,m,λ{σ H F ρ ρ' j R}g e k=>?_⟩;obtain⟨x0,U,E,e⟩:=aj e;obtain⟨I,W⟩:=aB E;subst W;obtain⟨y,B,q,e⟩:=aj e;obtain⟨x,C,f,e⟩:=aj e;cases e;have Y:=aB f;clear f;obtain⟨f,Z⟩:=Y;subst Z;obtain⟨v,h1,_⟩:=g.pk I;refine⟨v,h1,o g q λu F1 z s1 G=>?_⟩;obtain⟨v',t,pv⟩:=s1.gs.pk f;rw[h1]at t;cases t;exact k v u F1 z s1 pv G
inductive rD(K:PySem.W.Frag)(f:D->D->Option R)(x y:V)(H:Hp)(Q:VK):Prop where|mk(F:Hp)(d e:D)(r:R)(sm:aG F H)(px:dj K F H x d)(py:dj K F H y e)(he:f d e=some r)(k:∀v F' H',Ext F H F' H'->cF K F' H' H v r->Q v H')
inductive rD1(K:PySem.W.Frag)(f:D->Option R)(x:V)(H:Hp)(Q:VK):Prop where|mk(F:Hp)(d:D)(r:R)(sm:aG F H)(px:dj K F H x d)(he:f d=some r)(k:∀v F' H',Ext F H F' H'->cF K F' H' H v r->Q v H')
theorem ug{E:Expr}{f:D->D->Option R}{q:P}(t:∀{m o},PE X a m->PE X b o->PE X E (RJ (rD X.K f) m o))(y:SX X c a pa)(z:SX X c b pb)(A:∀ρ,HH.ev c q ρ=(HH.iu (isVar pa) (HH.ev c pa) (isVar pb) (HH.ev c pb) ρ).bind λj ρ=>lift (f j.1 j.2) ρ)(B:isVar q=none):SX X c E q:=by obtain⟨m,o,h1,C,G⟩:=y.iu z;refine⟨eY (t h1 C) ?_,λi h=>by rw[B]at h;cases h⟩;rintro σ H Q⟨F,ρ,r,ρ',g,e,k⟩;rw[A]at e;obtain⟨j,I,J,l⟩:=aj e;have L:=aB l;clear l;obtain⟨l,M⟩:=L;subst M;refine G g J λv u N Z s O U=>⟨N,j.1,j.2,r,s.gs.sub,O,U,l,λw F2 W x Y=>?_⟩;exact k w F2 W (s.trans (x.stp s.gs)) (.later s (Y.qp s.gs))
theorem QR{E:Expr}{f:D->Option R}{q:P}(m:∀{l},PE X a l->PE X E (tUn (rD1 X.K f) l))(o:SX X c a pa)(t:∀ρ,HH.ev c q ρ=(HH.cW (isVar pa) (HH.ev c pa) ρ).bind λx ρ=>lift (f x) ρ)(u:isVar q=none):SX X c E q:=by obtain⟨l,h1,y⟩:=o.cW;refine⟨eY (m h1) ?_,λi h=>by rw[u]at h;cases h⟩;rintro σ H Q⟨F,ρ,r,ρ',g,e,k⟩;rw[t]at e;obtain⟨x,z,A,j⟩:=aj e;have B:=aB j;clear j;obtain⟨j,C⟩:=B;subst C;refine y g A λv G M s I=>⟨G,x,r,s.gs.sub,I,j,λw F2 J x L=>?_⟩;exact k w F2 J (s.trans (x.stp s.gs)) (.later s (L.qp s.gs))
theorem GS.freeze{b:Bool}(g:GS K F ρ σ H)(e:ρ[i]?=some (.own b ds)):∃v A,σ[i]?=some (some v)/\aC K F ρ σ H A (ρ.set i (.val b (.lst ds))) σ H/\Rep K A v (.lst ds):=by
 obtain⟨a,xs,h1,E,G,I⟩:=g.lB i _ ds e rfl;have hi:i<ρ.length:=(eX e).1;have y:aG F (upd F a (.lst xs)):=aG.dD G;have B:Rep K (upd F a (.lst xs)) (.ref a) (.lst ds):=by rw[Rep];exact⟨a,xs,rfl,dN.of aM,I.mono y⟩
 have J:Own ρ σ a:=⟨i,⟨_,_,e,rfl⟩,h1⟩;have r:∀j x,bz (ρ.set i (.val b (.lst ds))) σ j x->bz ρ σ j x/\j≠i:=λj x⟨⟨s,h,m,u⟩,z⟩=>by
  by_cases f:j=i;.subst f;rw[getElem?_set_self hi]at m;cases m;cases u
  .rw[gO f]at m;exact⟨⟨⟨s,h,m,u⟩,z⟩,f⟩
 refine⟨.ref a,upd F a (.lst xs),h1,⟨⟨λx o q=>?_,by simpa using g.len,λj L d q=>?_,λj s h q w=>?_,λj k x q w=>g.dis j k x (r j x q).1 (r k x w).1⟩,y,λx n C=>?_,λ_ _ q _=>q,λx⟨j,q⟩=>.inl ⟨j,(r j x q).1⟩,by simp,λj s q l=>⟨rfl,?_⟩⟩,B⟩
 . by_cases t:x=a;.subst t;rw[aM]at q;cases q;exact E
   .rw[aD t]at q;exact g.sub x o q
 . by_cases f:j=i;.subst f;rw[getElem?_set_self hi]at q;cases q;exact⟨_,h1,B⟩
   .rw[gO f]at q;obtain⟨v,m,u⟩:=g.val j L d q;exact⟨v,m,u.mono y⟩
 . by_cases f:j=i;.subst f;rw[getElem?_set_self hi]at q;cases q;cases w
   . rw[gO f]at q;obtain⟨x,ys,m,u,z,M⟩:=g.own j s h q w;have t:x≠a:=by rintro rfl;exact f (g.dis j i x ⟨⟨s,h,q,w⟩,m⟩ ⟨⟨_,_,e,rfl⟩,h1⟩)
     exact⟨x,ys,m,u,by rw[aD t];exact z,M.mono y⟩
 . by_cases t:x=a;.subst t;exact .inl J
   .rw[aD t]at C;exact absurd n C
 . by_cases f:j=i;.subst f;rw[e]at q;cases q;refine⟨_,getElem?_set_self hi,?_⟩;cases b with|true=>exact .inr ⟨_,rfl⟩|false=>cases l
   .exact⟨s,by rw[gO f];exact q,.refl s⟩
theorem GS.Bd{m:Dc}(g:GS K F ρ σ H)(e:ρ[i]?=some (.tY m)):∃a,σ[i]?=some (some (.ref a))/\H a=some m.ho/\∀u,aC K F ρ σ H (upd F a (.cM u m.ho)) (ρ.set i (.val false (.dH m))) σ (upd H a (.cM u m.ho))/\Rep K (upd F a (.cM u m.ho)) (.ref a) (.dH m):=by
 obtain⟨a,I,h1,J,L,M⟩:=g.own i _ _ e rfl;cases(show I=m.ho from M);have hi:i<ρ.length:=(eX e).1;refine⟨a,h1,J,λu=>?_⟩;have A:aG F (upd F a (.cM u m.ho)):=aG.dD L;have C:Rep K (upd F a (.cM u m.ho)) (.ref a) (.dH m):=by rw[Rep];exact⟨a,u,rfl,aM⟩
 have E:Own ρ σ a:=⟨i,⟨_,_,e,rfl⟩,h1⟩;have w:∀j x,bz (ρ.set i (.val false (.dH m))) σ j x->bz ρ σ j x/\j≠i:=λj x⟨⟨s,r,t,y⟩,B⟩=>by
  by_cases f:j=i;.subst f;rw[getElem?_set_self hi]at t;cases t;cases y
  .rw[gO f]at t;exact⟨⟨⟨s,r,t,y⟩,B⟩,f⟩
 refine⟨⟨⟨λx o q=>?_,by simpa using g.len,λj N d q=>?_,λj s r q z=>?_,λj k x q z=>g.dis j k x (w j x q).1 (w k x z).1⟩,A,λx n G=>?_,λx o q n=>?_,λx⟨j,q⟩=>.inl ⟨j,(w j x q).1⟩,by simp,λj s q l=>⟨rfl,?_⟩⟩,C⟩
 . by_cases h:x=a;.subst h;rw[aM]at q ⊢;exact q
   .rw[aD h]at q ⊢;exact g.sub x o q
 . by_cases f:j=i;.subst f;rw[getElem?_set_self hi]at q;cases q;exact⟨_,h1,C⟩
   .rw[gO f]at q;obtain⟨v,t,y⟩:=g.val j N d q;exact⟨v,t,y.mono A⟩
 . by_cases f:j=i;.subst f;rw[getElem?_set_self hi]at q;cases q;cases z
   . rw[gO f]at q;obtain⟨x,ys,t,y,B,O⟩:=g.own j s r q z;have h:x≠a:=by rintro rfl;exact f (g.dis j i x ⟨⟨s,r,q,z⟩,t⟩ ⟨⟨_,_,e,rfl⟩,h1⟩)
     exact⟨x,ys,t,by rw[aD h];exact y,by rw[aD h];exact B,O.mono A⟩
 . by_cases h:x=a;.subst h;exact .inl E
   .rw[aD h]at G;exact absurd n G
 . have h:x≠a:=by rintro rfl;exact n E
   rw[aD h];exact q
 . by_cases f:j=i;.subst f;rw[e]at q;cases q;cases l
   .exact⟨s,by rw[gO f];exact q,.refl s⟩
theorem GS.Av{kvs:List (Int×D)}(g:GS K F ρ σ H)(e:ρ[i]?=some (.cN kvs)):∃a vs,σ[i]?=some (some (.ref a))/\H a=some (BV (kvs.map (·.1)) vs)/\∀t,aC K F ρ σ H (upd F a (.cM t (BV (kvs.map (·.1)) vs))) (ρ.set i (.val false (.dv (kvs.map (·.1)) (kvs.map (·.2))))) σ (upd H a (.cM t (BV (kvs.map (·.1)) vs)))/\Rep K (upd F a (.cM t (BV (kvs.map (·.1)) vs))) (.ref a) (.dv (kvs.map (·.1)) (kvs.map (·.2))):=by
 obtain⟨a,O,h1,G,I,J⟩:=g.own i _ _ e rfl;obtain⟨vs,rfl,L⟩:=J;have hi:i<ρ.length:=(eX e).1;refine⟨a,vs,h1,G,λt=>?_⟩;have z:aG F (upd F a (.cM t (BV (kvs.map (·.1)) vs))):=aG.dD I;have B:Rep K (upd F a (.cM t (BV (kvs.map (·.1)) vs))) (.ref a) (.dv (kvs.map (·.1)) (kvs.map (·.2))):=by rw[Rep];exact⟨a,t,vs,rfl,aM,L.mono z,by simp⟩
 have C:Own ρ σ a:=⟨i,⟨_,_,e,rfl⟩,h1⟩;have u:∀j x,bz (ρ.set i (.val false (.dv (kvs.map (·.1)) (kvs.map (·.2))))) σ j x->bz ρ σ j x/\j≠i:=λj x⟨⟨s,m,r,w⟩,A⟩=>by
  by_cases f:j=i;.subst f;rw[getElem?_set_self hi]at r;cases r;cases w
  .rw[gO f]at r;exact⟨⟨⟨s,m,r,w⟩,A⟩,f⟩
 refine⟨⟨⟨λx o q=>?_,by simpa using g.len,λj M d q=>?_,λj s m q y=>?_,λj k x q y=>g.dis j k x (u j x q).1 (u k x y).1⟩,z,λx n E=>?_,λx o q n=>?_,λx⟨j,q⟩=>.inl ⟨j,(u j x q).1⟩,by simp,λj s q l=>⟨rfl,?_⟩⟩,B⟩
 . by_cases h:x=a;.subst h;rw[aM]at q ⊢;exact q
   .rw[aD h]at q ⊢;exact g.sub x o q
 . by_cases f:j=i;.subst f;rw[getElem?_set_self hi]at q;cases q;exact⟨_,h1,B⟩
   .rw[gO f]at q;obtain⟨v,r,w⟩:=g.val j M d q;exact⟨v,r,w.mono z⟩
 . by_cases f:j=i;.subst f;rw[getElem?_set_self hi]at q;cases q;cases y
   . rw[gO f]at q;obtain⟨x,ys,r,w,A,N⟩:=g.own j s m q y;have h:x≠a:=by rintro rfl;exact f (g.dis j i x ⟨⟨s,m,q,y⟩,r⟩ ⟨⟨_,_,e,rfl⟩,h1⟩)
     exact⟨x,ys,r,by rw[aD h];exact w,by rw[aD h];exact A,N.mono z⟩
 . by_cases h:x=a;.subst h;exact .inl C
   .rw[aD h]at E;exact absurd n E
 . have h:x≠a:=by rintro rfl;exact n C
   rw[aD h];exact q
 . by_cases f:j=i;.subst f;rw[e]at q;cases q;cases l
   .exact⟨s,by rw[gO f];exact q,.refl s⟩
theorem Inv.Hy{X:Cx}{f:List (Addr×Obj)}{s:Shared}{a:Addr}{kvs:List (Key×V)}(I:L2.Inv X f σ H s)(h:H a=some (.dK kvs)):∃o,L2.Inv X f σ (upd H a (.cM o (.dK kvs))) s:=by obtain⟨hz,j,vs,r,g⟩:=(show cz X.prog X.w H s.heap a (.dK kvs)from I.hok a _ h);obtain⟨o,ho,_⟩:=g.typeIs;exact⟨o,I.write (h':=s.heap) (t':=s.toks) (by rw[h];exact trivial) (.inl rfl) (λb u _ e=>e) ⟨o,ho⟩ ⟨ho,hz,j,vs,r,g⟩⟩
theorem RG(z:X.N[i]?=some x)(A:xQ X.env.scope x)(hd:(x==("__debug__":Str))=false:=by decide)(t:(x==("__classdict__":Str))=false:=by decide):SX X c (.Name x pos) (.var i):=by
 have h:=gH (X:=X) (pos:=pos) z A hd t;refine⟨?_,λj B=>by cases B;exact h⟩;rintro f s σ H Q I⟨F,ρ,r,ρ',g,e,k⟩;rw[HH.E1]at e;split at e;.rename_i b d q;cases e;obtain⟨v,h1,l⟩:=g.val i b d q;exact h f s σ H Q I ⟨v,h1,k v F H (.refl g) l⟩
 .rename_i b ds q;cases e;obtain⟨v,C,h1,l,m⟩:=g.freeze q;exact h f s σ H Q I ⟨v,h1,k v C H l m⟩
 .rename_i kvs q;cases e;obtain⟨a,h1,l,m⟩:=g.Bd q;refine cB (h f s σ H (λv w=>v=.ref a/\w=H) I ⟨.ref a,h1,rfl,rfl⟩) λu s1⟨v,H1,I1,r1,e1,e2⟩=>?_;subst e1 e2;obtain⟨o,y⟩:=Inv.Hy I1 l;exact⟨.ref a,_,y,r1,k _ _ _ (m o).1 (m o).2⟩
 .rename_i kvs q;cases e;obtain⟨a,vs,h1,l,m⟩:=g.Av q;refine cB (h f s σ H (λv w=>v=.ref a/\w=H) I ⟨.ref a,h1,rfl,rfl⟩) λu s1⟨v,H1,I1,r1,e1,e2⟩=>?_;subst e1 e2;obtain⟨o,y⟩:=Inv.Hy I1 l;exact⟨.ref a,_,y,r1,k _ _ _ (m o).1 (m o).2⟩
 .cases e
theorem yp{d:D}(h:PE X e (tC v))(hr:∀F,Rep X.K F v d):SX X c e (.con d):=⟨eY h λσ H Q⟨F,ρ,r,ρ',g,e,k⟩=>by rw[HH.E2]at e;cases e;exact k v F H (.refl g) (hr F),λi h=>by cases h⟩
theorem aa{i j}:SX X c (.Constant (.int i) j pos) (.con (.int i)):=yp qO λF=>by rw[Rep]
theorem fY{i j}:SX X c (.Constant (.bool i) j pos) (.con (.bl i)):=yp Xf λF=>by rw[Rep]
theorem qF{j}:SX X c (.Constant .none j pos) (.con .non):=yp QM λF=>by rw[Rep]
theorem dj.int{K:PySem.W.Frag}{F H:Hp}{v:V}{i:Int}(h:dj K F H v (.int i)):v=.int i:=by
 rcases h with h|⟨_,_,_,_,_,_,h⟩;.rw[Rep]at h;exact h
 .cases h
theorem dj.bl{K:PySem.W.Frag}{F H:Hp}{v:V}{i:Bool}(h:dj K F H v (.bl i)):v=.bl i:=by
 rcases h with h|⟨_,_,_,_,_,_,h⟩;.rw[Rep]at h;exact h
 .cases h
theorem dj.str{K:PySem.W.Frag}{F H:Hp}{v:V}{i:Str}(h:dj K F H v (.str i)):v=.str i:=by
 rcases h with h|⟨_,_,_,_,_,_,h⟩;.rw[Rep]at h;exact h
 .cases h
theorem dj.non{K:PySem.W.Frag}{F H:Hp}{v:V}(h:dj K F H v .non):v=.non:=by
 rcases h with h|⟨_,_,_,_,_,_,h⟩;.rw[Rep]at h;exact h
 .cases h
theorem dj.tup{K:PySem.W.Frag}{F H:Hp}{v:V}{ds:List D}(s:aG F H)(h:dj K F H v (.tup ds)):∃a xs,v=.ref a/\iB K H a xs/\aF K F xs ds/\Rep K F v (.tup ds):=by
 rcases h with h|⟨_,_,_,_,_,_,h⟩;.have h':=h;rw[Rep]at h;obtain⟨a,xs,rfl,h1,f⟩:=h;exact⟨a,xs,rfl,aG.gF s h1,f,h'⟩
 .cases h
theorem dj.lst{K:PySem.W.Frag}{F H:Hp}{v:V}{ds:List D}(s:aG F H)(h:dj K F H v (.lst ds)):∃a xs,v=.ref a/\dN K H a xs/\aF K F xs ds:=by
 rcases h with h|⟨a,xs,es,h1,f,g,h⟩;.rw[Rep]at h;obtain⟨a,xs,rfl,h1,f⟩:=h;exact⟨a,xs,rfl,s.seq h1,f⟩
 .cases h;exact⟨a,xs,h1,dN.of f,g⟩
theorem dj.dH{m:Dc}(s:aG F H)(h:dj K F H v (.dH m)):∃a o,v=.ref a/\H a=some (.cM o m.ho):=by
 rcases h with h|⟨_,_,_,_,_,_,h⟩;.rw[Rep]at h;obtain⟨a,o,rfl,h⟩:=h;exact⟨a,o,rfl,s _ _ h⟩
 .cases h
theorem Hb{X:Cx}{f:List (Addr×Obj)}{s:Shared}{a:Addr}{g:Obj}{m:Dc}(I:L2.Inv X f σ H s)(h:H a=some (.cM g m.ho)):∃o,s.heap.get? a=some o/\o.cls=.type "dict":=by have z:=(show cz X.prog X.w H s.heap a (.cM g m.ho)from I.hok a _ h).2;cases m with|k kvs=>obtain⟨_,_,vs,_,d2⟩:=(show cz X.prog X.w H s.heap a (.dK _)from z);exact d2.typeIs|t kvs=>obtain⟨_,_,xs,_,o,es,ep,h1,j,_⟩:=(show cz X.prog X.w H s.heap a (.dT _)from z);exact⟨o,h1,j.1⟩
theorem dj.dv{ks:List Int}(s:aG F H)(h:dj K F H v (.dv ks ds)):∃a o vs,v=.ref a/\H a=some (.cM o (BV ks vs))/\aF K F vs ds/\ks.length=ds.length:=by
 rcases h with h|⟨_,_,_,_,_,_,h⟩;.rw[Rep]at h;obtain⟨a,o,vs,rfl,h,h1,f⟩:=h;exact⟨a,o,vs,rfl,s _ _ h,h1,f⟩
 .cases h
theorem G4{X:Cx}{f:List (Addr×Obj)}{s:Shared}{a:Addr}{g:Obj}{ks:List Int}(I:L2.Inv X f σ H s)(h:H a=some (.cM g (BV ks vs))):∃o,s.heap.get? a=some o/\o.cls=.type "dict":=by have z:=(show cz X.prog X.w H s.heap a (.cM g (BV ks vs))from I.hok a _ h).2;obtain⟨_,_,vs,_,d2⟩:=(show cz X.prog X.w H s.heap a (.dK _)from z);exact d2.typeIs
theorem dj.items{d:D}(s:aG F H)(h:dj K F H v d)(e:items d=some ds):∃a xs,v=.ref a/\(dN K H a xs\/iB K H a xs)/\aF K F xs ds:=by cases d with|tup es=>cases e;obtain⟨a,xs,h1,f,g,_⟩:=h.tup s;exact⟨a,xs,h1,.inr f,g⟩|lst es=>cases e;obtain⟨a,xs,h1,f,g⟩:=h.lst s;exact⟨a,xs,h1,.inl f,g⟩|_=>cases e
theorem cF.cX{Q:VK}{d:D}(s:aG F H)(r:Rep K F v d)(k:∀v g f,Ext F H g f->cF K g f H v (.val d)->Q v f):Q v H:=k v F H (.refl s) r
theorem bC(i:Int):Rep K F (.int i) (.int i):=by rw[Rep]
theorem fO(i:Bool):Rep K F (.bl i) (.bl i):=by rw[Rep]
theorem R6(i:Str):Rep K F (.str i) (.str i):=by rw[Rep]
theorem Qy:Rep K F .non .non:=by rw[Rep]
theorem Dy{Q:VK}{xs:List V}{p:Addr}(s:aG F H)(r:aF K F xs ds)(f:H p=none)(k:∀v h g,Ext F H h g->cF K h g H v (.own ds)->Q v g):Q (.ref p) (upd H p (.lst xs)):=by
 have j:F p=none:=by cases q:F p with|none=>rfl|some o=>rw[s p o q]at f;cases f
 exact k _ F _ ⟨aG.dD f,.refl _,s.trans (aG.dD f),λ_ a b=>absurd a b⟩ ⟨p,xs,rfl,aM,j,r,f⟩
theorem za{Q:VK}{xs:List V}{p:Addr}(s:aG F H)(r:aF K F xs ds)(g:H p=none)(k:∀v j h,Ext F H j h->cF K j h H v (.val (.tup ds))->Q v h):Q (.ref p) (upd H p (.tup xs)):=by
 have t:F p=none:=by cases q:F p with|none=>rfl|some o=>rw[s p o q]at g;cases g
 have l:aG F (upd F p (.tup xs)):=aG.dD t;refine k _ (upd F p (.tup xs)) _ ⟨aG.dD g,l,λb o e=>?_,λb n m=>?_⟩ ?_
 . by_cases f:b=p;.subst f;rw[aM]at e ⊢;exact e
   .rw[aD f]at e ⊢;exact s b o e
 . by_cases f:b=p;.subst f;exact jY g
   .rw[aD f]at m;exact absurd n m
 .show Rep K _ _ (.tup ds);rw[Rep];exact⟨p,xs,rfl,iB.of aM,r.mono l⟩
end
theorem rN(k:Int)(t:Tok)(l:Addr)(a:Array Value)(n:Nat)(b:Option Addr)(sl:Array (Option Value)):Meets (Builtin.«int.__rmul__» ⟨[.int k t,.ref l],[]⟩) (λ_ R s=>s.heap.get? l=some ⟨.type "list",b,.seq a n,sl⟩/\R (.ok (.ret Value.notImplemented)) s):=.of_wp λprog w A R s h=>by obtain⟨c,g,d,e,os⟩:=s;obtain⟨f,h⟩:=h;wp_walk;exact⟨_,rfl,h⟩
theorem Dm(l:Addr)(a:Array Value)(n:Nat)(b:Option Addr)(sl:Array (Option Value))(k:Int)(t:Tok)(h0:¬(!Builtin.List.listFitsIndex k)=true)(h1:¬a.size*k.toNat>(2^63-1)/8)(c:¬listTooLong (a.size*k.toNat)=true):Meets (Builtin.«list.__mul__» ⟨[.ref l,.int k t],[]⟩) (λ_ R s=>s.heap.get? l=some ⟨.type "list",b,.seq a n,sl⟩/\R (.ok (.ret (Value.ref s.heap.objs.size))) {s with heap:=s.heap.push {cls:=.type "list",data:=.seq (foldl (·++·) #[] (replicate (if a.isEmpty=true then 0 else k.toNat) a))}}):=.of_wp λprog w A R s h=>by obtain⟨f,g,d,j,os⟩:=s;obtain⟨e,h⟩:=h;have hz:=AutoListH.joined_fits c;wp_walk using wpAny_loadPart' e;refine wpAny_ite_false (decide_eq_false (Nat.not_lt.mpr hz)) ?_;wp_walk;exact⟨_,rfl,h⟩
section
variable{X:Cx}{c:Call}{e a b d:Expr}{p pa pb pd:P}{pos:Pos}
theorem JW:fW X (binaryOp .Add) (λx y H Q=>∃l b xs o,x=.ref l/\y=.ref b/\dN X.K H l xs/\dN X.K H b o/\xs.length+o.length<=sizeLine/\∀p,H p=none->Q (.ref p) (upd H p (.lst (xs++o)))):=by
 intro z s σ H x y v u Q I C E h;obtain⟨l,b,xs,o,rfl,rfl,G,J,hz,q⟩:=h;cases C;cases E;obtain⟨g,r,L,_⟩:=I.list G;obtain⟨f,A,M,_⟩:=I.list J;obtain⟨⟨cls,N,data,sl⟩,ho,hc,n,hd⟩:=id L.isList;obtain⟨⟨B,t,data2,w⟩,j,k,O,m⟩:=id M.isList;simp only at hc hd k m;subst hc hd k m;have e:g.toArray++f.toArray=(g++f).toArray:=by simp
 refine concat_meets ⟨_,ho,rfl⟩ ⟨_,j,rfl⟩ noFill_list_add seq_list_add PySem.F.slot_list_add PySem.F.entry_list_add (PySem.F.args_list_add_2 _ _) (list_addW l b g.toArray f.toArray n O N t sl w (by simp only[size_toArray];rw[<-r.length,<-A.length];exact hz)) ⟨ho,j,?_⟩;rw[e];exact⟨.ref _,_,I.QZ (t':=s.toks) (r.append A) (by rw[length_append];exact hz),rfl,q _ I.fresh⟩
theorem Gj:fW X (binaryOp .Add) (λx y H Q=>∃a b ys,x=.ref a/\y=.ref b/\iB X.K H a []/\iB X.K H b ys/\Q (.ref b) H):=by intro r s σ H x y v u Q I w z h;obtain⟨a,b,ys,rfl,rfl,A,B,q⟩:=h;cases w;cases z;obtain⟨l,r1,p1,_⟩:=I.tuple A;obtain⟨f,J,p2,_⟩:=I.tuple B;obtain⟨⟨cls,C,data,sl⟩,ho,hc,n,hd⟩:=id p1;obtain⟨⟨t,m,data2,o⟩,g,j,E,k⟩:=id p2;simp only at hc hd j k;subst hc hd j k;have G:l=[]:=r1.pC.mpr rfl;subst G;exact concat_meets ⟨_,ho,rfl⟩ ⟨_,g,rfl⟩ noFill_tuple_add seq_tuple_add slot_tuple_add entry_tuple_add (args_tuple_add_2 _ _) (tuple_addW0 a b _ f.toArray n E C m sl o (by simp)) ⟨ho,g,⟨.ref b,H,I,rfl,q⟩⟩
theorem aP:fW X (binaryOp .Add) (rD X.K (rJ .add)):=by
 rintro f s σ H x y v u Q I h j⟨F,d,e,r,g,q,t,he,k⟩;replace he:qy d e=some r:=he;unfold qy at he;split at he;.cases he;rw[q.int]at h;rw[t.int]at j;exact R5 f s σ H _ _ v u Q I h j ⟨_,_,rfl,rfl,cF.cX g (bC _) k⟩
 .rename_i xs ys;obtain⟨o,he⟩:=bB he;subst he;obtain⟨a,vs,rfl,w,l⟩:=q.lst g;obtain⟨b,z,rfl,A,m⟩:=t.lst g;exact JW f s σ H _ _ v u Q I h j ⟨a,b,vs,z,rfl,rfl,w,A,by rw[l.length,m.length];exact o,λp B=>Dy g (l.append m) B k⟩
 . rename_i xs ys;obtain⟨o,he⟩:=bB he;subst he;obtain⟨a,vs,rfl,w,l,E⟩:=q.tup g;obtain⟨b,z,rfl,A,m,G⟩:=t.tup g;by_cases h0:vs=[]
   . subst h0;have C:xs=[]:=by have:=l.length;exact List.eq_nil_of_length_eq_zero this.symm
     subst C;exact Gj f s σ H _ _ v u Q I h j ⟨a,b,z,rfl,rfl,w,A,cF.cX g G k⟩
   . refine JZ f s σ H _ _ v u Q I h j ⟨a,b,vs,z,rfl,rfl,w,A,h0,by rw[l.length,m.length];exact o,λe=>?_,λ_ p B=>za g (l.append m) B k⟩;subst e;have C:ys=[]:=by have:=m.length;exact List.eq_nil_of_length_eq_zero this.symm
     subst C;rw[append_nil]at k;exact cF.cX g E k
 .rename_i J L;obtain⟨o,he⟩:=bB he;subst he;rw[q.str]at h;rw[t.str]at j;exact xU f s σ H _ _ v u Q I h j ⟨_,_,rfl,rfl,o,cF.cX g (R6 _) k⟩
 .cases he
theorem cR:fW X (binaryOp .Sub) (rD X.K (rJ .sub)):=by
 rintro f s σ H x y v u Q I g h⟨F,d,e,r,j,l,m,he,k⟩;replace he:wg d e=some r:=he;unfold wg at he;split at he;.cases he;rw[l.int]at g;rw[m.int]at h;exact Tf f s σ H _ _ v u Q I g h ⟨_,_,rfl,rfl,cF.cX j (bC _) k⟩
 .cases he
theorem JN:fW X (binaryOp .Mult) (λx y H Q=>∃l k xs,x=.ref l/\y=.int k/\dN X.K H l xs/\-(2^63)<=k/\k<2^63/\xs.length*k.toNat<=sizeLine/\∀p,H p=none->Q (.ref p) (upd H p (.lst (replicate k.toNat xs).flatten))):=by
 intro w s σ H x y v u Q I A B h;obtain⟨l,k,xs,rfl,rfl,C,h1,E,hz,q⟩:=h;cases A;obtain⟨t,rfl⟩:=B;obtain⟨f,r,G,_⟩:=I.list C;obtain⟨⟨cls,z,data,sl⟩,ho,hc,n,hd⟩:=id G.isList;simp only at hc hd;subst hc hd;have g:f.toArray.size*k.toNat<=sizeLine:=by rw[size_toArray,<-r.length];exact hz
 have o:¬ f.toArray.size*k.toNat>(2^63-1)/8:=by
  have:(sizeLine:Nat)<=(2^63-1)/8:=by decide
  omega
 have j:foldl (·++·) #[] (replicate (if f.toArray.isEmpty=true then 0 else k.toNat) f.toArray)=(replicate k.toNat f).flatten.toArray:=by
  have f0:∀m:Nat,foldl (·++·) #[] (replicate m f.toArray)=(replicate m f).flatten.toArray:=λm=>by have:=foldl_rep f m [];rw[nil_append]at this;exact this
  rw[f0];cases f with|nil=>simp|cons a L=>rw[if_neg (by simp)]
 refine wpAny_binaryOp_repeat_ref (T:="list") (U:="int") (by decide) ⟨_,ho,rfl⟩ (λJ=>typeIs_int J k t) noFill_list_mul F.fills_int_mul F.slot_int_rmul repeat_list F.slot_int_index.lookup ?_;refine call_meets F.slot_int_rmul (typeIs_int s k t) F.entry_int_rmul (F.args_int_rmul_2 _ _) (rN k t l f.toArray n z sl) ⟨ho,rfl,⟨_,ho,rfl⟩,?_⟩;refine call_meets F.slot_list_mul ⟨_,ho,rfl⟩ F.entry_list_mul (F.args_list_mul_2 _ _) (Dm l f.toArray n z sl k t (by rw[fitsIndex_both h1 E];exact Bool.false_ne_true) o (by rw[Ho g];exact Bool.false_ne_true)) ⟨ho,?_⟩;rw[j];exact⟨.ref _,_,I.QZ (t':=s.toks) (r.rep k.toNat) (by rw[len_rep,Nat.mul_comm];exact hz),rfl,q _ I.fresh⟩
theorem nM:fillsNumberSlot (.type "tuple") "mul"=pure false:=PySem.fillsNumberSlot_seq (id:="tuple.__mul__") (r:=some (.builtin "tuple.__rmul__")) slot_tuple_mul.lookup (by decide+kernel) PySem.F.slot_tuple_rmul.lookup (by decide+kernel)
theorem uE:seqRepeat? (.type "tuple")=pure (some (.builtin "tuple.__mul__")):=by unfold seqRepeat?;rw[PySem.seqSlot_of (T:="tuple") (name:="__mul__") (id:="tuple.__mul__") slot_tuple_mul.lookup (by decide+kernel),PySem.seqSlot_of (T:="tuple") (name:="__rmul__") (id:="tuple.__rmul__") PySem.F.slot_tuple_rmul.lookup (by decide+kernel)];rfl
theorem qm(k:Int)(t:Tok)(l:Addr)(f:Array Value)(n:Nat)(j:Option Addr)(sl:Array (Option Value)):Meets (Builtin.«int.__rmul__» ⟨[.int k t,.ref l],[]⟩) (λ_ R s=>s.heap.get? l=some ⟨.type "tuple",j,.seq f n,sl⟩/\R (.ok (.ret Value.notImplemented)) s):=.of_wp λprog w A R s h=>by obtain⟨m,g,d,o,os⟩:=s;obtain⟨q,h⟩:=h;wp_walk;exact⟨_,rfl,h⟩
theorem xW(l:Addr)(f:Array Value)(n:Nat)(r:Option Addr)(sl:Array (Option Value))(k:Int)(t:Tok)(h0:0<=k)(h1:k<2^63)(hz:f.size*k.toNat<=sizeLine)(u:0<f.size):Meets (Builtin.«tuple.__mul__» ⟨[.ref l,.int k t],[]⟩) (λ_ R s=>s.heap.get? l=some ⟨.type "tuple",r,.seq f n,sl⟩/\(k=1->R (.ok (.ret (Value.ref l))) s)/\(k≠1->R (.ok (.ret (Value.ref s.heap.objs.size))) {s with heap:=s.heap.push {cls:=.type "tuple",data:=.seq (foldl (·++·) #[] (replicate k.toNat f))}})):=.of_wp λprog w A R s h=>by
  obtain⟨y,g,d,I,os⟩:=s;obtain⟨o,z,B⟩:=h;have j:f.isEmpty=false:=by cases e:f.isEmpty with|false=>rfl|true=>rw[Array.isEmpty_iff_size_eq_zero]at e;omega
  show wpAny _ _ (asIndex (.int k t)>>=_) _ _ _;wp_walk using wpAny_loadPart' o;have C:IsTup y l f:=⟨_,o,rfl,n,rfl⟩;rw[if_neg (by simp;omega)];refine wpAny_bind (PyProof.Rows.tupleItemsOf_ C ?_);try dsimp only
  by_cases m:k=1;.rw[if_pos (by simp[m])];wp_walk using wpAny_loadPart' o;exact⟨_,rfl,z m⟩
  . have q:=B m;rw[if_neg (by simp[j,m])];by_cases E:k=0;.subst E;rw[if_pos (by simp)];unfold tupleExact;refine wpAny_bind (wpAny_newObj_type ?_);exact wpAny_pure ⟨_,rfl,q⟩
    . have J:(f.size:Int)*k<=sizeLine:=by
       have:((f.size*k.toNat:Nat):Int)<=(sizeLine:Nat):=by exact_mod_cast hz
       rw[Int.natCast_mul,show((k.toNat:Nat):Int)=k by omega]at this;exact this
      have G:(sizeLine:Int)<=(2^63-1)/8:=by decide
      rw[if_neg (by simp[j];omega),if_neg (by omega),if_neg (by simp[Builtin.Tuple.tupleTooMany];omega)];unfold tupleExact;refine wpAny_bind (wpAny_newObj_type ?_ ?_);.exact wpAny_pure ⟨_,rfl,q⟩
      .have:=foldl_rep f.toList k.toNat [];rw[nil_append,show f.toList.toArray=f by simp]at this;show(foldl (·++·) #[] (replicate k.toNat f)).size<=sizeLine;rw[show(#[]:Array Value)=([]:List Value).toArray from rfl,this,size_toArray,len_rep,length_toList,Nat.mul_comm];exact hz
theorem KJ:fW X (binaryOp .Mult) (λx y H Q=>∃l k xs,x=.ref l/\y=.int k/\iB X.K H l xs/\0<xs.length/\0<=k/\k<2^63/\xs.length*k.toNat<=sizeLine/\(k=1->Q (.ref l) H)/\(k≠1->∀p,H p=none->Q (.ref p) (upd H p (.tup (replicate k.toNat xs).flatten)))):=by
 intro w s σ H x y v u Q I A B h;obtain⟨l,k,xs,rfl,rfl,C,m,h1,E,hz,G,J⟩:=h;cases A;obtain⟨t,rfl⟩:=B;obtain⟨f,r,L,_⟩:=I.tuple C;obtain⟨⟨cls,z,data,sl⟩,ho,hc,n,hd⟩:=id L;simp only at hc hd;subst hc hd;have g:f.toArray.size*k.toNat<=sizeLine:=by rw[size_toArray,<-r.length];exact hz
 have j:foldl (·++·) #[] (replicate k.toNat f.toArray)=(replicate k.toNat f).flatten.toArray:=by have:=foldl_rep f k.toNat [];rw[nil_append]at this;exact this
 refine wpAny_binaryOp_repeat_ref (T:="tuple") (U:="int") (by decide) ⟨_,ho,rfl⟩ (λM=>typeIs_int M k t) nM F.fills_int_mul F.slot_int_rmul uE F.slot_int_index.lookup ?_;refine call_meets F.slot_int_rmul (typeIs_int s k t) F.entry_int_rmul (F.args_int_rmul_2 _ _) (qm k t l f.toArray n z sl) ⟨ho,rfl,⟨_,ho,rfl⟩,?_⟩;refine call_meets slot_tuple_mul ⟨_,ho,rfl⟩ PySem.F.entry_tuple_mul (PySem.F.args_tuple_mul_2 _ _) (xW l f.toArray n z sl k t h1 E g (by rw[size_toArray,<-r.length];exact m)) ⟨ho,λe=>⟨.ref l,H,I,rfl,G e⟩,λe=>?_⟩;rw[j];refine⟨.ref s.heap.objs.size,_,I.laid (t':=s.toks) (o:=.tup (replicate k.toNat xs).flatten) (λb N q=>dR q) (dm) ?_,rfl,J e _ (I.hok.fresh (dm))⟩;exact⟨by rw[len_rep,Nat.mul_comm];exact hz,_,r.rep k.toNat,IsTup.new _ _⟩
theorem cV:fW X (binaryOp .Mult) (rD X.K (rJ .mul)):=by
 rintro f s σ H x y v u Q I m g⟨F,d,e,r,h,q,t,he,k⟩;replace he:ju d e=some r:=he;unfold ju at he;split at he;.obtain⟨hc,he⟩:=bB he;subst he;rw[q.int]at m;rw[t.int]at g;exact Pz f s σ H _ _ v u Q I m g ⟨_,_,rfl,rfl,hc,cF.cX h (bC _) k⟩
 . rename_i xs i;obtain⟨⟨h1,o,l⟩,he⟩:=bB he;subst he;obtain⟨a,vs,rfl,w,j⟩:=q.lst h;rw[t.int]at g;have z:i<2^63:=by have A:=Nat.le_mul_of_pos_left i.toNat o;have C:i.toNat<=16777216:=le_trans A l;omega
   exact JN f s σ H _ _ v u Q I m g ⟨a,i,vs,rfl,rfl,w,by omega,z,by rw[j.length];exact l,λp B=>Dy h (j.rep i.toNat) B k⟩
 . rename_i xs i;obtain⟨⟨h1,o,l⟩,he⟩:=bB he;subst he;obtain⟨a,vs,rfl,w,j,E⟩:=q.tup h;rw[t.int]at g;have z:i<2^63:=by have A:=Nat.le_mul_of_pos_left i.toNat o;have C:i.toNat<=16777216:=le_trans A l;omega
   refine KJ f s σ H _ _ v u Q I m g ⟨a,i,vs,rfl,rfl,w,by rw[j.length];exact o,h1,z,by rw[j.length];exact l,λe=>?_,λe p B=>za h (j.rep i.toNat) B k⟩;subst e;refine cF.cX h ?_ k;have G:(replicate (1:Int).toNat xs).flatten=xs:=by simp
   rw[G];exact E
 .cases he
theorem pP:fW X (binaryOp .FloorDiv) (rD X.K (rJ .fdiv)):=by
 rintro f s σ H x y v u Q I g h⟨F,d,e,r,l,m,o,he,k⟩;replace he:qz d e=some r:=he;unfold qz at he;split at he
 . rename_i i j;obtain⟨⟨h1,w⟩,he⟩:=bB he;subst he;rw[m.int]at g;rw[o.int]at h;obtain⟨t,rfl⟩:=g;obtain⟨t',rfl⟩:=h;have q:j.natAbs.log2<9000:=by
    have:j.natAbs<2^200:=by
     have:(2:Nat)^200=1606938044258990275541962092341162602522202993782792835301376:=by decide
     omega
    have z:=(Nat.log2_lt (by omega)).mpr this;omega
   exact floordiv_int (by omega) (by rw[Int.fdiv_eq_ediv_of_nonneg i (by omega)];exact⟨.int _,H,I.tok _,⟨_,rfl⟩,cF.cX l (bC _) k⟩) (.inl (PyProof.noPylong_of_log2 q))
 .cases he
theorem fC:fW X (binaryOp .Mod) (rD X.K (rJ .mod)):=by
 rintro f s σ H x y v u Q I g h⟨F,d,e,r,j,l,m,he,k⟩;replace he:vO d e=some r:=he;unfold vO at he;split at he;.obtain⟨h1,he⟩:=bB he;subst he;rw[l.int]at g;rw[m.int]at h;exact R8 f s σ H _ _ v u Q I g h ⟨_,_,rfl,rfl,h1,cF.cX j (bC _) k⟩
 .cases he
theorem fZ:fW X (binaryOp .Pow) (rD X.K (rJ .pow)):=by
 rintro f s σ H x y v u Q I g h⟨F,d,e,r,j,l,m,he,k⟩;replace he:xx d e=some r:=he;unfold xx at he;split at he;.obtain⟨⟨h1,q,o⟩,he⟩:=bB he;subst he;rw[l.int]at g;rw[m.int]at h;exact RX f s σ H _ _ v u Q I g h ⟨_,_,rfl,rfl,⟨h1,by omega,o⟩,cF.cX j (bC _) k⟩
 .cases he
theorem au{o:Op}{op:Operator}(ho:fW X (binaryOp op) (rD X.K (rJ o)))(f:SX X c a pa)(g:SX X c b pb):SX X c (.BinOp a op b pos) (.bin o pa pb):=ug (λh1 h=>Xa ho h1 h) f g (λρ=>rfl) rfl
theorem iT(j:SX X c a pa):SX X c (.UnaryOp .USub a pos) (.neg pa):=by refine QR (f:=FT) (λh1=>V5 ?_ h1) j (λρ=>rfl) rfl;rintro g s σ H x v Q I h⟨F,d,r,l,m,he,k⟩;unfold FT at he;obtain⟨i,o,q⟩:=map_some he;subst q;cases d<;>cases o;rw[m.int]at h;exact Rx g s σ H _ v Q I h ⟨_,rfl,cF.cX l (bC _) k⟩
theorem Ac{f:Int->Int->Bool}(ho:fW X (compareOp op) (Ju λi j=>.bl (f i j))):fW X (compareOp op) (rD X.K λx y=>(Jt f x y).map λk=>.val (.bl k)):=by
 rintro g s σ H x y v u Q I l m⟨F,d,e,r,o,q,w,he,k⟩;obtain⟨t,h,z⟩:=map_some (show(Jt f d e).map _=some r from he);subst z;unfold Jt at h;split at h;.cases h;rw[q.int]at l;rw[w.int]at m;exact ho g s σ H _ _ v u Q I l m ⟨_,_,rfl,rfl,cF.cX o (fO _) k⟩
 .cases h
theorem xT{f:Int->Int->Bool}(ho:fW X (compareOp op) (Ju λi j=>.bl (f i j))){o:Cm}(hc:cm o=Jt f):fW X (compareOp op) (rD X.K (pg o)):=by
 have e:pg o=λx y=>(Jt f x y).map λk=>.val (.bl k):=by funext x y;unfold pg;rw[hc]
 rw[e];exact Ac ho
theorem Th:fW X (compareOp .Lt) (rD X.K λx y=>(Jt (λi j=>decide (i<j)) x y).map λk=>.val (.bl k)):=Ac Wj
theorem uz:fW X (compareOp .LtE) (rD X.K (pg .le)):=xT Xn rfl
theorem jF:fW X (compareOp .Gt) (rD X.K (pg .gt)):=xT WD rfl
theorem Gr:fW X (compareOp .GtE) (rD X.K (pg .ge)):=xT Wm rfl
theorem Cz{d:D}(h:dj K F H v d):decide (v=.non)=jz d:=by cases d with
 |non=>rw[h.non];rfl|bl _=>rw[h.bl];rfl|int _=>rw[h.int];rfl|str _=>rw[h.str];rfl|tup _=>
   rcases h with h|⟨a,_,_,rfl,_⟩;.rw[Rep]at h;obtain⟨a,_,rfl,_⟩:=h;rfl
   .rfl|lst _=>
   rcases h with h|⟨a,_,_,rfl,_⟩;.rw[Rep]at h;obtain⟨a,_,rfl,_⟩:=h;rfl
   .rfl|dH _=>
   rcases h with h|⟨a,_,_,rfl,_⟩;.rw[Rep]at h;obtain⟨a,_,rfl,_⟩:=h;rfl
   .rfl|dv _ _=>
   rcases h with h|⟨a,_,_,rfl,_⟩;.rw[Rep]at h;obtain⟨a,_,_,rfl,_⟩:=h;rfl
   .rfl
theorem BR:fW X (compareOp .IsNot) (rD X.K (pg .Jg)):=by
 rintro f s σ H x y v u Q I h j⟨F,d,e,r,l,m,o,he,k⟩;obtain⟨t,g,q⟩:=map_some (show(YT true d e).map _=some r from he);subst q;unfold YT at g;split at g;.cases g;exact KC f s σ H x y v u Q I h j ⟨o.non,by rw[Cz m];exact cF.cX l (fO _) k⟩
 .cases g
theorem gV{o:Cm}(ho:fW X (compareOp op) (rD X.K (pg o)))(f:SX X c a pa)(g:SX X c b pb)(h:behindInMarks op b=false):SX X c (.Compare a [op] [b] pos) (.cmp o pa pb):=ug (λh1 j=>Lq ho h1 j h) f g (λρ=>rfl) rfl
theorem Hx{o C:Cm}{l:CmpOp}(ho:fW X (compareOp op) (rD X.K (pg o)))(A:fW X (compareOp l) (rD X.K (pg C)))(E:SX X c a pa)(G:SX X c b pb)(hd:SX X c d pd)(I:lastMarks [op,l] [b,d]=false:=by with_unfolding_all rfl):SX X c (.Compare a [op,l] [b,d] pos) (.chain o C pa pb pd):=by
 obtain⟨ta,tb,h1,J,L⟩:=E.iu G;obtain⟨td,M,N⟩:=hd.cW;refine⟨eY (GR ho A h1 J M I) ?_,λi h=>by cases h⟩;rintro σ H Q⟨F,ρ,r,ρ',g,e,k⟩;rw[HH.E9]at e;obtain⟨m,O,U,e⟩:=aj e;obtain⟨t,W,j,e⟩:=aj e;have Y:=aB j;clear j;obtain⟨j,B⟩:=Y;subst B;have f:flat m.2=true/\cm o m.1 m.2=some t:=by
  split at j;.rename_i Z;exact⟨Z,j⟩
  .cases j
 obtain⟨f,j⟩:=f;refine L g U λv u F' H' s pv y=>⟨F',m.1,m.2,.val (.bl t),s.gs.sub,pv,y,by unfold pg;rw[j];rfl,λw F2 H2 x q=>?_⟩;have s2:=s.trans (x.stp s.gs);have q:Rep X.K F2 w (.bl t):=q;rw[Rep]at q;subst q;refine⟨t,rfl,?_⟩;cases t with|false=>rw[if_neg Bool.false_ne_true]at e ⊢;cases e;exact k _ F2 H2 s2 (show Rep X.K F2 _ _ from fO _)|true=>
   rw[if_pos rfl]at e ⊢;obtain⟨z,ac,B,e⟩:=aj e;obtain⟨e4,e5⟩:=aB e;subst e5;refine N s2.gs B λw F3 H3 s3 pw=>⟨F3,m.2,z,r,s3.gs.sub,?_,pw,e4,λw' F4 H4 x4 q=>?_⟩
   . have x1:=x.fs;have x2:=s3.bU;rcases y with y|⟨_,_,_,_,_,_,h⟩;.exact .inl ((y.mono x1).mono x2)
     .rw[h]at f;cases f
   .have s4:=s2.trans s3;exact k w' F4 H4 (s4.trans (x4.stp s4.gs)) (.later s4 (q.qp s4.gs))
end
section
variable{X:Cx}{c:Call}{e a b d:Expr}{p pa pb pd:P}{pos:Pos}{rest:List Expr}
theorem mQ{x:D}{k:Bool}(h:zb x=some k):x=.bl k:=by cases x<;>cases h;rfl
theorem di{x:D}{k:Int}(h:gn x=some k):x=.int k:=by cases x<;>cases h;rfl
theorem cT.bool{g j:Hp}{f:L2.St}{r:R}{k:Bool}(h:cT K g ρ' f j ρ σ H v r)(e:r.d=.bl k):v=.bl k:=by cases r with|val d=>cases(show d=.bl k from e);have h:Rep K g v (.bl k):=h;rw[Rep]at h;exact h|own ds=>cases e
def ST(X:Cx)(c:Call)(e:Expr)(p:P):Prop:=PT X e (Eo X.K (iM (HH.ev c p)))
def SW(X:Cx)(c:Call)(e:Expr)(p:P):Prop:=PW X e (Eo X.K (iM (HH.ev c p)))
theorem SW.st(h:SW X c e p):ST X c e p:=PW.pt h
theorem nu{t:TE}{Q:Bool->Hp->Prop}(hi:∀Q,sU X.K (HH.ev c p) σ H Q->t σ H Q)(h:Eo X.K (iM (HH.ev c p)) σ H Q):t σ H λx l=>∃k,x=.bl k/\Q k l:=by obtain⟨F,ρ,k,ρ',g,e,q⟩:=h;obtain⟨r,j,m,f⟩:=aj e;have o:=aB f;clear f;obtain⟨f,u⟩:=o;subst u;exact hi _ ⟨F,ρ,r,j,g,m,λv w y s z=>⟨k,z.bool (mQ f),q w y s⟩⟩
theorem dZ(h:SX X c e p)(he:∀f,isTrue e X.env f=(do let v<-f;standAt e.pos;holding [v] (truthy v)):=by intro _;rfl):ST X c e p:=wW (Ry h.ev he) λσ H Q q=>nu (λ_ z=>z) q
theorem bR{o:Cm}(ho:fW X (compareOp op) (rD X.K (pg o)))(j:SX X c a pa)(l:SX X c b pb)(m:behindInMarks op b=false):ST X c (.Compare a [op] [b] pos) (.cmp o pa pb):=by obtain⟨y,A,h1,B,C⟩:=j.iu l;refine wW (Ab ho h1 B m) λσ H Q q=>nu (t:=RJ (rD X.K (pg o)) y A) (λQ z=>?_) q;obtain⟨F,ρ,r,ρ',g,e,k⟩:=z;rw[HH.E8]at e;obtain⟨h,E,G,f⟩:=aj e;have I:=aB f;clear f;obtain⟨f,J⟩:=I;subst J;refine C g G λv u L W s M N=>⟨L,h.1,h.2,r,s.gs.sub,M,N,f,λw F2 O x U=>?_⟩;exact k w F2 O (s.trans (x.stp s.gs)) (.later s (U.qp s.gs))
theorem gZ(l:ST X c a pa):ST X c (.UnaryOp .Not a pos) (.not pa):=by
 refine wW (Q5 l) ?_;rintro σ H Q⟨F,ρ,k,ρ',g,e,q⟩;unfold iM at e;rw[HH.E5]at e;obtain⟨r,m,o,f⟩:=aj e;obtain⟨h,t,u,w⟩:=aj o;cases w;have y:=aB f;clear f;obtain⟨f,z⟩:=y;subst z;have f:(!h)=k:=by cases f;rfl
 exact⟨F,ρ,h,_,g,u,λA j s=>by show Q (!h) j;rw[f];exact q A j s⟩
theorem J2(ρ:List Sl):iM (HH.ev c (.and pa pb)) ρ=(iM (HH.ev c pa) ρ).bind λx ρ=>if x then iM (HH.ev c pb) ρ else .ok false ρ:=by unfold iM;rw[HH.E6];unfold iM;cases HH.ev c pa ρ with|exc _ _=>rfl|stuck=>rfl|ok r f=>simp only[Res.bind];cases h:zb r.d with|none=>rfl|some k=>cases k with|false=>rfl|true=>simp only[lift,if_true];cases HH.ev c pb f with|exc _ _=>rfl|stuck=>rfl|ok g j=>simp only[Res.bind];cases h2:zb g.d with|none=>rfl|some l=>rfl
theorem PB(ρ:List Sl):iM (HH.ev c (.or pa pb)) ρ=(iM (HH.ev c pa) ρ).bind λx ρ=>if x then .ok true ρ else iM (HH.ev c pb) ρ:=by unfold iM;rw[HH.E7];unfold iM;cases HH.ev c pa ρ with|exc _ _=>rfl|stuck=>rfl|ok r f=>simp only[Res.bind];cases h:zb r.d with|none=>rfl|some k=>cases k with|true=>rfl|false=>simp only[lift,false_eq_true,if_false];cases HH.ev c pb f with|exc _ _=>rfl|stuck=>rfl|ok g j=>simp only[Res.bind];cases h2:zb g.d with|none=>rfl|some l=>rfl
theorem uV(f:ST X c a pa):SW X c (.BoolOp .And [a] pos) pa:=K6 f
theorem iR(f:ST X c a pa):SW X c (.BoolOp .Or [a] pos) pa:=Td f
theorem xY(h:ST X c a pa)(j:SW X c (.BoolOp .And (b::rest) pos) pb):SW X c (.BoolOp .And (a::b::rest) pos) (.and pa pb):=by refine N6 (RT h j) ?_;rintro σ H Q⟨F,ρ,k,ρ',g,e,q⟩;rw[J2]at e;obtain⟨x,f,l,e⟩:=aj e;refine⟨F,ρ,x,f,g,l,λF1 m s1=>?_⟩;cases x with|true=>rw[if_pos rfl]at e ⊢;exact⟨F1,f,k,ρ',s1.gs,e,λF2 o s2=>q F2 o (s1.trans s2)⟩|false=>rw[if_neg Bool.false_ne_true]at e ⊢;cases e;exact q F1 m s1
theorem j9(h:ST X c a pa)(j:SW X c (.BoolOp .Or (b::rest) pos) pb):SW X c (.BoolOp .Or (a::b::rest) pos) (.or pa pb):=by refine N6 (Wk h j) ?_;rintro σ H Q⟨F,ρ,k,ρ',g,e,q⟩;rw[PB]at e;obtain⟨x,f,l,e⟩:=aj e;refine⟨F,ρ,x,f,g,l,λF1 m s1=>?_⟩;cases x with|true=>rw[if_pos rfl]at e ⊢;cases e;exact q F1 m s1|false=>rw[if_neg Bool.false_ne_true]at e ⊢;exact⟨F1,f,k,ρ',s1.gs,e,λF2 o s2=>q F2 o (s1.trans s2)⟩
theorem mO{op}(f:SX X c a pa):PE X (.BoolOp op [a] pos) (sU X.K (HH.ev c pa)):=Rz f.ev
theorem pL(m:SX X c a pa)(o:PE X (.BoolOp .And (b::rest) pos) (sU X.K (HH.ev c pb))):SX X c (.BoolOp .And (a::b::rest) pos) (.and pa pb):=by refine⟨eY (Qj m.ev o) ?_,λi h=>by cases h⟩;rintro σ H Q⟨F,ρ,r,ρ',g,e,k⟩;rw[HH.E6]at e;obtain⟨x,f,q,e⟩:=aj e;refine nu (c:=c) (λ_ z=>z) (Q:=λx j=>if x=true then sU X.K (HH.ev c pb) σ j Q else Q (.bl false) j) ⟨F,ρ,x,f,g,q,λF1 j s1=>?_⟩;cases x with|true=>rw[if_pos rfl]at e ⊢;obtain⟨y,s,t,u⟩:=aj e;cases u;obtain⟨w,A,B,l⟩:=aj t;have C:=aB l;clear l;obtain⟨l,E⟩:=C;subst E;refine⟨F1,f,w,_,s1.gs,B,λv F2 G s2 I=>?_⟩;rw[I.bool (mQ l)];exact k _ F2 G (s1.trans s2) (show Rep X.K F2 _ _ from fO _)|false=>rw[if_neg Bool.false_ne_true]at e ⊢;cases e;exact k _ F1 j s1 (show Rep X.K F1 _ _ from fO _)
theorem Ob(m:SX X c a pa)(o:PE X (.BoolOp .Or (b::rest) pos) (sU X.K (HH.ev c pb))):SX X c (.BoolOp .Or (a::b::rest) pos) (.or pa pb):=by refine⟨eY (HS m.ev o) ?_,λi h=>by cases h⟩;rintro σ H Q⟨F,ρ,r,ρ',g,e,k⟩;rw[HH.E7]at e;obtain⟨x,f,q,e⟩:=aj e;refine nu (c:=c) (λ_ z=>z) (Q:=λx j=>if x=true then Q (.bl true) j else sU X.K (HH.ev c pb) σ j Q) ⟨F,ρ,x,f,g,q,λF1 j s1=>?_⟩;cases x with|true=>rw[if_pos rfl]at e ⊢;cases e;exact k _ F1 j s1 (show Rep X.K F1 _ _ from fO _)|false=>rw[if_neg Bool.false_ne_true]at e ⊢;obtain⟨y,s,t,u⟩:=aj e;cases u;obtain⟨w,A,B,l⟩:=aj t;have C:=aB l;clear l;obtain⟨l,E⟩:=C;subst E;refine⟨F1,f,w,_,s1.gs,B,λv F2 G s2 I=>?_⟩;rw[I.bool (mQ l)];exact k _ F2 G (s1.trans s2) (show Rep X.K F2 _ _ from fO _)
theorem uT(hc:ST X c e p)(w:SX X c a pa)(y:SX X c b pb):SX X c (.IfExp e a b pos) (.Oq p pa pb):=by refine⟨eY (Et hc w.ev y.ev) ?_,λi h=>by cases h⟩;rintro σ H Q⟨F,ρ,r,ρ',g,e,k⟩;rw[HH.E10]at e;obtain⟨x,f,z,e⟩:=aj e;refine⟨F,ρ,x,f,g,z,λF1 A s1=>?_⟩;cases x with|true=>rw[if_pos rfl]at e ⊢;obtain⟨j,l,m,o⟩:=aj e;cases o;refine⟨F1,f,j,_,s1.gs,m,λv F2 q s2 s=>?_⟩;obtain⟨t,s3,_,u⟩:=s2.cM s;exact k v t q (s1.trans s3) u|false=>rw[if_neg Bool.false_ne_true]at e ⊢;obtain⟨j,l,m,o⟩:=aj e;cases o;refine⟨F1,f,j,_,s1.gs,m,λv F2 q s2 s=>?_⟩;obtain⟨t,s3,_,u⟩:=s2.cM s;exact k v t q (s1.trans s3) u
theorem vg:∀{ps:List P}{ρ ρ':List Sl}{ds:List D},evs c ps ρ=.ok ds ρ'->ds.length=ps.length|[],_,_,_,h=>by rw[HW]at h;cases h;rfl|p::ps,_,_,_,h=>by rw[vo]at h;obtain⟨r,f,_,h⟩:=aj h;obtain⟨xs,g,j,h⟩:=aj h;cases h;simp[vg j]
theorem aH:SA X c [] []:=⟨vD eU λσ H Q⟨F,ρ,ds,ρ',g,e,k⟩=>by rw[HW]at e;cases e;exact k [] F H (.refl g) .nil,rfl⟩
theorem oY{ps:List P}(h:SX X c a pa)(hr:SA X c es ps)(hs:starEach (a::es) X.env=(false,eval a X.env)::starEach es X.env:=by rfl):SA X c (a::es) (pa::ps):=by refine⟨vD (bW h.ev hr.1 hs) ?_,by simp[hr.2]⟩;rintro σ H Q⟨F,ρ,ds,ρ',g,e,k⟩;rw[vo]at e;obtain⟨r,f,j,e⟩:=aj e;obtain⟨xs,l,m,e⟩:=aj e;cases e;refine⟨F,ρ,r,f,g,j,λv w y s o=>?_⟩;obtain⟨F1,s1,_,q⟩:=s.cM o;refine⟨F1,f,xs,_,s1.gs,m,λvs F2 t s2 u=>?_⟩;exact k _ F2 t (s1.trans s2) (.cons (q.mono s2.bU) u)
theorem Ext.Lb{h j:Hp}{Q:VK}{xs:List V}(s:aC K j ρ σ h F ρ' σ H)(r:aF K F xs ds)(k:∀v g f,aC K j ρ σ h g ρ' σ f->cT K g ρ' σ f ρ σ h v (.val (.tup ds))->Q v f)(p:Addr)(l:H p=none):Q (.ref p) (upd H p (.tup xs)):=za s.gs.sub r l λv g f x m=>k v g f (s.trans (x.stp s.gs)) m
theorem cO{ps:List P}{x1}(h:SA X c es ps)(hz:ps.length<=sizeLine:=by decide):SX X c (.Tuple es x1 pos) (.tup ps):=by refine⟨eY (R4 h.1) ?_,λi h=>by cases h⟩;rintro σ H Q⟨F,ρ,r,ρ',g,e,k⟩;rw[HH.E11]at e;obtain⟨ds,l,f,e⟩:=aj e;cases e;exact⟨F,ρ,ds,_,g,f,λvs o q s j=>⟨by rw[j.length,vg f];exact hz,λp m=>Ext.Lb s j k p m⟩⟩
theorem bA{ps:List P}(h:SA X c es ps)(hz:ps.length<=sizeLine:=by decide):SX X c (.List es pos) (.lst ps):=by refine⟨eY (Qk h.1) ?_,λi h=>by cases h⟩;rintro σ H Q⟨F,ρ,r,ρ',g,e,k⟩;rw[HH.E12]at e;obtain⟨ds,l,f,e⟩:=aj e;cases e;exact⟨F,ρ,ds,_,g,f,λvs t u s j=>⟨by rw[j.length,vg f];exact hz,λp m=>Dy s.gs.sub j m λv F2 o x q=>k v F2 o (s.trans (x.stp s.gs)) (.later s (q.qp s.gs))⟩⟩
theorem HJ{i:Int}{d:D}(h:at' ds i=some d):∃j,L2.iy ds.length i=some j/\ds[j]?=some d:=bZ h
theorem acQ:IxR X (rD X.K Eb):=by
 rintro f slice g s σ H x y v u Q I o l⟨F,d,e,r,m,A,B,he,k⟩hs;unfold Eb at he;obtain⟨ds,C,he⟩:=bZ he;obtain⟨i,E,he⟩:=bZ he;obtain⟨z,G,he⟩:=map_some he;subst he;cases di E;rw[B.int]at l;obtain⟨p,xs,rfl,hq,q⟩:=A.items m C;obtain⟨j,h1,J⟩:=HJ G;obtain⟨w,L,t⟩:=q.get J;have h:Hv xs i=some w:=by unfold Hv;rw[q.length,h1];exact L
 rcases hq with hq|hq;.exact Aw f slice g s σ H _ _ v u Q I o l ⟨p,xs,i,w,rfl,rfl,hq,h,cF.cX m t k⟩ hs
 .exact RN f slice g s σ H _ _ v u Q I o l ⟨p,xs,i,w,rfl,rfl,hq,h,cF.cX m t k⟩ hs
theorem ao(g:SX X c a pa)(h:SX X c b pb)(hs:u9 b:=by intro _ _;rfl):SX X c (.Subscript a b pos) (.idx pa pb):=ug (f:=Eb) (λh1 j=>Mw acQ h1 j hs) g h (λρ=>rfl) rfl
def Ht(K:PySem.W.Frag)(f:D->Option R):List V->Hp->VK->Prop:=λxs H Q=>∃x,xs=[x]/\rD1 K f x H Q
theorem km{E:Expr}{f:D->Option R}{q:P}(l:∀{t},PA X [a] t->PE X E (We (Ht X.K f) t))(m:SX X c a pa)(o:∀ρ,HH.ev c q ρ=(HH.cW (isVar pa) (HH.ev c pa) ρ).bind λx ρ=>lift (f x) ρ)(u:isVar q=none)(hs:starEach [a] X.env=(false,eval a X.env)::starEach [] X.env:=by rfl):SX X c E q:=by obtain⟨M,h1,y⟩:=m.cW;refine⟨eY (l (bW h1 eU hs)) ?_,λi h=>by rw[u]at h;cases h⟩;rintro σ H Q⟨F,ρ,r,ρ',g,e,k⟩;rw[o]at e;obtain⟨x,z,A,j⟩:=aj e;have B:=aB j;clear j;obtain⟨j,C⟩:=B;subst C;refine y g A λv G N s I=>⟨v,rfl,G,x,r,s.gs.sub,I,j,λw F2 J x L=>?_⟩;exact k w F2 J (s.trans (x.stp s.gs)) (.later s (L.qp s.gs))
theorem Yl:dC X (.builtin "len") (Ht X.K λx=>blt .len [x]):=by rintro f s σ H xs h Q I r⟨x,j,F,d,l,g,m,he,k⟩;obtain⟨ds,o,he⟩:=map_some (show(items d).map _=some l from he);subst he;obtain⟨p,ys,rfl,q,t⟩:=m.items g o;exact u0 f s σ H xs h Q I r ⟨p,ys,j,q,by rw[t.length];exact cF.cX g (bC _) k⟩
theorem Rq:dC X (.type "list") (Ht X.K λx=>blt .list [x]):=by rintro f s σ H xs h Q I r⟨x,j,F,d,m,g,o,he,k⟩;obtain⟨ds,q,he⟩:=map_some (show(items d).map _=some m from he);subst he;obtain⟨p,ys,rfl,t,u⟩:=o.items g q;exact vm f s σ H xs h Q I r ⟨p,ys,j,t,λl w=>Dy g u w k⟩
theorem La:dC X (.type "tuple") (Ht X.K λx=>blt .tuple [x]):=by rintro f s σ H xs m Q I r⟨x,o,F,d,u,g,q,he,k⟩;obtain⟨ds,h,he⟩:=map_some (show(items d).map _=some u from he);subst he;cases d with|tup es=>cases h;obtain⟨a,ys,rfl,j,t,rt⟩:=q.tup g;exact kj f s σ H xs m Q I r ⟨a,ys,o,.inr ⟨j,cF.cX g rt k⟩⟩|lst es=>cases h;obtain⟨a,ys,rfl,j,t⟩:=q.lst g;exact kj f s σ H xs m Q I r ⟨a,ys,o,.inl ⟨j,λl w=>za g t w k⟩⟩|_=>cases h
theorem dg(f:x="len")(g:Gl X x)(j:X.mg x=none)(k:SX X c a pa)(hs:starEach [a] X.env=(false,eval a X.env)::starEach [] X.env:=by rfl):SX X c (.Call (.Name x p') [a] [] pos) (.blt .len [pa]):=by subst f;exact km (λh=>fK Yl g j PySem.boot_len h (he:=hs)) k (λρ=>rfl) rfl hs
theorem vh(f:x="list")(g:Gl X x)(j:X.mg x=none)(k:SX X c a pa)(hs:starEach [a] X.env=(false,eval a X.env)::starEach [] X.env:=by rfl):SX X c (.Call (.Name x p') [a] [] pos) (.blt .list [pa]):=by subst f;exact km (λh=>jV Rq g j (by decide+kernel) h (he:=hs)) k (λρ=>rfl) rfl hs
theorem pX(f:x="tuple")(g:Gl X x)(j:X.mg x=none)(k:SX X c a pa)(hs:starEach [a] X.env=(false,eval a X.env)::starEach [] X.env:=by rfl):SX X c (.Call (.Name x p') [a] [] pos) (.blt .tuple [pa]):=by subst f;exact km (λh=>jV La g j (by decide+kernel) h (he:=hs)) k (λρ=>rfl) rfl hs
end
def JK(K:PySem.W.Frag)(np:Nat)(f:List Sl->Res R):Sp:=λvs H Q _=>vs.length=np/\∃F args r a,GS K F args (vs.map some) H/\f args=.ok r a/\∀v e b c,aC K F args (vs.map some) H e a b c->cT K e a b c args (vs.map some) H v r->Q v c
section
variable{K:PySem.W.Frag}
def yL(K:PySem.W.Frag)(F:Hp)(ρ:List Sl)(σ:L2.St)(H:Hp)(ρ₀:List Sl)(H₀:Hp)(v:V):Arg->Prop|.dat d=>Rep K F v d|.tmp ds=>∃x xs,v=.ref x/\H x=some (.lst xs)/\F x=none/\aF K F xs ds/\¬ Own ρ σ x/\(Own ρ₀ σ x\/H₀ x=none)|.fH i=>σ[i]?=some (some v)
structure wC(K:PySem.W.Frag)(F:Hp)(ρ:List Sl)(σ:L2.St)(H:Hp)(ρ₀:List Sl)(H₀:Hp)(as:List Arg)(vs:List V):Prop where
 len:as.length=vs.length
 one:∀(j:Nat)(a:Arg)(v:V),as[j]?=some a->vs[j]?=some v->yL K F ρ σ H ρ₀ H₀ v a
 dis:∀(j k:Nat)(ds es:List D)(x:Addr),as[j]?=some (.tmp ds)->as[k]?=some (.tmp es)->vs[j]?=some (.ref x)->vs[k]?=some (.ref x)->j=k
theorem yL.later{b f:Hp}{a:Arg}(s:aC K F ρ σ H b ρ' σ f)(h:yL K F ρ σ H ρ₀ H₀ v a):yL K b ρ' σ f ρ₀ H₀ v a:=by cases a with|dat d=>exact Rep.mono s.bU h|fH i=>exact h|tmp ds=>
   obtain⟨x,xs,h1,c,g,j,e,k⟩:=h;refine⟨x,xs,h1,s.keep x _ c e,?_,j.mono s.bU,λo=>?_,k⟩;.cases q:b x with|none=>rfl|some o=>
       rcases s.xK x g (by rw[q];simp)with z|z;.exact absurd z e
       .exact(HY c z).elim
   . rcases s.vB x o with z|z;.exact e z
     .rw[c]at z;cases z
theorem wC.nil:wC K F ρ σ H ρ₀ H₀ [] []:=⟨rfl,λj a v h=>by simp at h,λj k ds es x h=>by simp at h⟩
theorem wC.cons{F H H₀:Hp}{ρ ρ₀:List Sl}{σ:L2.St}{a:Arg}{v:V}{as:List Arg}{vs:List V}(h:yL K F ρ σ H ρ₀ H₀ v a)(t:wC K F ρ σ H ρ₀ H₀ as vs)(hd:∀ds x,a=.tmp ds->v=.ref x->∀(k:Nat)es,as[k]?=some (.tmp es)->vs[k]?≠some (.ref x)):wC K F ρ σ H ρ₀ H₀ (a::as) (v::vs):=by
 refine⟨by simp[t.len],λj b u h1 c=>?_,λj k ds es x h1 c e f=>?_⟩;.cases j with|zero=>simp at h1 c;subst h1;subst c;exact h|succ j=>exact t.one j b u (by simpa using h1) (by simpa using c)
 .cases j with
   |zero=>cases k with|zero=>rfl|succ k=>simp at h1 e;exact absurd (by simpa using f) (hd ds x h1 e k es (by simpa using c))
   |succ j=>cases k with|zero=>simp at c f;exact absurd (by simpa using e) (hd es x c f j ds (by simpa using h1))|succ k=>rw[t.dis j k ds es x (by simpa using h1) (by simpa using c) (by simpa using e) (by simpa using f)]
def GX(ρ:List Sl):Arg->Sl->Prop|.dat d,s=>s=.val false d|.tmp ds,s=>s=.own false ds|.fH i,s=>(∃b d,ρ[i]?=some (.val b d)/\s=.val false d)\/(∃b ds,ρ[i]?=some (.own b ds)/\s=.own true ds)\/∃ds,ρ[i]?=some (.lent ds)/\s=.lent ds
theorem qJ{ρ:List Sl}:∀{as:List Arg}{c:List Nat}{args:List Sl},cj ρ as c=some args->args.length=as.length/\(∀(j:Nat)(a:Arg)(s:Sl),as[j]?=some a->args[j]?=some s->GX ρ a s)/\(∀(j:Nat)(i:Nat)(s:Sl)ds,as[j]?=some (.fH i)->args[j]?=some s->lst? s=some ds->i∉c)/\(∀(j k:Nat)(i:Nat)(s t:Sl)ds es,as[j]?=some (.fH i)->as[k]?=some (.fH i)->args[j]?=some s->args[k]?=some t->lst? s=some ds->lst? t=some es->j=k)
 |[],c,args,h=>by rw[zq]at h;cases h;exact⟨rfl,λj a s h=>by simp at h,λj i s ds h=>by simp at h,λj k i s t ds es h=>by simp at h⟩|a::as,c,args,h=>by--the adN slot,the adO
   have A:∃s0 r u,args=s0::r/\cj ρ as u=some r/\GX ρ a s0/\((∃i ds,a=.fH i/\lst? s0=some ds/\u=i::c/\i∉c)\/((∀i ds,a=.fH i->lst? s0≠some ds)/\u=c)):=by cases a with|dat d=>rw[zj]at h;obtain⟨r,g,l⟩:=map_some h;exact⟨_,r,c,l.symm,g,rfl,.inr ⟨λi ds z=>(by cases z),rfl⟩⟩|tmp d=>rw[yC]at h;obtain⟨r,g,l⟩:=map_some h;exact⟨_,r,c,l.symm,g,rfl,.inr ⟨λi ds z=>(by cases z),rfl⟩⟩|fH i=>
      rw[qD]at h;split at h;.rename_i b d q;obtain⟨r,g,l⟩:=map_some h;exact⟨_,r,c,l.symm,g,.inl ⟨b,d,q,rfl⟩,.inr ⟨λ_ _ _ z=>(by cases z),rfl⟩⟩
      . rename_i b ds q;split at h;.cases h
        .rename_i o;obtain⟨r,g,l⟩:=map_some h;exact⟨_,r,_,l.symm,g,.inr (.inl ⟨b,ds,q,rfl⟩),.inl ⟨i,_,rfl,rfl,rfl,by simpa using o⟩⟩
      . rename_i ds q;split at h;.cases h
        .rename_i o;obtain⟨r,g,l⟩:=map_some h;exact⟨_,r,_,l.symm,g,.inr (.inr ⟨ds,q,rfl⟩),.inl ⟨i,_,rfl,rfl,rfl,by simpa using o⟩⟩
      .cases h
   obtain⟨s0,r,u,rfl,hr,B,o⟩:=A;obtain⟨N,l2,C,O⟩:=qJ hr;have sub:∀i,i∉u->i∉c:=λi hi L=>by
    rcases o with⟨_,_,_,_,rfl,_⟩|⟨_,rfl⟩;.exact hi (mem_cons_of_mem _ L)
    .exact hi L
   refine⟨by simp[N],λj b s h1 f=>?_,λj i s ds h1 f p=>?_,λj k i s t ds es h1 f p y E G=>?_⟩;.cases j with|zero=>simp at h1 f;subst h1;subst f;exact B|succ j=>exact l2 j b s (by simpa using h1) (by simpa using f)
   .cases j with|zero=>
       simp at h1 f;subst h1;subst f;rcases o with⟨M,_,e,_,_,m⟩|⟨m,_⟩;.cases e;exact m
       .exact absurd p (m i ds rfl)|succ j=>exact sub i (C j i s ds (by simpa using h1) (by simpa using f) p)
   . have Q:∀(k:Nat)(t:Sl)es,a=.fH i->lst? s0=some ds->(as[k]?=some (.fH i))->r[k]?=some t->lst? t=some es->False:=λk t es w I J ht he=>by
      rcases o with⟨M,_,e,_,rfl,m⟩|⟨m,_⟩;.rw[w]at e;cases e;exact C k i t es J ht he mem_cons_self
      .exact m i ds w I
     have U:∀(k:Nat)(t:Sl)es,a=.fH i->lst? s0=some es->(as[k]?=some (.fH i))->r[k]?=some t->lst? t=some ds->False:=λk t es w I J ht he=>by
      rcases o with⟨M,_,e,_,rfl,m⟩|⟨m,_⟩;.rw[w]at e;cases e;exact C k i t ds J ht he mem_cons_self
      .exact m i es w I
     cases j with
     |zero=>cases k with|zero=>rfl|succ k=>simp at h1 p;subst p;exact(Q k t es h1 E (by simpa using f) (by simpa using y) G).elim
     |succ j=>cases k with|zero=>simp at f y;subst y;exact(U j s es f G (by simpa using h1) (by simpa using p) E).elim|succ k=>rw[O j k i s t ds es (by simpa using h1) (by simpa using f) (by simpa using p) (by simpa using y) E G]
theorem wC.get(A:wC K F ρ σ H ρ₀ H₀ as vs){args:List Sl}{j:Nat}{s:Sl}(c:args.length=as.length)(h:args[j]?=some s):∃a v,as[j]?=some a/\vs[j]?=some v/\yL K F ρ σ H ρ₀ H₀ v a:=by
 have e:j<args.length:=(eX h).1;have h1:j<as.length:=by omega
 have b:j<vs.length:=by rw[<-A.len];exact h1
 exact⟨as[j],vs[j],by simp[h1],by simp[b],A.one j _ _ (by simp[h1]) (by simp[b])⟩
theorem args_gs{args:List Sl}(g:GS K F ρ σ H)(A:wC K F ρ σ H ρ₀ H₀ as vs)(h:cj ρ as []=some args):GS K F args (vs.map some) H:=by
 obtain⟨I,l2,l3,Z⟩:=qJ h;have M:∀{j:Nat}{v:V},vs[j]?=some v->(vs.map some)[j]?=some (some v):=λe=>by rw[getElem?_map,e];rfl
 have dn:∀{j:Nat}{v:V},(vs.map some)[j]?=some (some v)->vs[j]?=some v:=λ{j v}e=>by rw[getElem?_map]at e;cases q:vs[j]?with|none=>rw[q]at e;cases e|some w=>rw[q]at e;cases e;rfl
 refine⟨g.sub,by rw[I,A.len,length_map],λj b d e=>?_,λj s ds e J=>?_,λj k x⟨⟨s,ds,e1,e2⟩,N⟩⟨⟨t,es,f1,f2⟩,f3⟩=>?_⟩;.obtain⟨a,v,h1,u,m⟩:=A.get I e;have B:=l2 j a _ h1 e;refine⟨v,M u,?_⟩;cases a with|dat d'=>cases B;exact m|tmp ds=>cases B|fH i=>
     rcases B with⟨O,d',r,c⟩|⟨_,_,_,c⟩|⟨_,_,c⟩;.cases c;obtain⟨w,f,p⟩:=g.val i O d r;have m:σ[i]?=some (some v):=m;rw[m]at f;cases f;exact p
     .cases c
     .cases c
 .obtain⟨a,v,h1,u,m⟩:=A.get I e;have B:=l2 j a _ h1 e;cases a with|dat d'=>cases B;cases J|tmp es=>cases B;cases J;obtain⟨x,xs,rfl,c,f,p,_⟩:=m;exact⟨x,_,M u,c,f,xs,rfl,p⟩|fH i=>
     have m:σ[i]?=some (some v):=m;rcases B with⟨O,d',r,c⟩|⟨O,es,r,c⟩|⟨es,r,c⟩;.cases c;cases J
     .cases c;cases J;obtain⟨x,xs,f,p⟩:=g.own i _ _ r rfl;rw[m]at f;cases f;exact⟨x,xs,M u,p⟩
     .cases c;cases J;obtain⟨x,xs,f,p⟩:=g.own i _ _ r rfl;rw[m]at f;cases f;exact⟨x,xs,M u,p⟩
 . obtain⟨a,v,h1,u,m⟩:=A.get I e1;obtain⟨Q,v',C,L,E⟩:=A.get I f1;have N:=dn N;have f3:=dn f3;rw[u]at N;cases N;rw[L]at f3;cases f3;have s1:=l2 j a _ h1 e1;have s2:=l2 k Q _ C f1;have U:∀{i:Nat}{s:Sl}{ds:Oc},lst? s=some ds->GX ρ (.fH i) s->∃G o,ρ[i]?=some G/\lst? G=some o:=λ{i s ds}l z=>by
    rcases z with⟨_,_,_,z⟩|⟨b,es,q,_⟩|⟨es,q,_⟩;.subst z;cases l
    .exact⟨_,_,q,rfl⟩
    .exact⟨_,_,q,rfl⟩
   cases a with
   |dat d=>cases s1;cases e2|tmp Tt=>cases Q with|dat d=>cases s2;cases f2|tmp Y=>exact A.dis j k Tt Y x h1 C u L|fH i=>obtain⟨y,_,r,_,_,_,c,_⟩:=m;cases r;obtain⟨G,o,f,p⟩:=U f2 s2;exact absurd ⟨i,⟨G,o,f,p⟩,E⟩ c
   |fH i=>obtain⟨G,o,f,p⟩:=U e2 s1;cases Q with|dat d=>cases s2;cases f2|tmp Y=>obtain⟨y,_,r,_,_,_,c,_⟩:=E;cases r;exact absurd ⟨i,⟨G,o,f,p⟩,m⟩ c|fH i'=>obtain⟨W,X,q5,q6⟩:=U f2 s2;have:=g.dis i i' x ⟨⟨G,o,f,p⟩,m⟩ ⟨⟨W,X,q5,q6⟩,E⟩;subst this;exact Z j k i s t ds es h1 C e1 f1 e2 f2
theorem mZ{as:List Arg}{ss:List Sl}:∀(ρ:List Sl)(n i:Nat),(eV as ss n ρ)[i]?=(ρ[i]?).map λs=>dM s (aY (n+i) as ss)
 |[],n,i=>by simp[qR,lg]|s::ρ,n,0=>by simp[qR,lg]|s::ρ,n,i+1=>by
   rw[lg];simp only[List.getElem?_cons_succ];rw[mZ ρ (n+1) i];have:n+1+i=n+(i+1):=by omega
   rw[this]
theorem nj{as:List Arg}{ss:List Sl}:∀(ρ:List Sl)(n:Nat),(eV as ss n ρ).length=ρ.length|[],n=>rfl|s::ρ,n=>by rw[lg];simp[nj ρ]
theorem iK{i:Nat}:∀{as:List Arg}{ss:List Sl}{t:Sl},aY i as ss=some t->∃j:Nat,as[j]?=some (.fH i)/\ss[j]?=some t
 |[],_,_,h=>by simp[aY]at h|a::as,[],_,h=>by cases a<;>simp[aY]at h|a::as,s::ss,t,h=>by
   have b:aY i as ss=some t->∃j:Nat,(a::as)[j]?=some (.fH i)/\(s::ss)[j]?=some t:=λh=>by obtain⟨j,h1,c⟩:=iK h;exact⟨j+1,by simpa using h1,by simpa using c⟩
   cases a with|dat d=>exact b (by simpa[aY]using h)|tmp d=>exact b (by simpa[aY]using h)|fH k=>
     rw[aY]at h;split at h;.rename_i e;cases h;subst e;exact⟨0,rfl,rfl⟩
     .exact b h
theorem lu{i:Nat}:∀{as:List Arg}{ss:List Sl},as.length=ss.length->aY i as ss=none->∀j:Nat,as[j]?≠some (.fH i)
 |[],_,_,_=>λj h=>by simp at h|a::as,[],b,_=>by simp at b|a::as,s::ss,b,h=>λj c=>by
   have f:as.length=ss.length:=by simpa using b
   have g:aY i as ss=none/\a≠.fH i:=by cases a with|dat d=>exact⟨by simpa[aY]using h,by simp⟩|tmp d=>exact⟨by simpa[aY]using h,by simp⟩|fH k=>
      rw[aY]at h;split at h;.cases h
      .rename_i l;exact⟨h,λe=>l (by cases e;rfl)⟩
   cases j with|zero=>simp at c;exact g.2 c|succ j=>exact lu f g.1 j (by simpa using c)
theorem Ex{Q X H':Hp}{args c:List Sl}{Y:L2.St}(s0:aC K Q ρ₀ σ H₀ F ρ σ H)(A:wC K F ρ σ H ρ₀ H₀ as vs)(hb:cj ρ as []=some args)(s:aC K F args (vs.map some) H X c Y H'):aC K Q ρ₀ σ H₀ X (eV as c 0 ρ) σ H'/\∀v r,cT K X c Y H' args (vs.map some) H v r->cT K X (eV as c 0 ρ) σ H' ρ₀ σ H₀ v r:=by
 have g:=s0.gs;obtain⟨M,l2,l3,l4⟩:=qJ hb;have up:∀{j:Nat}{v:V},vs[j]?=some v->(vs.map some)[j]?=some (some v):=λe=>by rw[getElem?_map,e];rfl
 have dn:∀{j:Nat}{v:V},(vs.map some)[j]?=some (some v)->vs[j]?=some v:=λ{j v}e=>by rw[getElem?_map]at e;cases q:vs[j]?with|none=>rw[q]at e;cases e|some w=>rw[q]at e;cases e;rfl
 have la:as.length=c.length:=by rw[s.len,M]--whose are the lists that the callee holds
 have own:∀b,Own args (vs.map some) b->(∃(j:Nat)(ds:List D),as[j]?=some (Arg.tmp ds)/\vs[j]?=some (V.ref b)/\¬ Own ρ σ b/\(Own ρ₀ σ b\/H₀ b=none))\/Own ρ σ b:=λb⟨j,⟨sl,ds,E,U⟩,e3⟩=>by obtain⟨a,v,h1,C,J⟩:=A.get M E;have s1:=l2 j a _ h1 E;have e3:=dn e3;rw[C]at e3;cases e3;cases a with|dat d=>cases s1;cases U|tmp es=>obtain⟨x,_,k,_,_,_,f,N⟩:=J;cases k;exact .inl ⟨j,es,h1,C,f,N⟩|fH i=>
    right;rcases s1 with⟨_,_,_,z⟩|⟨b',es,q,_⟩|⟨es,q,_⟩;.subst z;cases U
    .exact⟨i,⟨_,_,q,rfl⟩,J⟩
    .exact⟨i,⟨_,_,q,rfl⟩,J⟩
 have back:∀b,Own ρ σ b\/H b=none->Own ρ₀ σ b\/H₀ b=none:=λb h=>by
  rcases h with h|h;.exact s0.vB b h
  . by_cases ho:Own ρ₀ σ b;.exact .inl ho
    .right;cases e:H₀ b with|none=>rfl|some o=>rw[s0.keep b o e ho]at h;cases h
 have L:∀b,Own args (vs.map some) b->Own ρ₀ σ b\/H₀ b=none:=λb h=>by
  rcases own b h with⟨_,_,_,_,_,z⟩|z;.exact z
  .exact back b (.inl z)--a name's slot behind the call
 have slot:∀{i:Nat}{t:Sl},(eV as c 0 ρ)[i]?=some t->∃s1,ρ[i]?=some s1/\t=dM s1 (aY i as c):=λ{i t}h=>by rw[mZ]at h;obtain⟨s1,E,U⟩:=map_some h;exact⟨s1,E,by rw[<-U,Nat.zero_add]⟩
 have Yw:∀{i:Nat}{s1:Sl},ρ[i]?=some s1->(eV as c 0 ρ)[i]?=some (dM s1 (aY i as c)):=λ{i s1}h=>by rw[mZ,h,Nat.zero_add];rfl--what the callee left of a list that was lent to it
 have lent:∀{i j:Nat}{s1 t:Sl}{ds:List D},ρ[i]?=some s1->lst? s1=some (.l ds)->as[j]?=some (.fH i)->c[j]?=some t->∃v s2,σ[i]?=some (some v)/\Y[j]?=some (some v)/\args[j]?=some s2/\mL s2 t/\((∃b,s1=.own b ds/\s2=.own true ds)\/(s1=.lent ds/\s2=.lent ds)):=λ{i j s1 t ds}h1 C J h4=>by
  have Z:j<args.length:=by rw[M];exact(eX J).1
  have E:args[j]?=some args[j]:=by simp[Z]
  obtain⟨a,v,k,f,N⟩:=A.get M E;rw[J]at k;cases k;have q4:=l2 j _ _ J E;have kind:(∃b,s1=.own b ds/\args[j]=.own true ds)\/(s1=.lent ds/\args[j]=.lent ds):=by
   rcases q4 with⟨_,_,z,_⟩|⟨b,es,z,z'⟩|⟨es,z,z'⟩;.rw[h1]at z;cases z;cases C
   .rw[h1]at z;cases z;cases C;exact .inl ⟨b,rfl,z'⟩
   .rw[h1]at z;cases z;cases C;exact .inr ⟨rfl,z'⟩
  have lk:sO args[j]=true:=by rcases kind with⟨_,_,z⟩|⟨_,z⟩<;>rw[z]<;>rfl
  obtain⟨u,s',y,z3⟩:=s.lk j _ E lk;rw[h4]at y;cases y;exact⟨v,_,N,by rw[u];exact up f,E,z3,kind⟩
 have Mq:∀{i:Nat}{x:Addr},bz (eV as c 0 ρ) σ i x->bz ρ σ i x:=λ{i x}⟨⟨t,ds,E,U⟩,e3⟩=>by obtain⟨s1,k,f⟩:=slot E;refine⟨?_,e3⟩;cases s1 with|aQ=>subst f;cases U|val b d=>subst f;cases U|own b es=>exact⟨_,_,k,rfl⟩|lent es=>exact⟨_,_,k,rfl⟩|tY m=>exact⟨_,_,k,rfl⟩|cN m=>exact⟨_,_,k,rfl⟩|hold _=>subst f;cases U
 refine⟨?_,λv r h=>?_⟩;rotate_left;.cases r with|val d=>exact h|own ds=>
     obtain⟨x,xs,h1,C,J,h4,h5,h6⟩:=h;refine⟨x,xs,h1,C,J,h4,λ⟨i,h⟩=>?_,?_⟩
     . have hO:=Mq h;obtain⟨⟨s1,Tt,k,f⟩,N⟩:=hO;obtain⟨x',ah,w1,w2,_⟩:=g.own i s1 Tt k f;rw[N]at w1;cases w1;rcases h6 with h6|h6
       . rcases own x h6 with⟨_,_,_,_,z,_⟩|_;.exact z ⟨i,⟨s1,Tt,k,f⟩,N⟩
         .--a name was lent
           obtain⟨j,⟨sl,es,w3,w4⟩,w5⟩:=h6;obtain⟨a',v',G,O,y3⟩:=A.get M w3;have sa:=l2 j a' _ G w3;have w5:=dn w5;rw[O]at w5;cases w5;cases a' with|dat d=>cases sa;cases w4|tmp ai=>obtain⟨_,_,u1,_,_,_,u2,_⟩:=y3;cases u1;exact u2 ⟨i,⟨s1,Tt,k,f⟩,N⟩|fH i'=>
             have ex:∃s' ac,ρ[i']?=some s'/\lst? s'=some ac:=by
              rcases sa with⟨_,_,_,z⟩|⟨b,es,q,_⟩|⟨es,q,_⟩;.subst z;cases w4
              .exact⟨_,_,q,rfl⟩
              .exact⟨_,_,q,rfl⟩
             have:=g.dis i i' x ⟨⟨s1,Tt,k,f⟩,N⟩ ⟨ex,y3⟩;subst this;have hk:∃Mp,Tt=.l Mp:=by
              rcases sa with⟨_,_,_,z⟩|⟨b,es,q,_⟩|⟨es,q,_⟩;.subst z;cases w4
              .rw[k]at q;cases q;cases f;exact⟨_,rfl⟩
              .rw[k]at q;cases q;cases f;exact⟨_,rfl⟩
             obtain⟨Mp,rfl⟩:=hk;have Z:j<c.length:=by rw[<-la];exact(eX G).1
             have B:c[j]?=some c[j]:=by simp[Z]
             obtain⟨v2,s2,u1,u2,u3,u4,u5⟩:=lent k f G B;rw[N]at u1;cases u1--the slot behind the call is a list's
             obtain⟨⟨t,dt,t1,t2⟩,_⟩:=h;obtain⟨s3,t3,t4⟩:=slot t1;rw[k]at t3;cases t3;have lo:∃t5,aY i as c=some t5:=by cases I:aY i as c with|none=>exact absurd G (lu la I j)|some t5=>exact⟨t5,rfl⟩
             obtain⟨t5,I⟩:=lo;obtain⟨j2,t6,t7⟩:=iK I;have al:j2<args.length:=by rw[M];exact(eX t6).1
             obtain⟨_,s6,_,am,ae,ap,af⟩:=lent k f t6 t7;have ag:j2=j:=by
              have a1:lst? s6=some (.l Mp):=by rcases af with⟨_,_,z⟩|⟨_,z⟩<;>rw[z]<;>rfl
              have a2:lst? s2=some (.l Mp):=by rcases u5 with⟨_,_,z⟩|⟨_,z⟩<;>rw[z]<;>rfl
              exact l4 j2 j i s6 s2 _ _ t6 G ae u3 a1 a2
             subst ag;rw[B]at t7;cases t7;rw[I]at t4;refine h5 ⟨j2,?_,u2⟩;rcases u5 with⟨b,u,y⟩|⟨u,y⟩
             . subst u;subst y;rcases u4 with⟨d2,z⟩|⟨d2,z⟩;.exact⟨_,.l d2,B,by rw[z];rfl⟩
               .rw[z]at t4;subst t4;cases t2
             .subst u;subst y;exact⟨_,.l Mp,B,by rw[show c[j2]=.lent Mp from u4];rfl⟩
       .rw[w2]at h6;cases h6
     . rcases h6 with h6|h6;.exact L x h6
       .exact back x (.inr h6)
 refine⟨⟨s.gs.sub,by rw[nj];exact g.len,λi b d e=>?_,λi t ds e B=>?_,λi j x h1 C=>g.dis i j x (Mq h1) (Mq C)⟩,s0.bU.trans s.bU,λb n n'=>?_,λb o h n=>?_,λb⟨i,h⟩=>back b (.inl ⟨i,Mq h⟩),by rw[nj];exact s0.len,λi s1 h l=>?_⟩;.--data
   obtain⟨s1,k,f⟩:=slot e;cases s1 with|aQ=>cases f|lent es=>cases f|tY _=>cases f|cN _=>cases f|hold _=>cases f|val b' d'=>cases f;obtain⟨v,u,y⟩:=g.val i b d k;exact⟨v,u,y.mono s.bU⟩|own b' es=>cases I:aY i as c with|none=>rw[I]at f;cases f|some t=>rw[I]at f;obtain⟨j,u,y⟩:=iK I;obtain⟨v,s2,G,O,y3,y4,p⟩:=lent k rfl u y;cases t with|aQ=>cases f|own _ _=>cases f|lent _=>cases f|tY _=>cases f|cN _=>cases f|hold _=>cases f|val b2 d2=>cases f;obtain⟨w,W,x2⟩:=s.gs.val j b2 d y;rw[O]at W;cases W;exact⟨v,G,x2⟩
 .--lists
   obtain⟨s1,k,f⟩:=slot e--a list that was not lent
   have stay:∀es,lst? s1=some es->(∀j:Nat,as[j]?≠some (.fH i))->t=s1->∃(a:Addr)(xs:HO),σ[i]?=some (some (V.ref a))/\H' a=some xs/\X a=none/\kE K X xs ds:=λes he hn ht=>by
    subst ht;rw[he]at B;cases B;obtain⟨a,xs,u,y,z3,z4⟩:=g.own i _ ds k he;have no:¬ Own args (vs.map some) a:=λh=>by obtain⟨j,⟨sl,es,w1,w2⟩,w3⟩:=h;obtain⟨a',v,h1,C,J⟩:=A.get M w1;have sa:=l2 j a' _ h1 w1;have w3:=dn w3;rw[C]at w3;cases w3;cases a' with|dat d=>cases sa;cases w2|tmp es=>obtain⟨x,_,G,_,_,_,O,_⟩:=J;cases G;exact O ⟨i,⟨_,ds,k,he⟩,u⟩|fH i'=>
       have:∃s' ac,ρ[i']?=some s'/\lst? s'=some ac:=by
        rcases sa with⟨_,_,_,z⟩|⟨b,es,q,_⟩|⟨es,q,_⟩;.subst z;cases w2
        .exact⟨_,_,q,rfl⟩
        .exact⟨_,_,q,rfl⟩
       have:=g.dis i i' a ⟨⟨_,ds,k,he⟩,u⟩ ⟨this,J⟩;subst this;exact hn j h1
    refine⟨a,xs,u,s.keep a _ y no,?_,z4.mono s.bU⟩;cases q:X a with|none=>rfl|some o=>
      rcases s.xK a z3 (by rw[q];simp)with z|z;.exact absurd z no
      .rw[y]at z;exact(GP z4 z).elim
   cases I:aY i as c with
   |none=>have hn:=lu la I;rw[I]at f;cases s1 with|aQ=>subst f;cases B|val b' d'=>subst f;cases B|own b' es=>exact stay _ rfl hn f|lent es=>exact stay _ rfl hn f|tY m=>exact stay _ rfl hn f|cN m=>exact stay _ rfl hn f|hold _=>subst f;cases B
   |some t2=>rw[I]at f;obtain⟨j,u,y⟩:=iK I;cases s1 with
     |aQ=>subst f;cases B|val b' d'=>subst f;cases B|hold _=>subst f;cases B|tY m=>
       have Z:j<args.length:=by rw[M];exact(eX u).1
       rcases l2 j _ _ u (show args[j]?=some args[j]by simp[Z])with⟨_,_,z,_⟩|⟨_,_,z,_⟩|⟨_,z,_⟩<;>(rw[k]at z;cases z)|cN m=>
       have Z:j<args.length:=by rw[M];exact(eX u).1
       rcases l2 j _ _ u (show args[j]?=some args[j]by simp[Z])with⟨_,_,z,_⟩|⟨_,_,z,_⟩|⟨_,z,_⟩<;>(rw[k]at z;cases z)|own b' es=>
       obtain⟨v,s2,G,O,y3,y4,p⟩:=lent k rfl u y;have:t2≠.aQ/\∀x,t2≠.lent x:=by
        rcases p with⟨_,_,p⟩|⟨p,_⟩;.subst p;rcases y4 with⟨_,rfl⟩|⟨_,rfl⟩<;>simp
        .cases p
       cases t2 with
       |aQ=>exact absurd rfl this.1|hold x=>
         rcases p with⟨_,_,p⟩|⟨p,_⟩;.subst p;rcases y4 with⟨_,h⟩|⟨_,h⟩<;>cases h
         .cases p|tY x=>
         rcases p with⟨_,_,p⟩|⟨p,_⟩;.subst p;rcases y4 with⟨_,h⟩|⟨_,h⟩<;>cases h
         .cases p|cN x=>
         rcases p with⟨_,_,p⟩|⟨p,_⟩;.subst p;rcases y4 with⟨_,h⟩|⟨_,h⟩<;>cases h
         .cases p|lent x=>exact absurd rfl (this.2 x)|val b2 d2=>subst f;cases B|own b2 ar=>subst f;cases B;obtain⟨a,xs,W,x2⟩:=s.gs.own j _ _ y rfl;rw[O]at W;cases W;exact⟨a,xs,G,x2⟩
     |lent es=>
       obtain⟨v,s2,G,O,y3,y4,p⟩:=lent k rfl u y;have ht:t=.lent es:=by rw[f];cases t2<;>rfl
       subst ht;cases B;rcases p with⟨_,p,_⟩|⟨_,p⟩;.cases p
       .subst p;cases(show t2=.lent es from y4);obtain⟨a,xs,W,x2⟩:=s.gs.own j _ _ y rfl;rw[O]at W;cases W;exact⟨a,xs,G,x2⟩
 . by_cases q:F b=none
   . rcases s.xK b q n' with z|z;.exact(L b z).imp id jY
     . by_cases ho:Own ρ₀ σ b;.exact .inl ho
       .right;cases f:H₀ b with|none=>rfl|some o=>rw[s0.keep b o f ho]at z;exact z
   .exact s0.xK b n q
 . refine s.keep b o (s0.keep b o h n) λz=>?_;rcases L b z with z|z;.exact n z
   .rw[h]at z;cases z
 .obtain⟨E,s2,C,k2⟩:=s0.lk i s1 h l;refine⟨E,_,Yw C,?_⟩;have Vu:=k2.sO l;refine mL.trans l k2 ?_;cases s2 with
   |aQ=>cases Vu|tY _=>cases Vu|cN _=>cases Vu|hold _=>exact mL.refl _|val b d=>exact mL.refl _|lent es=>cases aY i as c with|none=>rfl|some t=>cases t<;>rfl
   |own b es=>cases b with|false=>cases Vu|true=>cases aY i as c with|none=>exact .inl ⟨_,rfl⟩|some t=>cases t with|aQ=>exact .inl ⟨_,rfl⟩|lent _=>exact .inl ⟨_,rfl⟩|tY _=>exact .inl ⟨_,rfl⟩|cN _=>exact .inl ⟨_,rfl⟩|hold _=>exact .inl ⟨_,rfl⟩|own _ ds=>exact .inl ⟨_,rfl⟩|val _ d=>exact .inr ⟨_,rfl⟩
theorem wC.rebase{F1 g F2 k:Hp}{c f:List Sl}(a:aC K F ρ σ H F1 c σ g)(A:wC K F2 f σ k c g as vs):wC K F2 f σ k ρ H as vs:=by refine⟨A.len,λj b v h1 l=>?_,A.dis⟩;have h:=A.one j b v h1 l;cases b with|dat d=>exact h|fH i=>exact h|tmp ds=>
   obtain⟨x,xs,m,p,q,r,s,q6⟩:=h;refine⟨x,xs,m,p,q,r,s,?_⟩;rcases q6 with q6|q6;.exact a.vB x q6
   . by_cases ho:Own ρ σ x;.exact .inl ho
     .right;cases e:H x with|none=>rfl|some o=>rw[a.keep x o e ho]at q6;cases q6
theorem wC.Xb{F1 c F2 e:Hp}{a b:List Sl}{r:R}(s1:aC K F ρ σ H F1 a σ c)(f:cT K F1 a σ c ρ σ H v r)(s2:aC K F1 a σ c F2 b σ e)(A:wC K F2 b σ e a c as vs):wC K F2 b σ e ρ H (rY r::as) (v::vs):=by
 have h1:yL K F1 a σ c ρ H v (rY r):=by cases r with|val d=>exact f|own ds=>exact f
 refine .cons (h1.later s2) (A.rebase s1) λds x l ev k es m g=>?_;cases r with|val d=>cases l|own o=>
   obtain⟨y,xs,j,p,t,u,q,w⟩:=f;rw[ev]at j;cases j;have h:=A.one k _ _ m g;obtain⟨z,B,s,_,_,_,_,w6⟩:=h;cases s;rcases w6 with w6|w6;.exact q w6
   .rw[p]at w6;cases w6
end
section
variable{K:PySem.W.Frag}{F F1 H H1:Hp}{ρ ρ1 ρ2:List Sl}{σ σ1:L2.St}
theorem Il{s:Sl}(h:put ρ i s=some ρ1):∃s0,ρ[i]?=some s0/\sO s0=false/\ρ1=ρ.set i s:=by
 unfold put at h;split at h;.rename_i q;cases h;exact⟨_,q,rfl,rfl⟩
 .rename_i q;cases h;exact⟨_,q,rfl,rfl⟩
 .rename_i q;cases h;exact⟨_,q,rfl,rfl⟩
 .cases h
theorem aC.put{r:R}(s:aC K F ρ σ H F1 ρ1 σ1 H1)(y:cT K F1 ρ1 σ1 H1 ρ σ H v r)(h:HH.put ρ1 i (yI r)=some ρ2):aC K F ρ σ H F1 ρ2 (σ1.set i (some v)) H1:=by
 obtain⟨s0,h0,B,rfl⟩:=Il h;have hi:i<ρ1.length:=(eX h0).1;have m:i<σ1.length:=by rw[<-s.gs.len];exact hi
 have f:∀{j:Nat}{a:Addr},j≠i->bz (ρ1.set i (yI r)) (σ1.set i (some v)) j a->bz ρ1 σ1 j a:=λ{j a}c⟨⟨t,ds,o,p⟩,g⟩=>by rw[gO c]at o g;exact⟨⟨t,ds,o,p⟩,g⟩
 have q:∀{a:Addr},bz (ρ1.set i (yI r)) (σ1.set i (some v)) i a->¬ Own ρ1 σ1 a/\(Own ρ σ a\/H a=none):=λ{a}⟨⟨t,ds,o,p⟩,g⟩=>by rw[getElem?_set_self hi]at o;rw[getElem?_set_self m]at g;cases o;cases g;cases r with|val d=>cases p|own es=>obtain⟨x,xs,I,C,E,G,J,L⟩:=y;cases I;exact⟨J,L⟩
 refine⟨⟨s.gs.sub,by simp[s.gs.len],λj b d e=>?_,λj t ds e z=>?_,λj k a h1 A=>?_⟩,s.bU,s.xK,s.keep,λa⟨j,c⟩=>?_,by simp[s.len],λj t e l=>?_⟩
 . by_cases c:j=i;.subst c;rw[getElem?_set_self hi]at e;cases r with|own es=>cases e|val d'=>cases e;exact⟨v,getElem?_set_self m,y⟩
   .rw[gO c]at e ⊢;exact s.gs.val j b d e
 . by_cases c:j=i;.subst c;rw[getElem?_set_self hi]at e;cases r with|val d'=>cases e;cases z|own es=>cases e;cases z;obtain⟨x,xs,rfl,C,E,G,_⟩:=y;exact⟨x,_,getElem?_set_self m,C,E,xs,rfl,G⟩
   .rw[gO c]at e ⊢;exact s.gs.own j t ds e z
 . by_cases c:j=i
   . by_cases u:k=i;.rw[c,u]
     .subst c;exact absurd ⟨k,f u A⟩ (q h1).1
   . by_cases u:k=i;.subst u;exact absurd ⟨j,f c h1⟩ (q A).1
     .exact s.gs.dis j k a (f c h1) (f u A)
 . by_cases w:j=i;.subst w;exact(q c).2
   .exact s.vB a ⟨j,f w c⟩
 . obtain⟨o,t1,p,g⟩:=s.lk j t e l;have c:j≠i:=by rintro rfl;rw[h0]at p;cases p;rw[g.sO l]at B;cases B
   exact⟨by rw[gO c];exact o,t1,by rw[gO c];exact p,g⟩
theorem GS.mut{x:Nat}{b:Bool}{es:List D}{a:Addr}{ys:List V}(g:GS K F ρ σ H)(e:ρ[x]?=some (.own b ds))(p:σ[x]?=some (some (.ref a)))(r:aF K F ys es):aC K F ρ σ H F (ρ.set x (.own b es)) σ (upd H a (.lst ys)):=by
 have hi:x<ρ.length:=(eX e).1;have w:bz ρ σ x a:=⟨⟨_,_,e,rfl⟩,p⟩;obtain⟨J,xs,h1,L,y,M⟩:=g.lB x _ ds e rfl;rw[p]at h1;cases h1;have h:∀{j:Nat}{c:Addr},bz (ρ.set x (.own b es)) σ j c->bz ρ σ j c:=λ{j c}⟨⟨t,dt,m,s⟩,q3⟩=>by
  by_cases f:j=x;.subst f;exact⟨⟨_,_,e,rfl⟩,q3⟩
  .rw[gO f]at m;exact⟨⟨t,dt,m,s⟩,q3⟩
 refine⟨⟨λc o q=>?_,by simp[g.len],λj A d q=>?_,λj t dt q u=>?_,λj k c m s=>g.dis j k c (h m) (h s)⟩,.refl _,λc n B=>absurd n B,λc o q n=>?_,λc⟨j,q⟩=>.inl ⟨j,h q⟩,by simp,λj t q l=>⟨rfl,?_⟩⟩
 . have:c≠a:=by rintro rfl;rw[y]at q;cases q
   rw[aD this];exact g.sub c o q
 . by_cases f:j=x;.subst f;rw[getElem?_set_self hi]at q;cases q
   .rw[gO f]at q;exact g.val j A d q
 . by_cases f:j=x;.subst f;rw[getElem?_set_self hi]at q;cases q;cases u;exact⟨a,_,p,aM,y,ys,rfl,r⟩
   . rw[gO f]at q;obtain⟨c,C,z,E,G,I⟩:=g.own j t dt q u;have:c≠a:=by rintro rfl;exact f (g.dis j x c ⟨⟨t,dt,q,u⟩,z⟩ w)
     exact⟨c,C,z,by rw[aD this];exact E,G,I⟩
 . have:c≠a:=by rintro rfl;exact n ⟨x,w⟩
   rw[aD this];exact q
 . by_cases f:j=x;.subst f;rw[e]at q;cases q;refine⟨_,getElem?_set_self hi,?_⟩;cases b with|true=>exact .inl ⟨_,rfl⟩|false=>cases l
   .exact⟨t,by rw[gO f];exact q,.refl t⟩
theorem GS.lend{b:Bool}(g:GS K F ρ σ H)(e:ρ[i]?=some (.own b ds)):GS K F (ρ.set i (.lent ds)) σ H:=by
 have hi:i<ρ.length:=(eX e).1;have f:∀{j:Nat}{c:Addr},bz (ρ.set i (.lent ds)) σ j c->bz ρ σ j c:=λ{j c}⟨⟨t,dt,h,l⟩,q3⟩=>by
  by_cases a:j=i;.subst a;exact⟨⟨_,_,e,rfl⟩,q3⟩
  .rw[gO a]at h;exact⟨⟨t,dt,h,l⟩,q3⟩
 refine⟨g.sub,by simp[g.len],λj o d q=>?_,λj t dt q m=>?_,λj k c h l=>g.dis j k c (f h) (f l)⟩
 . by_cases a:j=i;.subst a;rw[getElem?_set_self hi]at q;cases q
   .rw[gO a]at q;exact g.val j o d q
 . by_cases a:j=i;.subst a;rw[getElem?_set_self hi]at q;cases q;cases m;exact g.own j _ _ e rfl
   .rw[gO a]at q;exact g.own j t dt q m
theorem aC.aU{b:Bool}(g:GS K F ρ σ H)(e:ρ[i]?=some (.own b ds))(s:aC K F (ρ.set i (.lent ds)) σ H F1 ρ1 σ1 H1):aC K F ρ σ H F1 (ρ1.set i (.own b ds)) σ1 H1/\∀v r,cT K F1 ρ1 σ1 H1 (ρ.set i (.lent ds)) σ H v r->cT K F1 (ρ1.set i (.own b ds)) σ1 H1 ρ σ H v r:=by
 have hi:i<ρ.length:=(eX e).1;have h1:(ρ.set i (.lent ds))[i]?=some (.lent ds):=getElem?_set_self hi;obtain⟨C,E,z,G⟩:=s.lk i _ h1 rfl;cases(show E=.lent ds from G);have u:i<ρ1.length:=(eX z).1;have A:∀{j:Nat}{c:Addr},bz (ρ.set i (.lent ds)) σ j c->bz ρ σ j c:=λ{j c}⟨⟨t,dt,f,p⟩,m⟩=>by
  by_cases a:j=i;.subst a;exact⟨⟨_,_,e,rfl⟩,m⟩
  .rw[gO a]at f;exact⟨⟨t,dt,f,p⟩,m⟩
 have I:∀{c:Addr},Own ρ σ c->Own (ρ.set i (.lent ds)) σ c:=λ{c}⟨j,⟨t,dt,f,p⟩,m⟩=>by
  by_cases a:j=i;.subst a;exact⟨j,⟨_,_,h1,rfl⟩,m⟩
  .exact⟨j,⟨t,dt,by rw[gO a];exact f,p⟩,m⟩
 have y:∀{j:Nat}{c:Addr},bz (ρ1.set i (.own b ds)) σ1 j c->bz ρ1 σ1 j c:=λ{j c}⟨⟨t,dt,f,p⟩,m⟩=>by
  by_cases a:j=i;.subst a;exact⟨⟨_,_,z,rfl⟩,m⟩
  .rw[gO a]at f;exact⟨⟨t,dt,f,p⟩,m⟩
 have w:∀{c:Addr}{h:Hp},Own (ρ.set i (.lent ds)) σ c\/h c=none->Own ρ σ c\/h c=none:=λ{c h}q=>q.imp (λ⟨j,q⟩=>⟨j,A q⟩) id;have J:∀{c:Addr}{h:Hp},Own (ρ.set i (.lent ds)) σ c\/nt (h c)=none->Own ρ σ c\/nt (h c)=none:=λ{c h}q=>q.imp (λ⟨j,q⟩=>⟨j,A q⟩) id;refine⟨⟨⟨s.gs.sub,by simp[s.gs.len],λj L d q=>?_,λj t dt q B=>?_,λj k c f p=>s.gs.dis j k c (y f) (y p)⟩,s.bU,λc n M=>J (s.xK c n M),λc o q n=>s.keep c o q λ⟨j,x⟩=>n ⟨j,A x⟩,λc⟨j,q⟩=>w (s.vB c ⟨j,y q⟩),by simpa using s.len,λj t q l=>?_⟩,λv r h=>?_⟩
 . by_cases a:j=i;.subst a;rw[getElem?_set_self u]at q;cases q
   .rw[gO a]at q;exact s.gs.val j L d q
 . by_cases a:j=i;.subst a;rw[getElem?_set_self u]at q;cases q;cases B;exact s.gs.own j _ _ z rfl
   .rw[gO a]at q;exact s.gs.own j t dt q B
 . by_cases a:j=i;.subst a;rw[e]at q;cases q;refine⟨C,_,getElem?_set_self u,?_⟩;cases b with|true=>exact .inl ⟨_,rfl⟩|false=>cases l
   .obtain⟨N,t',O,Q⟩:=s.lk j t (by rw[gO a];exact q) l;exact⟨N,t',by rw[gO a];exact O,Q⟩
 .cases r with|val d=>exact h|own es=>obtain⟨x,xs,f,p,m,U,W,X⟩:=h;exact⟨x,xs,f,p,m,U,λ⟨j,q⟩=>W ⟨j,y q⟩,w X⟩
theorem GS.give(g:GS K F ρ σ H)(e:ρ[i]?=some (.own false ds)):∃v,σ[i]?=some (some v)/\aC K F ρ σ H F (ρ.set i .aQ) σ H/\cT K F (ρ.set i .aQ) σ H ρ σ H v (.own ds):=by
 have hi:i<ρ.length:=(eX e).1;obtain⟨a,xs,h1,r,s,u⟩:=g.lB i _ ds e rfl;have f:∀{j:Nat}{c:Addr},bz (ρ.set i .aQ) σ j c->bz ρ σ j c/\j≠i:=λ{j c}⟨⟨t,dt,h,m⟩,q3⟩=>by
  by_cases b:j=i;.subst b;rw[getElem?_set_self hi]at h;cases h;cases m
  .rw[gO b]at h;exact⟨⟨⟨t,dt,h,m⟩,q3⟩,b⟩
 have o:bz ρ σ i a:=⟨⟨_,_,e,rfl⟩,h1⟩;refine⟨.ref a,h1,⟨⟨g.sub,by simp[g.len],λj w d q=>?_,λj t dt q p=>?_,λj k c h m=>g.dis j k c (f h).1 (f m).1⟩,.refl _,λc n y=>absurd n y,λ_ _ q _=>q,λc⟨j,q⟩=>.inl ⟨j,(f q).1⟩,by simp,λj t q l=>⟨rfl,?_⟩⟩,a,xs,rfl,r,s,u,λ⟨j,q⟩=>?_,.inl ⟨i,o⟩⟩
 . by_cases b:j=i;.subst b;rw[getElem?_set_self hi]at q;cases q
   .rw[gO b]at q;exact g.val j w d q
 . by_cases b:j=i;.subst b;rw[getElem?_set_self hi]at q;cases q;cases p
   .rw[gO b]at q;exact g.own j t dt q p
 . by_cases b:j=i;.subst b;rw[e]at q;cases q;cases l
   .exact⟨t,by rw[gO b];exact q,.refl t⟩
 .exact(f q).2 (g.dis j i a (f q).1 o)
theorem GS.more{τ:List (Option V)}(g:GS K F ρ σ H)(u:τ.length=n):GS K F (ρ++replicate n .aQ) (σ++τ) H:=by
 have get:∀{j:Nat}{t:Sl},(ρ++replicate n Sl.aQ)[j]?=some t->t≠.aQ->ρ[j]?=some t/\j<ρ.length:=λ{j t}q ne=>by
  by_cases h:j<ρ.length;.rw[getElem?_append_left h]at q;exact⟨q,h⟩
  . rw[getElem?_append_right (by omega),getElem?_replicate]at q;split at q;.cases q;exact absurd rfl ne
    .cases q
 have m:∀{j:Nat}{v:Option V},j<ρ.length->(σ[j]?=some v↔(σ++τ)[j]?=some v):=λ{j v}h=>by rw[getElem?_append_left (by rw[<-g.len];exact h)]
 have e:∀{j:Nat}{c:Addr},bz (ρ++replicate n .aQ) (σ++τ) j c->bz ρ σ j c:=λ{j c}⟨⟨t,dt,o,l⟩,q3⟩=>by obtain⟨h1,f⟩:=get o (by rintro rfl;cases l);exact⟨⟨t,dt,h1,l⟩,(m f).mpr q3⟩
 refine⟨g.sub,by simp[g.len,u],λj b d q=>?_,λj t dt q s=>?_,λj k c o l=>g.dis j k c (e o) (e l)⟩;.obtain⟨h1,f⟩:=get q (by simp);obtain⟨v,p,r⟩:=g.val j b d h1;exact⟨v,(m f).mp p,r⟩
 .obtain⟨h1,f⟩:=get q (by rintro rfl;cases s);obtain⟨a,xs,p,r⟩:=g.own j t dt h1 s;exact⟨a,xs,(m f).mp p,r⟩
theorem aC.less{τ:List (Option V)}{m:Nat}(L:m=ρ.length)(g:GS K F ρ σ H)(hn:τ.length=n)(s:aC K F (ρ++replicate n .aQ) (σ++τ) H F1 ρ1 σ1 H1):aC K F ρ σ H F1 (ρ1.take m) (σ1.take m) H1/\∀v r,cT K F1 ρ1 σ1 H1 (ρ++replicate n .aQ) (σ++τ) H v r->cT K F1 (ρ1.take m) (σ1.take m) H1 ρ σ H v r:=by
 subst L;have M:ρ.length<=ρ1.length:=by rw[s.len];simp
 have l2:ρ.length<=σ1.length:=by rw[<-s.gs.len];exact M
 have z:∀{y:Type}{l:List y}{j:Nat}{x:y},(l.take ρ.length)[j]?=some x->l[j]?=some x/\j<ρ.length:=λ{y l j x}q=>by
  rw[List.getElem?_take]at q;split at q;.exact⟨q,by assumption⟩
  .cases q
 have B:∀{y:Type}{l:List y}{j:Nat}{x:y},j<ρ.length->l[j]?=some x->(l.take ρ.length)[j]?=some x:=λ{y l j x}f q=>by rw[List.getElem?_take,if_pos f];exact q
 have C:∀{c:Addr},Own (ρ++replicate n .aQ) (σ++τ) c->Own ρ σ c:=λ{c}⟨j,⟨t,dt,e,p⟩,u⟩=>by
  by_cases f:j<ρ.length;.rw[getElem?_append_left f]at e;rw[getElem?_append_left (by rw[<-g.len];exact f)]at u;exact⟨j,⟨t,dt,e,p⟩,u⟩
  . rw[getElem?_append_right (by omega),getElem?_replicate]at e;split at e;.cases e;cases p
    .cases e
 have N:∀{c:Addr},Own ρ σ c->Own (ρ++replicate n .aQ) (σ++τ) c:=λ{c}⟨j,⟨t,dt,e,p⟩,u⟩=>by have f:j<ρ.length:=(eX e).1;exact⟨j,⟨t,dt,by rw[getElem?_append_left f];exact e,p⟩,by rw[getElem?_append_left (by rw[<-g.len];exact f)];exact u⟩
 have A:∀{j:Nat}{c:Addr},bz (ρ1.take ρ.length) (σ1.take ρ.length) j c->bz ρ1 σ1 j c:=λ{j c}⟨⟨t,dt,e,p⟩,u⟩=>⟨⟨t,dt,(z e).1,p⟩,(z u).1⟩;have w:∀{c:Addr}{h:Hp},Own (ρ++replicate n .aQ) (σ++τ) c\/h c=none->Own ρ σ c\/h c=none:=λ{c h}q=>q.imp C id;have O:∀{c:Addr}{h:Hp},Own (ρ++replicate n .aQ) (σ++τ) c\/nt (h c)=none->Own ρ σ c\/nt (h c)=none:=λ{c h}q=>q.imp C id;refine⟨⟨⟨s.gs.sub,by simp only[length_take];omega,λj b d q=>?_,λj t dt q Q=>?_,λj k c e p=>s.gs.dis j k c (A e) (A p)⟩,s.bU,λc a b=>O (s.xK c a b),λc o q n=>s.keep c o q λx=>n (C x),λc⟨j,q⟩=>w (s.vB c ⟨j,A q⟩),by simp only[length_take];omega,λj t q l=>?_⟩,λv r h=>?_⟩;.obtain⟨h1,E⟩:=z q;obtain⟨v,G,I⟩:=s.gs.val j b d h1;exact⟨v,B E G,I⟩
 .obtain⟨h1,E⟩:=z q;obtain⟨a,xs,G,I⟩:=s.gs.own j t dt h1 Q;exact⟨a,xs,B E G,I⟩
 .have f:j<ρ.length:=(eX q).1;obtain⟨J,t',U,W⟩:=s.lk j t (by rw[getElem?_append_left f];exact q) l;rw[getElem?_append_left (by rw[<-g.len];exact f)]at J;refine⟨?_,t',B f U,W⟩;rw[List.getElem?_take,if_pos f];exact J
 .cases r with|val d=>exact h|own es=>obtain⟨x,xs,e,p,u,X,Y,Z⟩:=h;exact⟨x,xs,e,p,u,X,λ⟨j,q⟩=>Y ⟨j,A q⟩,w Z⟩
end
section
variable{X:Cx}{c:Call}{n:Nat}{e a b d:Expr}{p pa pb pd:P}{pos:Pos}{es:List Expr}{ps:List P}
inductive ada(K:PySem.W.Frag)(f:List Sl->Res (List Arg))(σ:L2.St)(H:Hp)(Q:List V->Hp->Prop):Prop where|mk(F:Hp)(ρ:List Sl)(as:List Arg)(ρ':List Sl)(g:GS K F ρ σ H)(e:f ρ=.ok as ρ')(k:∀vs F' H',aC K F ρ σ H F' ρ' σ H'->wC K F' ρ' σ H' ρ H as vs->Q vs H')
def SG(X:Cx)(c:Call)(es:List Expr)(ps:List P):Prop:=PA X es (ada X.K (ym c ps))
theorem aA:SG X c [] []:=vD eU λσ H Q⟨F,ρ,as,ρ',g,e,k⟩=>by rw[Ij]at e;cases e;exact k [] F H (.refl g) .nil
theorem Ln(o:SX X c a pa)(hr:SG X c es ps)(hs:starEach (a::es) X.env=(false,eval a X.env)::starEach es X.env:=by rfl):SG X c (a::es) (pa::ps):=by cases hv:isVar pa with|none=>refine vD (bW o.ev hr hs) ?_;rintro σ H Q⟨F,ρ,as,ρ',g,e,k⟩;rw[yj,hv]at e;obtain⟨r,f,q,e⟩:=aj e;obtain⟨xs,h,j,e⟩:=aj e;cases e;refine⟨F,ρ,r,f,g,q,λv F1 y s1 s=>⟨F1,f,xs,_,s1.gs,j,λvs F2 l s2 A=>k _ F2 l (s1.trans s2) (wC.Xb s1 s s2 A)⟩⟩|some i=>refine vD (bW (o.var i hv) hr hs) ?_;rintro σ H Q⟨F,ρ,as,ρ',g,e,k⟩;rw[yj,hv]at e;obtain⟨B,t,u,e⟩:=aj e;obtain⟨m,w⟩:=aB u;subst w;obtain⟨xs,h,j,e⟩:=aj e;cases e;obtain⟨v,h1,_⟩:=g.pk m;exact⟨v,h1,F,ρ,xs,_,g,j,λvs F2 l s2 A=>k _ F2 l s2 (.cons h1 A λds x z=>by cases z)⟩
theorem JR{k f:Nat}{t:Addr}{fd:FuncData}{j:List Str}(J:m9 X.prog X.w X.K X.mg X.base Fw k t fd j (JK X.K j.length (c f)))(hr:jP k X.A)(L:Gl X x)(M:X.mg x=some (.ref t))(N:keepIn X.K (.ref t)=true)(O:Binds X.K fd j [])(U:SG X c (e::es) ps)(W:(e::es).length=j.length)(u:(x==("__debug__":Str))=false:=by decide)(he:starEach (e::es) X.env=(false,eval e X.env)::starEach es X.env:=by rfl)(hpl:(backTo pos (starEach es X.env)).any (·.1)=false:=by rfl)(y:ps.length=(e::es).length:=by rfl):SX X c (.Call (.Name x p') (e::es) [] pos) (.call f ps):=by
 refine⟨eY (KH (E:=E0) J hr L M N O .nil XD U u he hpl) ?_,λi h=>by cases h⟩;rintro σ H Q⟨F,ρ,r,ρ',g,e,k⟩;rw[HH.E15]at e;obtain⟨as,z,G,e⟩:=aj e;unfold pR at e;split at e;.cases e
 . rename_i args m;split at e
   . rename_i r' l hc;cases e;refine⟨F,ρ,as,z,g,G,λvs F1 Y s1 A=>?_⟩;have o:vs.length=j.length:=by
      have:∀{ps:List P}{ρ ρ':List Sl}{as:List Arg},ym c ps ρ=.ok as ρ'->as.length=ps.length:=by intro ps;induction ps with|nil=>intro ρ ρ' as h;rw[Ij]at h;cases h;rfl|cons q j I=>
         intro ρ ρ' as h;rw[yj]at h;split at h;.obtain⟨_,_,_,h⟩:=aj h;obtain⟨xs,B,C,h⟩:=aj h;cases h;simp[I C]
         .obtain⟨_,_,_,h⟩:=aj h;obtain⟨xs,B,C,h⟩:=aj h;cases h;simp[I C]
      rw[<-A.len,this G,y,W]
     show JK X.K j.length (c f) (vs++[]) Y Q E0;rw[append_nil];refine⟨o,F1,args,r,l,args_gs s1.gs A m,hc,λv Z ac H' s rr=>?_⟩;obtain⟨z1,z2⟩:=Ex s1 A m s;exact k v Z H' z1 (z2 v r rr)
   .cases e
   .cases e
def Fb(K:PySem.W.Frag)(D:Ends)(h:Hp)(ρ':List Sl)(f:L2.St)(g:Hp)(ρ:List Sl)(σ:L2.St)(H:Hp)(fl:Fl):Prop:=match fl with|.next=>D.nx f g|.brk=>D.bk f g|.cont=>D.ct f g|.ret r=>∀v,cT K h ρ' f g ρ σ H v r->D.rt v g
inductive ZX(K:PySem.W.Frag)(f:List Sl->Res Fl)(D:Ends)(σ:L2.St)(H:Hp):Prop where|mk(F:Hp)(ρ:List Sl)(fl:Fl)(ρ':List Sl)(g:GS K F ρ σ H)(e:f ρ=.ok fl ρ')(k:∀F' σ' H',aC K F ρ σ H F' ρ' σ' H'->Fb K D F' ρ' σ' H' ρ σ H fl)
def SS(X:Cx)(c:Call)(n:Nat)(st:Stmt)(s:S):Prop:=PS X st (ZX X.K (ex c n s))
def SB(X:Cx)(c:Call)(n:Nat)(st:List Stmt)(s:List S):Prop:=wB X st (ZX X.K (iJ c n s))
theorem dU{st:Stmt}{t t':TS}(h:PS X st t)(i:∀D σ H,t' D σ H->t D σ H):PS X st t':=λf s σ H D I q=>h f s σ H D I (i D σ H q)
theorem nH{st:List Stmt}{t t':TS}(h:wB X st t)(i:∀D σ H,t' D σ H->t D σ H):wB X st t':=λf s σ H D I q=>h f s σ H D I (i D σ H q)
theorem xs0{c:Call}:iJ c n [] ρ=.ok .next ρ:=rfl
theorem Rk{c:Call}{s:S}{r:List S}:iJ c n (s::r) ρ=(ex c n s ρ).bind λfl ρ=>match fl with|.next=>iJ c n r ρ|fl=>.ok fl ρ:=rfl
theorem aq:SB X c n [] []:=nH Br λD σ H⟨F,ρ,fl,ρ',g,e,k⟩=>by rw[xs0]at e;cases e;exact k F σ H (.refl g)
theorem aO{st:Stmt}{s:S}{f:List Stmt}{ss:List S}(h1:SS X c n st s)(m:SB X c n f ss):SB X c n (st::f) (s::ss):=by refine nH (lX h1 m) ?_;rintro D σ H⟨F,ρ,fl,ρ',g,e,k⟩;rw[Rk]at e;obtain⟨f1,h,j,e⟩:=aj e;cases f1 with
 |next=>refine⟨F,ρ,.next,h,g,j,λF1 o w s1=>⟨F1,h,fl,ρ',s1.gs,e,λF2 l t s2=>?_⟩⟩;have q:=k F2 l t (s1.trans s2);cases fl with|next=>exact q|brk=>exact q|cont=>exact q|ret r=>exact λv u=>q v (u.later s1)
 |brk=>cases e;exact⟨F,ρ,.brk,_,g,j,k⟩|cont=>cases e;exact⟨F,ρ,.cont,_,g,j,k⟩|ret r=>cases e;exact⟨F,ρ,.ret r,_,g,j,k⟩
theorem Q4{st:Stmt}:SS X c n st .bad:=dU Gd λD σ H⟨F,ρ,fl,ρ',g,e,k⟩=>by rw[HH.X4]at e;cases e
theorem HS{t1 t2:TE}(h1:PE X e t1)(g:PE X e t2):PE X e (λσ H Q=>t1 σ H Q\/t2 σ H Q):=λf s σ H Q I h=>h.elim (h1 f s σ H Q I) (g f s σ H Q I)
theorem Ra(he:SX X c e p):SS X c n (.Return (some e) pos) (.ret p):=by
 have plain:∀(D:Ends)(σ:L2.St)(H:Hp),(∃F ρ fl ρ',GS X.K F ρ σ H/\((HH.ev c p ρ).bind λr ρ=>.ok (Fl.ret r) ρ)=.ok fl ρ'/\∀j f h,aC X.K F ρ σ H j ρ' f h->(match fl with|.next=>D.nx f h|.brk=>D.bk f h|.cont=>D.ct f h|.ret r=>∀v,cT X.K j ρ' f h ρ σ H v r->D.rt v h))->sU X.K (HH.ev c p) σ H D.rt:=λD σ H⟨F,ρ,fl,ρ',g,e,k⟩=>by obtain⟨r,l,m,e⟩:=aj e;cases e;exact⟨F,ρ,r,_,g,m,λv F1 o s1 s=>k F1 σ o s1 v s⟩
 cases hv:isVar p with|none=>refine dU (Ik he.ev) λD σ H⟨F,ρ,fl,ρ',g,e,k⟩=>plain D σ H ⟨F,ρ,fl,ρ',g,?_,k⟩;rw[HH.Zb,hv]at e;exact e|some i=>--by the name itself:its own list is handed back,else its data
   have t:p=.var i:=by cases p<;>cases hv;rfl
   subst t;refine dU (Ik (HS (he.var i hv) he.ev)) ?_;rintro D σ H⟨F,ρ,fl,ρ',g,e,k⟩;rw[HH.Zb,hv]at e;dsimp only at e;split at e;.rename_i ds q;cases e;obtain⟨v,h1,u,w⟩:=g.give q;exact .inl ⟨v,h1,k F σ H u v w⟩
   .exact .inr (plain D σ H ⟨F,ρ,fl,ρ',g,e,k⟩)
theorem fL{m o:List Stmt}{s t:List S}(hc:ST X c e p)(u:SB X c n m s)(w:SB X c n o t):SS X c n (.If e m o pos) (.ifs p s t):=by refine dU (N7 hc u w) ?_;rintro D σ H⟨F,ρ,fl,ρ',g,e,k⟩;rw[HH.X13]at e;obtain⟨x,j,y,e⟩:=aj e;refine⟨F,ρ,x,j,g,y,λF1 z s1=>?_⟩;have go:∀{f:List Sl->Res Fl},f j=.ok fl ρ'->ZX X.K f D σ z:=λ{f}h=>⟨F1,j,fl,ρ',s1.gs,h,λF2 l A s2=>by have q:=k F2 l A (s1.trans s2);cases fl with|next=>exact q|brk=>exact q|cont=>exact q|ret r=>exact λv B=>q v (B.later s1)⟩;cases x with|true=>rw[if_pos rfl]at e;exact go e|false=>rw[if_neg Bool.false_ne_true]at e;exact go e
theorem jw{f:Pos}(l:X.N.Nodup)(hi:X.N[i]?=some x)(m:Loc X.env.scope x)(he:SX X c e p)(hs:swapsWith e (some (.Name x f)) pos.line X.env=pure false:=by rfl)(o:X.fn x=true\/X.env.scope.names.lookup x=some .local:=by first|exact .inl rfl|exact .inr rfl|assumption):SS X c n (.Assign [.Name x f] e pos) (.asg i p):=by refine dU (yJ l hi m he.ev hs o) ?_;rintro D σ H⟨F,ρ,fl,ρ',g,e,k⟩;rw[HH.X6]at e;obtain⟨r,j,q,e⟩:=aj e;obtain⟨s,t,h,e⟩:=aj e;cases e;have u:=aB h;clear h;obtain⟨h,z⟩:=u;exact⟨F,ρ,r,j,g,q,λv F1 w s1 y=>k F1 _ w (s1.put y h)⟩
end
end HH
end
section
namespace L2
open PySem PySem.Spec PyProof.Rows
variable{env:Env}{scope:Scope}{X:Cx}
noncomputable def pI(X:Cx)(scope:Scope)(N':List Str)(cl:List (Str×Addr))(C:Addr)(s₀:Shared)(H₀:Hp)(ex:List Addr):Cx:={X with N:=N',s₀:=s₀,H₀:=H₀,env:=compEnvC scope cl C X.env,outer:=X.stack,stack:=X.stack,ex:=ex,fn:=λx=>scope.names.lookup x==some .cell,pn:=[],xe:=λ_ _=>False}
theorem zF(l:List (Str×NameKind)):∀(cs:List (Str×Addr)),(∀n,(n,NameKind.free)∈l->∃c,env.cells.lookup n=some c)->(∀n c,cs.lookup n=some c->env.cells.lookup n=some c)->∃ cl,(forIn l cs (λ(x:Str × NameKind)(r:List (Str × Addr))=>(if(x.2==NameKind.free)=true then(do let a<-cellOf env x.1;pure (ForInStep.yield ((x.1,a)::r)))else pure (ForInStep.yield r):Sem (ForInStep (List (Str × Addr))))):Sem (List (Str × Addr)))=pure cl/\(∀n c,cl.lookup n=some c->env.cells.lookup n=some c)/\(∀n,((n,NameKind.free)∈l\/(cs.lookup n).isSome)->(cl.lookup n).isSome):=by induction l with|nil=>intro cs _ h;exact⟨cs,rfl,h,λn hn=>by rcases hn with hn|hn;cases hn;exact hn⟩|cons y l i=>
   obtain⟨n,k⟩:=y;intro cs b hc;rw[forIn_cons];by_cases f:k=.free
   . subst f;obtain⟨a,j⟩:=b n mem_cons_self;obtain⟨cl,e,h1,g⟩:=i ((n,a)::cs) (λm hm=>b m (mem_cons_of_mem _ hm)) λm c hm=>by
      rw[lookup_cons]at hm;split at hm;.rename_i q;have q:=eq_of_beq q;subst q;cases hm;exact j
      .exact hc m c hm
     refine⟨cl,?_,h1,λm hm=>g m ?_⟩
     . rw[<-e];have:cellOf env n=pure a:=by unfold cellOf;rw[j]
       simp only[beq_self_eq_true,if_true,this];rfl
     . rcases hm with hm|hm
       . rcases mem_cons.mp hm with hm|hm;.cases hm;right;simp[lookup_cons]
         .exact .inl hm
       . right;rw[lookup_cons];split;.rfl
         .exact hm
   . obtain⟨cl,e,h1,g⟩:=i cs (λm hm=>b m (mem_cons_of_mem _ hm)) hc;refine⟨cl,?_,h1,λm hm=>g m ?_⟩
     . rw[<-e];have:(k==NameKind.free)=false:=by simpa using f
       simp only[this,false_eq_true,if_false];rfl
     . rcases hm with hm|hm
       . rcases mem_cons.mp hm with hm|hm;.cases hm;exact absurd rfl f
         .exact .inl hm
       .exact .inr hm
theorem xZ(a:∀n,(n,NameKind.free)∈scope.names->∃c,env.cells.lookup n=some c):∃cl,closureFor scope env=pure cl/\(∀n c,cl.lookup n=some c->env.cells.lookup n=some c)/\∀n,(n,NameKind.free)∈scope.names->(cl.lookup n).isSome:=by obtain⟨cl,e,h1,b⟩:=zF (env:=env) scope.names [] a (by simp);refine⟨cl,?_,h1,λn f=>b n (.inl f)⟩;unfold closureFor;exact(congrArg (λt=>t>>=λr=>pure r) e).trans rfl
theorem eO{env:Env}:∀(names:List (Str×NameKind))(x:Str),(names.map λ(n,k)=>if(k==NameKind.free&&env.scope.kind==.function&&env.kindOf n==some .cell)then(n,NameKind.cell)else(n,k)).lookup x=(names.lookup x).map λk=>if(k==NameKind.free&&env.scope.kind==.function&&env.kindOf x==some .cell)=true then NameKind.cell else k
 |[],x=>rfl|(n,k)::r,x=>by
   have a:=eO (env:=env) r x;show List.lookup x ((if(k==NameKind.free&&env.scope.kind==.function&&env.kindOf n==some .cell)=true then(n,NameKind.cell)else(n,k))::_)=_;by_cases hc:(k==NameKind.free&&env.scope.kind==.function&&env.kindOf n==some .cell)=true;.rw[if_pos hc,lookup_cons,lookup_cons];cases hx:x==n with|true=>have:=eq_of_beq hx;subst this;show some NameKind.cell=some (if _ then _ else _);rw[if_pos hc]|false=>exact a
   .rw[if_neg hc,lookup_cons,lookup_cons];cases hx:x==n with|true=>have:=eq_of_beq hx;subst this;show some k=some (if _ then _ else _);rw[if_neg hc]|false=>exact a
noncomputable def Yh(N N':List Str)(a:Scope):Bool:=(N.zip N').all λp=>(p.1==p.2&&a.names.lookup p.2==some .free)||(a.names.lookup p.2!=some .local&&a.names.lookup p.2!=some .cell&&a.names.lookup p.2!=some .free)
structure fu(X:Cx)(scope:Scope)(N':List Str)(n:Nat):Prop where
 kind:scope.kind=.function
 cons:∀y∈scope.names,scope.names.lookup y.1=some y.2
 names:∀y∈scope.names,y.2=.local->scope.names.lookup y.1=some .local
 cap:∀y∈scope.names,y.2=.free->X.env.scope.names.lookup y.1=some .cell\/X.env.scope.names.lookup y.1=some .free
 len:N'.length=X.N.length+n
 same:Yh X.N N' scope=true
theorem fu.get{N':List Str}{n:Nat}(c:fu X scope N' n){i:Nat}{x:Str}(hi:i<X.N.length)(h:N'[i]?=some x)(a:xQ (relabel scope X.env) x):X.N[i]?=some x/\scope.names.lookup x=some .free:=by
 have hz:(X.N.zip N')[i]?=some (X.N[i],x):=by rw[List.getElem?_zip_eq_some];exact⟨by simp[hi],h⟩
 have:=(all_eq_true.mp c.same) _ (mem_of_getElem? hz);simp only[or_eq_true,and_eq_true]at this;rcases this with⟨h1,b⟩|⟨⟨h1,b⟩,f⟩;.have h1:=eq_of_beq h1;have b:=eq_of_beq b;exact⟨by simp[hi,h1],b⟩
 . exfalso;have h1:scope.names.lookup x≠some .local:=by simpa using h1
   have b:scope.names.lookup x≠some .cell:=by simpa using b
   have f:scope.names.lookup x≠some .free:=by simpa using f
   have e:=eO (env:=X.env) scope.names x;have a:(relabel scope X.env).names.lookup x=some .local\/(relabel scope X.env).names.lookup x=some .cell\/(relabel scope X.env).names.lookup x=some .free:=a;rw[show(relabel scope X.env).names.lookup x=_ from e]at a;cases q:scope.names.lookup x with|none=>rw[q]at a;simp at a|some k=>
     rw[q]at a h1 b f;have g:(k==NameKind.free)=false:=by cases k<;>first|rfl|exact absurd rfl f
     simp only[Option.map_some,g,Bool.false_and,false_eq_true,if_false,Option.some.injEq]at a;rcases a with rfl|rfl|rfl;.exact h1 rfl
     .exact b rfl
     .exact f rfl
structure CI(cl:List (Str×Addr))(z:Nat)(h:Heap)(acc:List (Str×Addr)):Prop where from':∀n c,acc.lookup n=some c->cl.lookup n=some c\/(z<=c/\h.IsCell c none)inj:∀n n' c,acc.lookup n=some c->acc.lookup n'=some c->n=n'
theorem Er{cl:List (Str×Addr)}{z:Nat}(i:∀n c,cl.lookup n=some c->c<z):∀(names:List (Str×NameKind))(h:Heap)(f:List (Str×Addr)),z<=h.objs.size->CI cl z h f->CI cl z (pushCells h names) (cellsFrom h.objs.size names f)/\(∀n,(f.lookup n).isSome->((cellsFrom h.objs.size names f).lookup n).isSome)/\(∀n,((∃c,f.lookup n=some c/\z<=c)\/(n,NameKind.cell)∈names)->∃c,(cellsFrom h.objs.size names f).lookup n=some c/\z<=c)/\(∀n c,(n,NameKind.cell)∉names->(cellsFrom h.objs.size names f).lookup n=some c->f.lookup n=some c)
 |[],h,f,hz,x=>by
   refine⟨x,λ_ q=>q,λn q=>?_,λ_ _ _ q=>q⟩;rcases q with q|q;.exact q
   .cases q|(name,kind)::r,h,f,hz,x=>by
   unfold pushCells cellsFrom;by_cases l:kind=.cell
   . subst l;rw[if_pos (by rfl),if_pos (by rfl)];have p:CI cl z (h.push {cls:=.type "cell",data:=.cell none}) ((name,h.objs.size)::f):=by
      have lt:∀n c,f.lookup n=some c->c<h.objs.size:=λn c e=>by
       rcases x.from' n c e with q|q;.exact lt_of_lt_of_le (i n c q) hz
       .exact q.2.lt
      refine⟨λn c e=>?_,λn m c e j=>?_⟩
      . rw[lookup_cons]at e;split at e;.cases e;exact .inr ⟨hz,_,get?_push_size _ rfl,rfl⟩
        . rcases x.from' n c e with q|q;.exact .inl q
          .exact .inr ⟨q.1,q.2.keeps λb o e=>dR e⟩
      . rw[lookup_cons]at e j;split at e<;>split at j;.rename_i _ a _ b;rw[eq_of_beq a,eq_of_beq b]
        .cases e;exact absurd (lt m _ j) (lt_irrefl _)
        .cases j;exact absurd (lt n _ e) (lt_irrefl _)
        .exact x.inj n m c e j
     have g:=Er i r (h.push {cls:=.type "cell",data:=.cell none}) ((name,h.objs.size)::f) (by rw[size_push];omega) p;rw[size_push]at g;refine⟨g.1,λn q=>g.2.1 n ?_,λn q=>g.2.2.1 n ?_,λn c q e=>?_⟩
     . rw[lookup_cons];split;.rfl
       .exact q
     . rcases q with⟨c,e,hc⟩|q
       . left;rw[lookup_cons];split;.exact⟨_,rfl,hz⟩
         .exact⟨c,e,hc⟩
       . rcases mem_cons.mp q with q|q;.cases q;left;exact⟨_,by simp[lookup_cons],hz⟩
         .exact .inr q
     . have:=g.2.2.2 n c (λz=>q (mem_cons_of_mem _ z)) e;rw[lookup_cons]at this;split at this;.rename_i a;exact absurd (by rw[eq_of_beq a];exact mem_cons_self) q
       .exact this
   . have k:(kind==NameKind.cell)=false:=by simpa using l
     rw[if_neg (by rw[k];decide),if_neg (by rw[k];decide)];have g:=Er i r h f hz x;refine⟨g.1,g.2.1,λn q=>g.2.2.1 n ?_,λn c q e=>g.2.2.2 n c (λz=>q (mem_cons_of_mem _ z)) e⟩;rcases q with q|q;.exact .inl q
     . rcases mem_cons.mp q with q|q;.cases q;exact absurd rfl l
       .exact .inr q
structure Ey(X:Cx)(scope:Scope)(z:Nat)(h:Heap)(cs:List (Str×Addr)):Prop where
 from':∀n c,cs.lookup n=some c->X.env.cells.lookup n=some c\/(z<c/\h.IsCell c none)inj:∀n n' c,cs.lookup n=some c->cs.lookup n'=some c->n=n'
 has:∀n,(scope.names.lookup n=some .free\/scope.names.lookup n=some .cell)->∃c,cs.lookup n=some c
 fre:∀n c,scope.names.lookup n=some .free->cs.lookup n=some c->X.env.cells.lookup n=some c
 own:∀n c,scope.names.lookup n=some .cell->cs.lookup n=some c->z<c
theorem Di{M:Model}{A:Around}{E:Value->Shared->Prop}{s:Shared}{N':List Str}{n:Nat}{cl:List (Str×Addr)}{Q:Env->Shared->Prop}(ok:fu X scope N' n)(h:∀n c,X.env.cells.lookup n=some c->c<s.heap.objs.size)(f:∀x y c,X.env.cells.lookup x=some c->X.env.cells.lookup y=some c->x=y)(a:∀n c,cl.lookup n=some c->X.env.cells.lookup n=some c)(l:∀n,(n,NameKind.free)∈scope.names->(cl.lookup n).isSome)(m:∀ cs h',h'.Ns s.heap.objs.size (λ_=>none)->(∀ b o,s.heap.get? b=some o->h'.get? b=some o)->Ey X scope s.heap.objs.size h' cs->Q {scope:=scope,locals:=s.heap.objs.size,globals:=X.env.globals,cells:=cs,qual:=X.env.qual,func:=none,code:=X.env.code,frame:=X.env.frame,builtins:=X.env.builtins} {s with heap:=h'}):wpAny M A (newFunctionEnv scope X.env.globals cl [] X.env.qual none .none (some X.env)) Q E s:=by
 simp only[newFunctionEnv,Option.isSome_some,if_true];refine wpAny_bind (wpAny_alloc ?_);refine wpAny_bind (wpAny_layCells _ (λname kind cells=>by cases i:kind==NameKind.cell<;>simp[i]) _ _ _ _ ?_);have ck:=Er (cl:=cl) (z:=s.heap.objs.size+1) (λn c e=>Nat.lt_succ_of_lt (h n c (a n c e))) scope.names (s.heap.push {cls:=.type "dict",data:=.dict #[]}) cl (by rw[size_push];exact dm) ⟨λn c e=>.inl e,λn k c e g=>f n k c (a n c e) (a k c g)⟩;obtain⟨c1,c2,c3,c4⟩:=ck;rw[show({s with heap:=s.heap.push {cls:=.type "dict",data:=.dict #[]}}:Shared).heap.objs.size=(s.heap.push {cls:=.type "dict",data:=.dict #[]}).objs.size from rfl];refine wpAny_bind ?_;rw[forIn_nil];refine wpAny_pure (wpAny_pure (m _ _ ((Heap.Ns.new s.heap (.type "dict")).keeps (pushCells_keeps _ _)) (λb o e=>pushCells_keeps _ _ b o (dR e)) ⟨λn c e=>?_,c1.inj,λn q=>?_,λn c q e=>?_,λn c q e=>?_⟩))
 . rcases c1.from' n c e with z|z;.exact .inl (a n c z)
   .exact .inr ⟨z.1,z.2⟩
 . rcases q with q|q;.exact Option.isSome_iff_exists.mp (c2 n (l n (PySem.mem_of_lookup q)))
   .obtain⟨c,e,_⟩:=c3 n (.inr (PySem.mem_of_lookup q));exact⟨c,e⟩
 .refine a n c (c4 n c (λz=>?_) e);have:=ok.cons _ z;rw[q]at this;cases this
 .obtain⟨p,g,j⟩:=c3 n (.inr (PySem.mem_of_lookup q));rw[e]at g;cases g;exact j
section
variable{X:Cx}{pins:List (Addr×Obj)}{σ:L2.St}{H:Hp}{s:Shared}{scope:Scope}{N':List Str}{n:Nat}{fp:List Addr}{cl:List (Str×Addr)}
theorem Hf{h1:Heap}{m:Str->Option Value}{t:Nat}{cs:List (Str×Addr)}(ok:fu X scope N' n)(I:Inv X pins σ H s)(G:∀b∈fp,m8 X pins H b/\b<s.heap.objs.size)(w:Ey X scope s.heap.objs.size h1 cs)(Q:h1.Ns s.heap.objs.size m)(j:∀b u,s.heap.get? b=some u->h1.get? b=some u):Inv (pI X scope N' cs s.heap.objs.size s H fp) [] (σ++replicate n none) H {s with heap:=h1,toks:=t}:=by
 have U:∀x,scope.names.lookup x=some .free->(relabel scope X.env).names.lookup x=some .cell\/(relabel scope X.env).names.lookup x=some .free:=λx h=>by
  have e:=eO (env:=X.env) scope.names x;rw[h]at e;have J:(relabel scope X.env).names.lookup x=_:=e;rw[J];simp only[Option.map_some];split;.exact .inl rfl
  .exact .inr rfl
 refine⟨⟨I.ok.mod,ok.kind,I.ok.glob,I.ok.blt,dm,λx y c h1 W=>w.inj x y c h1 W,λx z=>?_,λx c h e=>le_of_lt (w.own x c (eq_of_beq (show(scope.names.lookup x==some NameKind.cell)=true from h)) e),I.ok.hd,I.ok.frames,.inl rfl,λb B=>?_,I.bs,le_trans I.ok.Ol I.sz,λb u e B=>?_,λb B L=>?_,I.stack,I.Bp⟩,rfl,I.bare,Un.kept j,⟨m,Q,λi x v Y C Z=>?_⟩,λx c e=>?_,I.hok.fresh (dm),λx c e=>?_,λp hp=>(by cases hp),I.hok.kept j,?_⟩;.--a Yy name has its cell
   have z:(relabel scope X.env).names.lookup x=some .cell\/(relabel scope X.env).names.lookup x=some .free:=z;have e:=eO (env:=X.env) scope.names x;have J:(relabel scope X.env).names.lookup x=_:=e;rw[J]at z;refine w.has x ?_;cases q:scope.names.lookup x with|none=>rw[q]at z;simp at z|some k=>
     rw[q]at z;by_cases hk:k=.free;.rw[hk];exact .inl rfl
     . have g:(k==NameKind.free)=false:=by simpa using hk
       simp only[Option.map_some,g,Bool.false_and,false_eq_true,if_false,Option.some.injEq]at z;rcases z with rfl|rfl;.exact .inr rfl
       .exact absurd rfl hk
 . obtain⟨f,lt⟩:=G b B;refine⟨ne_of_lt lt,λx c e=>?_⟩;rcases w.from' x c e with e|e;.exact f.2.2.2.2.1 x c e
   .rintro rfl;exact absurd (Nat.lt_trans e.1 lt) (lt_irrefl _)
 . obtain⟨f,lt⟩:=G b B;rcases f.2.2.2.1 with h|h;.exact I.ok.Jd b u e h
   .have this:b<X.base.objs.size:=lt_size e;exact absurd (lt_of_lt_of_le this (le_trans I.ok.Ol h)) (lt_irrefl _)
 . obtain⟨f,lt⟩:=G b B;rcases mem_cons.mp (I.ur b L)with h|h;.exact f.2.1 h
   .exact f.2.2.1 h
 .--the names
   have hi:i<σ.length:=by
    by_cases hi:i<σ.length;.exact hi
    .rw[getElem?_append_right (by omega),getElem?_replicate]at C;split at C<;>cases C
   rw[getElem?_append_left hi]at C;obtain⟨M,o⟩:=ok.get (by rw[<-I.len];exact hi) Y Z;have hk:=ok.cap (x,.free) (PySem.mem_of_lookup o) rfl;obtain⟨m0,ac,hl⟩:=I.loc;obtain⟨u,r,l⟩:=hl i x v M C (.inr hk);refine⟨u,r,.inr ⟨U x o,?_⟩⟩;rcases l with⟨g,_⟩|⟨_,c,hc,A⟩;.have g:X.env.scope.names.lookup x=some .local:=g;rcases hk with hk|hk<;>(rw[g]at hk;cases hk)
   .obtain⟨c',E⟩:=w.has x (.inl o);have:=w.fre x c' o E;rw[hc]at this;cases this;refine⟨c,E,?_⟩;obtain⟨oc,N,O⟩:=A;exact⟨oc,j c oc N,O⟩
 . rcases w.from' x c e with e|e;.obtain⟨v,oc,N,O⟩:=I.cell x c e;exact⟨v,oc,j c oc N,O⟩
   .exact⟨_,e.2⟩
 . rcases w.from' x c e with e|e;.exact I.kO x c e
   .exact I.hok.fresh (le_of_lt e.1)
 .show(σ++replicate n none).length=N'.length;rw[length_append,List.length_replicate,I.len,ok.len]
theorem u6{prog:Program}{w:World}{A:Around}{R:Result->Shared->Prop}{p a iter:Expr}{ifs:List Expr}{pos:Pos}{B q:Value}(I:Nat->Shared->Prop)(t:∀ n s,I n s->wpAny (model prog w) A (pyNext B) (λr b=>match r with|none=>R (.ok .next) b|some v=>wpAny (model prog w) A (letOwnedTupleGo a B v) (λ_ b=>wpAny (model prog w) A (assign a env v) (λ_ j=>wpAny (model prog w) A (forIn ifs true λc r=>if r=true then do let ok<-isTrue c env (eval c env);pure (ForInStep.yield ok)else pure (ForInStep.yield r)) (λok g=>if ok=true then wpAny (model prog w) A (eval p env) (λx k=>wpAny (model prog w) A (call (.builtin "list.append") [q,x]) (λ_ l=>∃m,m<n/\I m l) (notedBy (model prog w) A env λe i=>R (.error e) i) k) (notedBy (model prog w) A env λe i=>R (.error e) i) g else ∃m,m<n/\I m g) (notedBy (model prog w) A env λe i=>R (.error e) i) j) (notedBy (model prog w) A env λe i=>R (.error e) i) b) (notedBy (model prog w) A env λe i=>R (.error e) i) b) (notedBy (model prog w) A env λe i=>R (.error e) i) s)(n:Nat){s:Shared}(h:I n s):codeAny (model prog w) A (.compLoop (.ListComp p [⟨a,iter,ifs,0⟩] scope pos) 0 B q env) R s:=by refine codeAny_loop rfl I (λn s C=>?_) n h;show wpAny _ A ((compTurn (.ListComp p [⟨a,iter,ifs,0⟩] scope pos) 0 B q env).onRaise (λx=>do noteFrame x env;theTreesLotGoes x)) _ _ s;refine wpAny_noted ?_;rw[compTurn_list];refine wpAny_bind (wpAny_standAt (wpAny_bind (wpAny_mono (t n s C) (λr b f=>?_) λ_ _ h'=>h')));cases r with|none=>exact wpAny_pure f|some v=>refine wpAny_bind (wpAny_mono f (λ_ b f=>?_) λ_ _ h'=>h');refine wpAny_bind (wpAny_mono f (λ_ j u=>wpAny_bind (wpAny_mono u (λok g o=>?_) λ_ _ h'=>h')) λ_ _ h'=>h');cases ok with|false=>exact wpAny_pure ⟨rfl,o⟩|true=>exact wpAny_bind (wpAny_bind (wpAny_mono o (λx k y=>wpAny_bind (wpAny_mono y (λ_ l z=>wpAny_pure (wpAny_pure ⟨rfl,z⟩)) λ_ _ h'=>h')) λ_ _ h'=>h'))
def QG(X:Cx)(ifs:List Expr)(t:TT):Prop:=∀(pins:List (Addr × Obj))(s:Shared)(σ:L2.St)(H:Hp)(Q:Bool->Hp->Prop),Inv X pins σ H s->t σ H Q->wpAny (model X.prog X.w) X.A (forIn ifs true λc r=>if r=true then do let ok<-isTrue c X.env (eval c X.env);pure (ForInStep.yield ok)else pure (ForInStep.yield r)) (TP X pins σ Q) X.xe s
theorem LC:QG X [] (λ_ H Q=>Q true H):=λpins s σ H Q I h=>wpAny_tests_nil ⟨H,I,h⟩
theorem Lj{c:Expr}{t:TT}(h:PT X c t):QG X [c] t:=λpins s σ H Q I q=>wpAny_tests_one (h pins s σ H Q I q)
def Mz(J:It)(g:TG)(tt:TT)(te:TE)(D:Addr)(Q:Hp->Prop)(W:Nat->Nat->List V->L2.St->Hp->Prop):Prop:=∀ i m ys σ H,W i m ys σ H->H D=some (.lst ys)/\((J.stop i H/\Q H)\/(J.go i H/\∀ x e,J.Jf i H x e->g x σ e λa j=>tt a j λb f=>if b=true then te a f λy h=>h D=some (.lst ys)/\ys.length<sizeLine/\∃c,c<m/\W (i+1) c (ys++[y]) a (upd h D (.lst (ys++[y])))else ∃c,c<m/\W (i+1) c ys a f))
theorem sY{E:Value->Shared->Prop}{af a iter:Expr}{ifs:List Expr}{pos:Pos}{it:Addr}{tn:Nat->Heap->Prop}{J:It}{g:TG}{tt:TT}{te:TE}{Q:Addr->Hp->Prop}{RR:Value->Addr->Result->Shared->Prop}(hc:X.calm=true)(ok:fu X scope N' n)(I:Inv X pins σ H s)(bi:∀n c,cl.lookup n=some c->X.env.cells.lookup n=some c)(zP:∀n,(n,NameKind.free)∈scope.names->(cl.lookup n).isSome)(T:Turn X.prog X.w X.K a J fp it tn)(h0:tn 0 s.heap)(hf:∀b∈fp,m8 X pins H b)(hg:∀cl C s₀ H₀ ex,PG (pI X scope N' cl C s₀ H₀ ex) a g)(ht:∀cl C s₀ H₀ ex,QG (pI X scope N' cl C s₀ H₀ ex) ifs tt)(he:∀cl C s₀ H₀ ex,PE (pI X scope N' cl C s₀ H₀ ex) af te)(hw:∀D,H D=none->∃W,(∃m,W 0 m [] (σ++replicate n none) (upd H D (.lst [])))/\Mz J g tt te D (Q D) W)(bm:∀D C B l,Q D l->(∃m,B.heap.Ns C m)->m8 X pins l C->Inv X pins σ l B->RR (.ref D) C (.ok .next) B):wpAny (model X.prog X.w) X.A (newList []) (λav aw=>wpAny (model X.prog X.w) X.A (newFunctionEnv scope X.env.globals cl [] X.env.qual none .none (some X.env)) (λal ax=>codeAny (model X.prog X.w) X.A (.compStart (.ListComp af [⟨a,iter,ifs,0⟩] scope pos) 0 (.ref it) av {al with scope:=relabel scope X.env}) (RR av al.locals) ax) E aw) E s:=by
 refine wpAny_newObj_type (Di ok (λx c e=>?lt) I.ok.inj bi zP (λcs M am hold bc=>?_));case lt=>obtain⟨v,z⟩:=I.cell x c e;exact lt_of_lt_of_le z.lt (by show _<=(s.heap.push _).objs.size;rw[size_push];exact Nat.le_succ _)
 dsimp only at am hold bc ⊢--the new list,tracked
 have I3:Inv X pins σ (upd H s.heap.objs.size (.lst [])) {s with heap:=s.heap.push {cls:=.type "list",data:=.seq ([]:List Value).toArray}}:=I.QZ (t':=s.toks) .nil (BZ);generalize ap:({s with heap:=s.heap.push {cls:=.type "list",data:=.seq ([]:List Value).toArray}}:Shared)=s3 at I3;have hsz:s3.heap.objs.size=s.heap.objs.size+1:=by rw[<-ap];exact size_push _ _
 have Ow:s3.heap=s.heap.push {cls:=.type "list",data:=.seq ([]:List Value).toArray}:=by rw[<-ap]
 obtain⟨W,⟨m0,w0⟩,ay⟩:=hw s.heap.objs.size I.fresh;have aE:∀{h':Heap},(∀b o,s.heap.get? b=some o->h'.get? b=some o)->tn 0 h':=λk=>T.keep _ _ _ h0 λb j o e=>k b o e;have ag:∀b∈fp,m8 X pins (upd H s.heap.objs.size (.lst [])) b/\b<s3.heap.objs.size:=λb j=>by obtain⟨o,e,_⟩:=T.obj 0 _ h0 b j;have lt:=lt_size e;obtain⟨f1,f2⟩:=hf b j;exact⟨⟨by rw[aD (ne_of_lt lt)];exact f1,f2⟩,by rw[hsz];exact Nat.lt_succ_of_lt lt⟩
 rw[<-Ow]at am hold bc ⊢;have I4:=Hf (t:=s3.toks) ok I3 ag bc am hold;have Yz:∀b o,s.heap.get? b=some o->M.get? b=some o:=λb o e=>hold b o (by rw[Ow];exact dR e);generalize U:pI X scope N' cs s3.heap.objs.size s3 (upd H s.heap.objs.size (.lst [])) fp=G at I4;have hA:G.A=X.A:=by rw[<-U];rfl
 have N:G.prog=X.prog:=by rw[<-U];rfl
 have O:G.w=X.w:=by rw[<-U];rfl
 have aI:G.K=X.K:=by rw[<-U];rfl
 have Y:G.calm=true:=by rw[<-U];exact hc
 have bn:G.xe=λ_ _=>False:=by rw[<-U];rfl
 have aS:G.env=compEnvC scope cs s3.heap.objs.size X.env:=by rw[<-U];rfl
 have bo:PG G a g:=by rw[<-U];exact hg _ _ _ _ _
 have bp:QG G ifs tt:=by rw[<-U];exact ht _ _ _ _ _
 have bq:PE G af te:=by rw[<-U];exact he _ _ _ _ _
 have ff:∀{l:Hp}{b:Addr},b∈fp->l b=none->m8 G [] l b:=λ{l b}j hn=>by
  obtain⟨f,lt⟩:=ag b j;rw[<-U];refine⟨hn,ne_of_lt lt,λbr=>?_,.inl j,λx c e=>?_,λp hp=>by cases hp⟩
  . rcases mem_cons.mp (I3.ur b br)with h|h;.exact f.2.1 h
    .exact f.2.2.1 h
  . rcases bc.from' x c e with e|e;.exact f.2.2.2.2.1 x c e
    .rintro rfl;exact absurd (Nat.lt_trans e.1 lt) (lt_irrefl _)--behind the block
 have fin:∀{L:L2.St}{l:Hp}{B:Shared},Inv G [] L l B->Q s.heap.objs.size l->RR (.ref s.heap.objs.size) s3.heap.objs.size (.ok .next) B:=λ{L l B}J' q=>by
  rw[<-U]at J';have hC:l s3.heap.objs.size=none:=J'.free;obtain⟨hh,gg,dd,bv,bP⟩:=B;have bS:bP=s3.os:=J'.os;subst bS;refine bm _ _ _ l q (let⟨m,hm,_⟩:=J'.loc;⟨m,hm⟩) ?_ (I3.call (h':=hh) (g':=gg) (d':=dd) (t':=bv) (ch:=fp) J'.base J'.hok J'.bare λb j=>?_);.exact I3.yG (dm) hC
  .obtain⟨f,lt⟩:=ag b j;exact⟨f.2.2.2.1,f.2.1,f.2.2.2.2.1,f.2.2.2.2.2⟩
 have ac:codeAny (model X.prog X.w) X.A (.compLoop (.ListComp af [⟨a,iter,ifs,0⟩] scope pos) 0 (.ref it) (.ref s.heap.objs.size) G.env) (RR (.ref s.heap.objs.size) s3.heap.objs.size) {s3 with heap:=M,toks:=s3.toks}:=by
  refine u6 (λk B=>∃i ys L l,Inv G [] L l B/\tn i B.heap/\(∀b∈fp,l b=none)/\W i k ys L l) (λk s5 hI=>?_) m0 ⟨0,[],_,_,I4,aE Yz,λb j=>(ag b j).1.1,w0⟩;obtain⟨i,ys,ah,H5,I5,t5,f5,w5⟩:=hI;obtain⟨hD,ar⟩:=ay i k ys ah H5 w5;have ai:∀{Z:Value->Shared->Prop},∀(e:Value)(B:Shared),G.xe e B->Z e B:=λe B z=>by rw[bn]at z;exact False.elim z
  rcases ar with⟨stop,q⟩|⟨go,step⟩;.have z:=T.done G N O aI Y i [] s5 ah H5 (λ_ _=>False) I5 (λb j=>ff j (f5 b j)) t5 stop;rw[hA]at z;refine wpAny_mono z (?_) λ_ _ z=>False.elim z;rintro r s6⟨hr,I6⟩;subst hr;exact fin I6 q
  . have z:=T.item G N O aI Y i [] s5 ah H5 (λ_ _=>False) I5 (λb j=>ff j (f5 b j)) t5 go;rw[hA]at z;refine wpAny_mono z (?_) λ_ _ z=>False.elim z;rintro r s6⟨u,hr,z6⟩;subst hr;refine wpAny_mono z6 (?_) λ_ _ z=>False.elim z;rintro _ s7⟨x,H7,I7,r7,y7,t7,f7⟩;have bX:=I7.pinned (λb j=>ff j (f7 b j)) (T.obj _ _ t7)--what the pins keep
    have back:∀{L:L2.St}{l:Hp}{B:Shared},Inv G ([]++qg fp s7.heap) L l B->Inv G [] L l B/\tn (i+1) B.heap/\∀b∈fp,l b=none:=λ{L l B}J'=>by refine⟨J'.mz,T.keep _ _ _ t7 λb j o e=>(J'.pin (b,o) (mem_append_right _ (mem_append_right _ (je j e)))).1,λb j=>?_⟩;obtain⟨o,e,_⟩:=T.obj _ _ t7 b j;exact(J'.pin (b,o) (mem_append_right _ (mem_append_right _ (je j e)))).2.1
    have z7:=bo _ s7 ah H7 x u _ bX r7 (step x H7 y7);rw[hA,N,O]at z7;refine wpAny_mono z7 (?_) ai;rintro _ s8⟨ae,H8,I8,q8⟩;have z8:=bp _ s8 ae H8 _ I8 q8;rw[hA,N,O]at z8;refine wpAny_mono z8 (?_) ai;rintro b s9⟨H9,I9,q9⟩;cases b with|false=>rw[if_neg Bool.false_ne_true]at q9 ⊢;obtain⟨m',hm,w'⟩:=q9;obtain⟨b1,b2,b3⟩:=back I9;exact⟨m',hm,i+1,ys,ae,H9,b1,b2,b3,w'⟩|true=>rw[if_pos rfl]at q9 ⊢;have z9:=bq _ s9 ae H9 _ I9 q9;rw[hA,N,O]at z9;refine wpAny_mono z9 (?_) ai;rintro y rF⟨yv,aT,ca,cc,ce,a8,m',hm,w'⟩;have a9:=m5 _ rF ae aT (.ref s.heap.objs.size) [yv] (.ref s.heap.objs.size) [y] (λv ba=>ba=upd aT s.heap.objs.size (.lst (ys++[yv]))) ca rfl (.cons cc .nil) ⟨_,ys,yv,rfl,rfl,ce,a8,rfl⟩;rw[hA,N,O]at a9;refine wpAny_mono a9 (?_) ai;rintro _ YZ⟨_,ba,cf,_,ci⟩;subst ci;obtain⟨b1,b2,b3⟩:=back cf;exact⟨m',hm,i+1,ys++[yv],ae,_,b1,b2,b3,w'⟩
 have e3:({s3 with heap:=M,toks:=s3.toks}:Shared)={s with heap:=M}:=by rw[<-ap]
 rw[aS,e3]at ac;exact codeAny_compStart_list ac (T.self _ 0 _ _ _ (aE Yz) ac)
end
section
variable{X:Cx}{elt target iter:Expr}{ifs:List Expr}{scope:Scope}{pos:Pos}{N':List Str}{n:Nat}{wi:TI}{g:TG}{tt:TT}{te:TE}
def tM(n:Nat)(wi:TI)(g:TG)(tt:TT)(te:TE):TE:=λσ H Q=>wi σ H λJ a=>∀D,a D=none->∃W,(∃m,W 0 m [] (σ++replicate n none) (upd a D (.lst [])))/\Mz J g tt te D (λb=>Q (.ref D) b) W
theorem mj{a:List (Addr×Obj)}{σ:L2.St}{H:Hp}{s:Shared}(I:Inv X a σ H s)(ok:fu X scope N' n):∃cl,closureFor scope X.env=pure cl/\(∀n c,cl.lookup n=some c->X.env.cells.lookup n=some c)/\∀n,(n,NameKind.free)∈scope.names->(cl.lookup n).isSome:=xZ λm b=>I.ok.has m (ok.cap (m,.free) b rfl)
theorem BJ(hc:X.calm=true)(ok:fu X scope N' n)(hi:PI X target iter wi)(r:∀cl C s₀ H₀ ex,PG (pI X scope N' cl C s₀ H₀ ex) target g)(ht:∀cl C s₀ H₀ ex,QG (pI X scope N' cl C s₀ H₀ ex) ifs tt)(he:∀cl C s₀ H₀ ex,PE (pI X scope N' cl C s₀ H₀ ex) elt te)(hs:∀x,foldedSetIterable iter X.env x=pure x:=by intro _;rfl):PE X (.ListComp elt [⟨target,iter,ifs,0⟩] scope pos) (tM n wi g tt te):=by intro a s σ H Q I h;obtain⟨cl,c,i,t⟩:=mj I ok;rw[eval_ListComp];refine wpAny_comprehension_free (use:=none) rfl hs c ok.kind ok.names (cB (hi a s σ H _ I h) λv s1 h1=>cB h1 λu s2 y=>?_);obtain⟨M,N,O,J,U,rfl,z,T,t0,f2,B⟩:=y;refine sY (Q:=λD j=>Q (.ref D) j) (RR:=λk C=>compPost (model X.prog X.w) X.A X.xe none (EP X a σ Q) k C) hc ok z i t T t0 f2 r ht he B λD C E j q l f G=>?_;obtain⟨m,l⟩:=l;refine⟨m,l,λh' p=>⟨.ref D,j,?_,rfl,q⟩⟩;exact G.turned (t':=E.toks) (λb o L e=>p.extBut b o L e) f.1 f.2.1 f.2.2.2.1 f.2.2.2.2.1 f.2.2.2.2.2
theorem Be{i:Nat}{x:Str}{c j:Pos}(hc:X.calm=true)(U:X.N.Nodup)(r:X.N[i]?=some x)(W:Loc X.env.scope x)(ok:fu X scope N' n)(hi:PI X target iter wi)(Y:∀cl C s₀ H₀ ex,PG (pI X scope N' cl C s₀ H₀ ex) target g)(ht:∀cl C s₀ H₀ ex,QG (pI X scope N' cl C s₀ H₀ ex) ifs tt)(he:∀cl C s₀ H₀ ex,PE (pI X scope N' cl C s₀ H₀ ex) elt te)(t:swapsWith (.ListComp elt [⟨target,iter,ifs,0⟩] scope pos) (some (.Name x c)) j.line X.env=pure true)(hs:∀x,foldedSetIterable iter X.env x=pure x:=by intro _;rfl)(Z:X.fn x=true\/X.env.scope.names.lookup x=some .local:=by first|exact .inl rfl|exact .inr rfl|assumption):PS X (.Assign [.Name x c] (.ListComp elt [⟨target,iter,ifs,0⟩] scope pos) j) (Qt (tM n wi g tt te) (jx i)):=by
 intro f s σ H D I h;obtain⟨cl,k,u,zP⟩:=mj I ok;rw[exec_Assign_Name_used _ _ _ _ t];refine wpAny_bind (wpAny_standAt (wpAny_bind ?_));show wpAny _ X.A (do let _<-comprehension (.ListComp elt [⟨target,iter,ifs,0⟩] scope pos) scope X.env _ (newList []) false (eval iter X.env) (some (assign (.Name x c) X.env))) _ _ s;refine wpAny_bind (wpAny_mono (wpAny_comprehension_free (use:=some (assign (.Name x c) X.env)) (Q:=λ_ p=>SP X f D .next p) rfl hs k ok.kind ok.names (cB (hi f s σ H _ I h) λv s1 h1=>cB h1 λac s2 h2=>?_)) (λ_ p hq=>wpAny_pure (wpAny_pure hq)) λ_ _ e=>e);obtain⟨it,fp,tn,J,H2,rfl,I2,T,t0,f2,hw⟩:=h2;refine sY (Q:=λDa y=>D.nx (σ.set i (some (.ref Da))) y) (RR:=λB C=>compPost (model X.prog X.w) X.A X.xe (some (assign (.Name x c) X.env)) (λ_ p=>SP X f D .next p) B C) hc ok I2 u zP T t0 f2 Y ht he hw λDa C p y q E l I'=>?_;obtain⟨m,E⟩:=E;show wpAny _ X.A (assign (.Name x c) X.env (.ref Da)) _ _ _;refine wpAny_assign_Name (tU I' U r W (show RelV (.ref Da) (.ref Da)from rfl) (?_) Z);rintro G L⟨a,sb,ha⟩;have M:C≠a:=by
  rcases ha with rfl|ha;.exact l.2.1
  .exact λz=>l.2.2.2.2.1 x a ha z.symm
 refine⟨m,E.sameBut sb M,λh' O=>⟨_,y,?_,q⟩⟩;exact L.turned (t':=G.toks) (λb o hb e=>O.extBut b o hb e) l.1 l.2.1 l.2.2.2.1 l.2.2.2.2.1 l.2.2.2.2.2
def abJ(K:PySem.W.Frag)(c:TE):TI:=λσ H R=>c σ H λx b=>∃a,x=.ref a/\(((∃xs,dN K b a xs)/\R (QK K a) b)\/((∃xs,iB K b a xs)/\R (Ub K a) b))
theorem xV{u l:Expr}{r:TE}(w:PE X l r):PI X u l (abJ X.K r):=by
 intro f s σ H R I h;refine cB (w f s σ H _ I h) ?_;rintro v s1⟨x,t,c,r1,j⟩;obtain⟨a,e,j⟩:=j;subst e;cases r1;rcases j with⟨⟨xs,k⟩,q⟩|⟨⟨xs,k⟩,q⟩
 . obtain⟨i,y,p,hz⟩:=c.list k;refine wpAny_pyIter_list p.isList ?_;refine⟨s1.heap.objs.size,[s1.heap.objs.size],_,_,t,rfl,c.kept (t':=s1.toks) λb o e=>dR e,Dn a _,⟨_,get?_push_size _ rfl,rfl,rfl⟩,λb m=>?_,q⟩;have e:b=s1.heap.objs.size:=by simpa using m
   subst e;exact c.yG (dm) (c.hok.fresh (dm))
 . obtain⟨i,y,p,hz⟩:=c.tuple k;refine wpAny_pyIter_tuple (show s1.heap.IsTuple a i.toArray from p) ?_;refine⟨s1.heap.objs.size,[s1.heap.objs.size],_,_,t,rfl,c.kept (t':=s1.toks) λb o e=>dR e,yz a _,⟨_,get?_push_size _ rfl,rfl,rfl⟩,λb m=>?_,q⟩;have e:b=s1.heap.objs.size:=by simpa using m
   subst e;exact c.yG (dm) (c.hok.fresh (dm))
end
end L2
end
section
namespace HH
open PySem L2 PySem.Spec PyProof.Rows
variable{v:V}{i m:Nat}{K:PySem.W.Frag}{F H:Hp}{ρ:List Sl}{σ:L2.St}{x:Str}{p':Pos}{is:List Nat}{ds:List D}{s:Shared}{A:Around}{u':Value}
structure Walk(K:PySem.W.Frag)(F:Hp)(ρ:List Sl)(σ:L2.St)(H:Hp)(ul:List Sl->List Sl)(J:It)(ds:List D)(F1:Hp)(ρ1:List Sl)(H1:Hp):Prop where
 gs:GS K F1 ρ1 σ H1
 src:∀(n k:Nat)(F':Hp)(ρ':List Sl)(σ':L2.St)(H':Hp),aC K F1 (ρ1++replicate n .aQ) (σ++replicate n none) H1 F' ρ' σ' H'->(∀d,ds[k]?=some d->J.go k H'/\∀x j7,J.Jf k H' x j7->∃F'',Ext F' H' F'' j7/\Rep K F'' x d)/\(ds.length<=k->J.stop k H')fin:∀F2 ρ2 σ2 H2,aC K F1 ρ1 σ H1 F2 ρ2 σ2 H2->aC K F ρ σ H F2 (ul ρ2) σ2 H2/\∀v r,cT K F2 ρ2 σ2 H2 ρ1 σ H1 v r->cT K F2 (ul ρ2) σ2 H2 ρ σ H v r
inductive tIt(K:PySem.W.Frag)(iv:Option Nat)(f:Ev)(σ:L2.St)(H:Hp)(R:It->Hp->Prop):Prop where|mk(F:Hp)(ρ:List Sl)(ds:List D)(ρ1:List Sl)(g:GS K F ρ σ H)(e:srcOf iv f ρ=.ok ds ρ1)(k:∀J F1 H1,Walk K F ρ σ H (aU ρ iv) J ds F1 ρ1 H1->R J H1)
section
variable{K:PySem.W.Frag}{F F1 H H1:Hp}{ρ ρ1:List Sl}{σ:L2.St}{ds:List D}{a:Addr}
theorem Bu{xs:List V}{f b:Hp}(g:iB K b a xs)(r:aF K f xs ds)(s:aG f b)(k:Nat):(∀d,ds[k]?=some d->(Ub K a).go k b/\∀x j,(Ub K a).Jf k b x j->∃c,Ext f b c j/\Rep K c x d)/\(ds.length<=k->(Ub K a).stop k b):=by refine⟨λd hd=>?_,λh=>⟨xs,g,by rw[r.length];exact h⟩⟩;obtain⟨w,h1,l⟩:=r.get hd;refine⟨⟨xs,w,g,h1⟩,?_⟩;rintro x j⟨e,y⟩;subst e;have:=y xs g;rw[h1]at this;cases this;exact⟨f,.refl s,l⟩
theorem pN{xs:List V}{f b:Hp}(g:dN K b a xs)(r:aF K f xs ds)(s:aG f b)(k:Nat):(∀d,ds[k]?=some d->(QK K a).go k b/\∀x j,(QK K a).Jf k b x j->∃c,Ext f b c j/\Rep K c x d)/\(ds.length<=k->(QK K a).stop k b):=by refine⟨λd hd=>?_,λh=>⟨xs,g,by rw[r.length];exact h⟩⟩;obtain⟨w,h1,l⟩:=r.get hd;refine⟨⟨xs,w,g,h1⟩,?_⟩;rintro x j⟨e,y⟩;subst e;have:=y xs g;rw[h1]at this;cases this;exact⟨f,.refl s,l⟩
theorem vV{ul:List Sl->List Sl}{d:D}(s:aC K F ρ σ H F1 ρ1 σ H1)(r:Rep K F1 v d)(hi:items d=some ds)(fin:∀F2 b c f,aC K F1 ρ1 σ H1 F2 b c f->aC K F ρ σ H F2 (ul b) c f/\∀v r,cT K F2 b c f ρ1 σ H1 v r->cT K F2 (ul b) c f ρ σ H v r):∃a,v=.ref a/\(((∃xs,dN K H1 a xs)/\Walk K F ρ σ H ul (QK K a) ds F1 ρ1 H1)\/((∃xs,iB K H1 a xs)/\Walk K F ρ σ H ul (Ub K a) ds F1 ρ1 H1)):=by cases d with|tup es=>cases hi;rw[Rep]at r;obtain⟨a,xs,rfl,h1,g⟩:=r;exact⟨a,rfl,.inr ⟨⟨xs,aG.gF s.gs.sub h1⟩,s.gs,λn k l h j o e=>Bu (aG.gF e.gs.sub (aG.gF e.bU h1)) (g.mono e.bU) e.gs.sub k,fin⟩⟩|lst es=>cases hi;rw[Rep]at r;obtain⟨a,xs,rfl,h1,g⟩:=r;exact⟨a,rfl,.inl ⟨⟨xs,s.gs.sub.seq h1⟩,s.gs,λn k l h j o e=>pN (e.gs.sub.seq (e.bU.seq h1)) (g.mono e.bU) e.gs.sub k,fin⟩⟩|_=>cases hi
theorem tL{ul:List Sl->List Sl}(g:GS K F ρ1 σ H)(e:ρ1[i]?=some (.lent ds))(fin:∀F2 b c f,aC K F ρ1 σ H F2 b c f->aC K F ρ σ H F2 (ul b) c f/\∀v r,cT K F2 b c f ρ1 σ H v r->cT K F2 (ul b) c f ρ σ H v r):∃a,σ[i]?=some (some (.ref a))/\(∃xs,dN K H a xs)/\Walk K F ρ σ H ul (QK K a) ds F ρ1 H:=by obtain⟨a,xs,h1,o,B,C⟩:=g.lB i _ ds e rfl;have hi:i<ρ1.length:=(eX e).1;refine⟨a,h1,⟨xs,dN.of o⟩,g,λn k E p q G h=>?_,fin⟩;obtain⟨j,t,u,w⟩:=h.lk i _ (by rw[getElem?_append_left hi];exact e) rfl;cases(show t=.lent ds from w);rw[getElem?_append_left (by rw[<-g.len];exact hi),h1]at j;obtain⟨I,ys,l,y,J,z⟩:=h.gs.lB i _ ds u rfl;rw[j]at l;cases l;exact pN (dN.of y) z h.gs.sub k
end
section
variable{X:Cx}{c:Call}{n:Nat}{e a b d tg:Expr}{p pa pb pd:P}{pos:Pos}
theorem kJ{t t':TI}(h:PI X tg e t)(i:∀σ H R,t' σ H R->t σ H R):PI X tg e t':=λf s σ H R I q=>h f s σ H R I (i σ H R q)
def SI(X:Cx)(c:Call)(tg e:Expr)(p:P):Prop:=PI X tg e (tIt X.K (isVar p) (HH.ev c p))
theorem cP(h:SX X c e p):SI X c tg e p:=by unfold SI;cases hv:isVar p with|none=>refine kJ (xV h.ev) ?_;rintro σ H R⟨F,ρ,ds,t,g,e,k⟩;obtain⟨r,f,J,o⟩:=aj e;have u:=aB o;clear o;obtain⟨o,y⟩:=u;subst y;refine⟨F,ρ,r,_,g,J,λv Q U s B=>?_⟩;obtain⟨F2,s2,_,L⟩:=s.cM B;obtain⟨a,C,E⟩:=vV (ul:=aU ρ none) s2 L o λW M N Y s3=>⟨s2.trans s3,λv r B=>B.later s2⟩;exact⟨a,C,E.imp (λ⟨z,w⟩=>⟨z,k _ _ _ w⟩) (λ⟨z,w⟩=>⟨z,k _ _ _ w⟩)⟩|some i=>
   refine kJ (xV (h.var i hv)) ?_;rintro σ H R⟨F,ρ,ds,t,g,e,k⟩;unfold srcOf at e;dsimp only at e;split at e
   . rename_i b d q;have u:=aB e;clear e;obtain⟨o,y⟩:=u;subst y;obtain⟨v,h1,O⟩:=g.val i b d q;have fin:∀F2 f j l,aC X.K F ρ σ H F2 f j l->aC X.K F ρ σ H F2 (aU ρ (some i) f) j l/\∀v r,cT X.K F2 f j l ρ σ H v r->cT X.K F2 (aU ρ (some i) f) j l ρ σ H v r:=λF2 f j l s=>by unfold aU;dsimp only;rw[q];exact⟨s,λ_ _ z=>z⟩
     obtain⟨a,C,E⟩:=vV (ul:=aU ρ (some i)) (.refl g) O o fin;exact⟨v,h1,a,C,E.imp (λ⟨z,w⟩=>⟨z,k _ _ _ w⟩) (λ⟨z,w⟩=>⟨z,k _ _ _ w⟩)⟩
   . rename_i b G q;cases e;have hi:i<ρ.length:=(eX q).1;have fin:∀F2 f j l,aC X.K F (ρ.set i (.lent ds)) σ H F2 f j l->aC X.K F ρ σ H F2 (aU ρ (some i) f) j l/\∀v r,cT X.K F2 f j l (ρ.set i (.lent ds)) σ H v r->cT X.K F2 (aU ρ (some i) f) j l ρ σ H v r:=λF2 f j l s=>by unfold aU;dsimp only;rw[q];exact aC.aU g q s
     obtain⟨a,h1,I,w⟩:=tL (ul:=aU ρ (some i)) (g.lend q) (getElem?_set_self hi) fin;exact⟨_,h1,a,rfl,.inl ⟨I,k _ _ _ w⟩⟩
   . rename_i G q;cases e;have fin:∀F2 f j l,aC X.K F ρ σ H F2 f j l->aC X.K F ρ σ H F2 (aU ρ (some i) f) j l/\∀v r,cT X.K F2 f j l ρ σ H v r->cT X.K F2 (aU ρ (some i) f) j l ρ σ H v r:=λF2 f j l s=>by unfold aU;dsimp only;rw[q];exact⟨s,λ_ _ z=>z⟩
     obtain⟨a,h1,I,w⟩:=tL (ul:=aU ρ (some i)) g q fin;exact⟨_,h1,a,rfl,.inl ⟨I,k _ _ _ w⟩⟩
   .cases e
theorem wN{F1 g:Hp}{f:List Sl}(s:aC K F ρ σ H F1 f σ g)(i j:Int):Walk K F ρ σ H (aU ρ none) (T5 i (j-i).toNat) ((List.range (j-i).toNat).map λ(k:Nat)=>D.int (i+(k:Int))) F1 f g:=by
 refine⟨s.gs,λn k o q t I u=>⟨λd hd=>?_,λh=>?_⟩,λJ w y L s3=>⟨s.trans s3,λv r z=>z.later s⟩⟩;.rw[getElem?_map]at hd;obtain⟨m,B,C⟩:=map_some hd;obtain⟨h1,l⟩:=eX B;rw[List.getElem_range]at l;subst l;subst C;rw[length_range]at h1;refine⟨h1,?_⟩;rintro x M⟨E,G⟩;subst E;subst G;exact⟨o,.refl u.gs.sub,bC _⟩
 .rw[length_map,length_range]at h;exact h
theorem iV(t:x="range")(u:Gl X x)(w:X.mg x=none)(y:SX X c a pa)(hs:starEach [a] X.env=[(false,eval a X.env)]:=by rfl):SI X c tg (.Call (.Name x p') [a] [] pos) (.rO (.con (.int 0)) pa):=by
 subst t;obtain⟨U,h1,z⟩:=y.cW;refine kJ (tH u w (bW h1 eU hs) hs) ?_;rintro σ H R⟨F,ρ,ds,B,g,e,k⟩;obtain⟨r,C,q,h⟩:=aj e;have l:=aB h;clear h;obtain⟨h,E⟩:=l;subst E;rw[HH.E20]at q;obtain⟨W,G,I,f⟩:=aj q;have l:=aB f;clear f;obtain⟨f,J⟩:=l;subst J;obtain⟨Y,L,M,o⟩:=aj I;cases o;obtain⟨i,f1,f⟩:=bZ f;obtain⟨j,f2,f⟩:=bZ f;obtain⟨⟨b1,b2,b3,b4⟩,f⟩:=bB f;have f1:i=0:=by cases f1;rfl
 subst f1;subst f;cases h;cases di f2;refine z g M λv N O s Q=>⟨j,by rw[Q.int],by omega,by omega,?_⟩;have:=wN s 0 j;rw[sub_zero]at this;refine k _ N O ?_;rw[sub_zero];exact this
theorem uR(y:x="range")(z:Gl X x)(B:X.mg x=none)(C:SX X c a pa)(E:SX X c b pb)(hs:starEach [a,b] X.env=[(false,eval a X.env),(false,eval b X.env)]:=by rfl)(h:starEach [b] X.env=[(false,eval b X.env)]:=by rfl):SI X c tg (.Call (.Name x p') [a,b] [] pos) (.rO pa pb):=by subst y;obtain⟨Y,Z,h1,G,I⟩:=C.iu E;refine kJ (CV z B (bW h1 (bW G eU h) (by rw[hs,h])) hs h) ?_;rintro σ H R⟨F,ρ,ds,J,g,e,k⟩;obtain⟨r,L,o,l⟩:=aj e;have q:=aB l;clear l;obtain⟨l,M⟩:=q;subst M;rw[HH.E20]at o;obtain⟨xy,N,O,f⟩:=aj o;have q:=aB f;clear f;obtain⟨f,Q⟩:=q;subst Q;obtain⟨i,f1,f⟩:=bZ f;obtain⟨j,f2,f⟩:=bZ f;obtain⟨⟨b1,b2,b3,b4⟩,f⟩:=bB f;subst f;cases l;refine I g O λv u U W s t w=>⟨i,j,?_,by omega,k _ U W (wN s i j)⟩;have o:=di f1;have l:=di f2;rw[o]at t;rw[l]at w;rw[t.int,w.int]
end
section
variable{X:Cx}{c:Call}{n:Nat}{e a b d tg iter:Expr}{p pa pb pd:P}{pos:Pos}{body:List Stmt}{ss:List S}
def Ez(K:PySem.W.Frag)(j:List Sl->D->Option (List Sl))(g:TG):Prop:=∀(x:V)(d:D)(F:Hp)(ρ f:List Sl)(σ:L2.St)(H:Hp)(Q:L2.St->Hp->Prop),GS K F ρ σ H->Rep K F x d->j ρ d=some f->(∀h,aC K F ρ σ H F f h H->Q h H)->g x σ H Q
theorem uM(i:Nat):Ez K (λρ d=>put ρ i (.val false d)) (jx i):=λx d F ρ f σ H Q g r h k=>k _ (aC.put (r:=.val d) (.refl g) r h)
theorem cY:∀(is:List Nat)(gs:Ek),(∀(xs:List V)(ds:List D)(F:Hp)(ρ f:List Sl)(σ:L2.St)(H:Hp)(Q:L2.St->Hp->Prop),GS K F ρ σ H->aF K F xs ds->putAll ρ is ds=some f->(∀j,aC K F ρ σ H F f j H->Q j H)->gs xs σ H Q)->∀i,∀(xs:List V)(ds:List D)(F:Hp)(ρ f:List Sl)(σ:L2.St)(H:Hp)(Q:L2.St->Hp->Prop),GS K F ρ σ H->aF K F xs ds->putAll ρ (i::is) ds=some f->(∀j,aC K F ρ σ H F f j H->Q j H)->Fg (jx i) gs xs σ H Q:=by intro is gs o i xs ds F ρ f σ H Q g r h k;cases ds with|nil=>simp[jG,jc,mX,m7]at h|cons d ds=>obtain⟨v,vs,rfl,h1,q⟩:=r.cC;rw[jc]at h;obtain⟨l,t,u⟩:=bZ h;have s1:=aC.put (r:=.val d) (.refl g) h1 t;refine⟨v,vs,rfl,o vs ds F l f _ H _ s1.gs q u λj s2=>k j (s1.trans s2)⟩
theorem iY:∀(xs:List V)(ds:List D)(F:Hp)(ρ f:List Sl)(σ:L2.St)(H:Hp)(Q:L2.St->Hp->Prop),GS K F ρ σ H->aF K F xs ds->putAll ρ [] ds=some f->(∀j,aC K F ρ σ H F f j H->Q j H)->QS xs σ H Q:=by intro xs ds F ρ f σ H Q g r h k;cases ds with|nil=>rw[jG]at h;cases h;exact⟨r.eZ,k σ (.refl g)⟩|cons d ds=>simp[jG,jc,mX,m7]at h
theorem lq:∀{is:List Nat}{ds:List D}{ρ f:List Sl},putAll ρ is ds=some f->ds.length=is.length|[],[],_,_,_=>rfl|[],_::_,_,_,h=>by simp[jG,jc,mX,m7]at h|_::_,[],_,_,h=>by simp[jG,jc,mX,m7]at h|i::is,d::ds,ρ,f,h=>by rw[jc]at h;obtain⟨g,k,j⟩:=bZ h;simp[lq j]
theorem lG{gs:Ek}(q:m=is.length)(h:∀(xs:List V)(ds:List D)(F:Hp)(ρ f:List Sl)(σ:L2.St)(H:Hp)(Q:L2.St->Hp->Prop),GS K F ρ σ H->aF K F xs ds->putAll ρ is ds=some f->(∀l,aC K F ρ σ H F f l H->Q l H)->gs xs σ H Q):Ez K (λρ d=>cI ρ is false d) (PL K m gs):=by intro x d F ρ f σ H Q g r j k;replace j:cI ρ is false d=some f:=j;cases d with|tup ds=>replace j:putAll ρ is ds=some f:=j;rw[Rep]at r;obtain⟨a,xs,rfl,h1,o⟩:=r;exact⟨a,xs,rfl,aG.gF g.sub h1,by rw[o.length,lq j,q],h xs _ F ρ f σ H Q g o j k⟩|_=>cases j
theorem nC{g:TG}{one:Bool}(hp:PassesOwn (model X.prog X.w) X.A X.env X.xe)(hc:X.calm=true)(hi:SI X c tg iter p)(hg:PG X tg g)(Z:Ez X.K (λρ d=>cI ρ is one d) g)(hb:SB X c n body ss)(hs:∀x,foldedSetIterable iter X.env x=pure x:=by intro _;rfl):SS X c n (.For tg iter body [] pos) (.iI p is one ss):=by
 refine dU (Fq hp hc hi hg hb hs) ?_;rintro D σ H⟨F,ρ,fl,t,g0,e,k⟩;rw[HH.X14]at e;obtain⟨ds,o,e1,e⟩:=aj e;obtain⟨ae,I,e2,e⟩:=aj e;cases e;refine⟨F,ρ,ds,o,g0,e1,λJ F1 H1 w=>?_⟩;have src:∀(i:Nat)(U:Hp)(t:List Sl)(h:L2.St)(j:Hp),aC X.K F1 o σ H1 U t h j->(∀d,ds[i]?=some d->J.go i j/\∀x j7,J.Jf i j x j7->∃L,Ext U j L j7/\Rep X.K L x d)/\(ds.length<=i->J.stop i j):=λi U t h j s=>w.src 0 i U t h j (by simpa using s);refine⟨λi m q W=>∃G f,aC X.K F1 o σ H1 G f q W/\m=ds.length-i/\i<=ds.length/\iZ is one (iJ c n ss) (ds.drop i) f=.ok fl I,⟨_,F1,o,.refl w.gs,rfl,BZ,e2⟩,?_⟩;rintro i m q W⟨G,f,Y,rfl,af,l⟩;obtain⟨s1,s2⟩:=src i G f q W Y;by_cases u:i<ds.length
 . right;have hd:ds[i]?=some ds[i]:=by simp[u]
   obtain⟨go,step⟩:=s1 _ hd;refine⟨go,λh j=>∃m',m'<ds.length-i/\∃G f,aC X.K F1 o σ H1 G f h j/\m'=ds.length-(i+1)/\i+1<=ds.length/\iZ is one (iJ c n ss) (ds.drop (i+1)) f=.ok fl I,λh j z=>z,λx j y=>?_⟩;obtain⟨F2,ext,rx⟩:=step x j y;have M:=Y.trans (ext.stp Y.gs);rw[drop_eq_getElem_cons u,yh]at l;cases hbd:cI f is one ds[i]with|none=>rw[hbd]at l;cases l|some N=>rw[hbd]at l;obtain⟨O,C,eb,l⟩:=aj l;refine Z x _ F2 f N q j _ M.gs rx hbd λag sb=>?_;have E:=M.trans sb;refine⟨F2,N,O,C,E.gs,eb,λF4 Q H4 s4=>?_⟩;have B:=E.trans s4;cases O with|next=>exact⟨_,by omega,F4,C,B,rfl,u,l⟩|cont=>exact⟨_,by omega,F4,C,B,rfl,u,l⟩|brk=>cases l;exact k F4 Q H4 (w.fin _ _ _ _ B).1|ret r=>cases l;intro v rr;obtain⟨z1,z2⟩:=w.fin _ _ _ _ B;exact k F4 Q H4 z1 v (z2 v r (rr.later E))
 . left;have ac:ds.drop i=[]:=by rw[drop_eq_nil_iff];omega
   rw[ac,Io]at l;cases l;exact⟨s2 (by omega),k G q W (w.fin _ _ _ _ Y).1⟩
theorem ni(i:Nat):(λ(ρ:List Sl)(d:D)=>cI ρ [i] true d)=λρ d=>put ρ i (.val false d):=by funext ρ d;rfl
theorem uA{f:Pos}(h:PassesOwn (model X.prog X.w) X.A X.env X.xe)(hc:X.calm=true)(j:X.N.Nodup)(g:X.N[i]?=some x)(k:Loc X.env.scope x)(hi:SI X c (.Name x f) iter p)(l:SB X c n body ss)(hs:∀x,foldedSetIterable iter X.env x=pure x:=by intro _;rfl)(o:X.fn x=true\/X.env.scope.names.lookup x=some .local:=by first|exact .inl rfl|exact .inr rfl|assumption):SS X c n (.For (.Name x f) iter body [] pos) (.iI p [i] true ss):=nC h hc hi (aJ j g k o) (by rw[ni];exact uM i) l hs
theorem zA(L:PassesOwn (model X.prog X.w) X.A X.env X.xe)(ht:ST X c e p)(M:SB X c n body ss):SS X c n (.While e body [] pos) (.whl p ss):=by refine dU (Ii L ht M) ?_;rintro D σ H⟨F,ρ,fl,o,g,e,k⟩;rw[HH.X15]at e;refine⟨λm j C=>∃q f,aC X.K F ρ σ H q f j C/\qP (iM (HH.ev c p)) (iJ c n ss) m f=.ok fl o,⟨n,F,ρ,.refl g,e⟩,?_⟩;rintro m j C⟨q,f,E,h⟩;cases m with|zero=>rw[Sy]at h;cases h|succ m=>rw[GQ]at h;obtain⟨b,t,O,h⟩:=aj h;refine⟨q,f,b,t,E.gs,O,λF1 Q s1=>?_⟩;have s2:=E.trans s1;cases b with|false=>rw[if_neg Bool.false_ne_true]at h;cases h;exact k F1 j Q s2|true=>rw[if_pos rfl]at h;obtain⟨u,l,U,h⟩:=aj h;refine(show ∃N:L2.St->Hp->Prop,_/\_ from⟨λy G=>∃I,I<m+1/\∃q f,aC X.K F ρ σ H q f y G/\qP (iM (HH.ev c p)) (iJ c n ss) I f=.ok fl o,λy G z=>z,F1,t,u,l,s2.gs,U,λF4 B J s4=>?_⟩);have s5:=s2.trans s4;cases u with|next=>exact⟨m,by omega,F4,l,s5,h⟩|cont=>exact⟨m,by omega,F4,l,s5,h⟩|brk=>cases h;exact k F4 B J s5|ret r=>cases h;exact λv W=>k F4 B J s5 v (W.later s2)
end
section
variable{X:Cx}{c:Call}{n:Nat}{e elt tg iter:Expr}{p ps pe:P}{pos:Pos}{scope:Scope}{N':List Str}{ifs:List Expr}
theorem GK{t t':TE}(h:PE X e t)(i:∀σ H Q,σ.length=X.N.length->t' σ H Q->t σ H Q):PE X e t':=λa s σ H Q I q=>h a s σ H Q I (i σ H Q I.len q)
theorem SJ{st:Stmt}{t t':TS}(h:PS X st t)(i:∀D σ H,σ.length=X.N.length->t' D σ H->t D σ H):PS X st t':=λa s σ H D I q=>h a s σ H D I (i D σ H I.len q)
def mq(K:PySem.W.Frag)(m:Nat)(is:List Nat)(one:Bool)(g:TG):Prop:=∀(x:V)(d:D)(F:Hp)(ρ b:List Sl)(σ:L2.St)(H:Hp)(Q:L2.St->Hp->Prop),GS K F ρ σ H->Rep K F x d->cI ρ is one d=some b->(∀a,aC K F ρ σ H F b a H->a.take m=σ.take m->Q a H)->g x σ H Q
theorem take_set{b:Type}{l:List b}{a:b}(h:m<=i):(l.set i a).take m=l.take m:=by rw[List.take_set_of_le h]
theorem bG(h:m<=i):mq K m [i] true (jx i):=λx d F ρ a σ H Q g r b k=>k _ (aC.put (r:=.val d) (.refl g) r b) (take_set h)
def KY(K:PySem.W.Frag)(m:Nat)(is:List Nat)(gs:Ek):Prop:=∀(xs:List V)(ds:List D)(F:Hp)(ρ b:List Sl)(σ:L2.St)(H:Hp)(Q:L2.St->Hp->Prop),GS K F ρ σ H->aF K F xs ds->putAll ρ is ds=some b->(∀a,aC K F ρ σ H F b a H->a.take m=σ.take m->Q a H)->gs xs σ H Q
theorem fV{gs:Ek}(hi:m<=i)(j:KY K m is gs):KY K m (i::is) (Fg (jx i) gs):=by intro xs ds F ρ a σ H Q g r h k;cases ds with|nil=>simp[jG,jc,mX,m7]at h|cons d ds=>obtain⟨v,vs,rfl,h1,l⟩:=r.cC;rw[jc]at h;obtain⟨b,o,q⟩:=bZ h;have s1:=aC.put (r:=.val d) (.refl g) h1 o;exact⟨v,vs,rfl,j vs ds F b a _ H _ s1.gs l q λf s2 z=>k f (s1.trans s2) (z.trans (take_set hi))⟩
theorem o7:KY K m [] QS:=by intro xs ds F ρ a σ H Q g r h k;cases ds with|nil=>rw[jG]at h;cases h;exact⟨r.eZ,k σ (.refl g) rfl⟩|cons d ds=>simp[jG,jc,mX,m7]at h
theorem pq{gs:Ek}{l:Nat}(o:l=is.length)(h:KY K m is gs):mq K m is false (PL K l gs):=by intro x d F ρ b σ H Q g r f k;cases d with|tup ds=>replace f:putAll ρ is ds=some b:=f;rw[Rep]at r;obtain⟨a,xs,rfl,h1,j⟩:=r;exact⟨a,xs,rfl,aG.gF g.sub h1,by rw[j.length,lq f,o],h xs _ F ρ b σ H Q g j f k⟩|_=>cases f
def SQ(X:Cx)(c:Call)(ifs:List Expr)(t:Option P):Prop:=QG X ifs (Eo X.K (ou c t))
theorem cG:SQ X c [] none:=λa s σ H Q I⟨F,ρ,k,ρ',g,e,q⟩=>by rw[ou]at e;cases e;exact LC a s σ H Q I (q F H (.refl g))
theorem o5(h:ST X c e p):SQ X c [e] (some p):=λa s σ H Q I⟨F,ρ,k,ρ',g,e,q⟩=>by rw[ou]at e;exact Lj h a s σ H Q I ⟨F,ρ,k,ρ',g,e,q⟩
theorem aC.Fo{F1 j:Hp}{f:List Sl}{g:L2.St}{Da:Addr}{o:HO}(s:aC K F ρ σ H F1 f g j)(h:H Da=none)(q:F1 Da=none)(ho:¬ Own f g Da):aC K F ρ σ H F1 f g (upd j Da o):=by
 refine⟨⟨λb u e=>?_,s.gs.len,s.gs.val,λi t ds e k=>?_,s.gs.dis⟩,s.bU,s.xK,λb u e n=>?_,s.vB,s.len,s.lk⟩
 . have:b≠Da:=by rintro rfl;rw[q]at e;cases e
   rw[aD this];exact s.gs.sub b u e
 . obtain⟨a,xs,l,r,w,y⟩:=s.gs.own i t ds e k;have:a≠Da:=by rintro rfl;exact ho ⟨i,⟨t,ds,e,k⟩,l⟩
   exact⟨a,xs,l,by rw[aD this];exact r,w,y⟩
 . have:b≠Da:=by rintro rfl;rw[h]at e;cases e
   rw[aD this];exact s.keep b u e n
theorem xf{b r:List Sl}{ul:List Sl->List Sl}{ti:TI}{one:Bool}{u:List Sl->Res Bool}{el:Ev}{g:TG}{Q:VK}{xs:List D}(hm:σ.length=m)(ag:mq K m is one g)(ah:∀R:It->Hp->Prop,(∀J F1 U,Walk K F ρ σ H ul J ds F1 b U->R J U)->ti σ H R)(am:ds.length<=lim)(e2:turns is one u el ds [] (b++replicate n .aQ)=.ok xs r)(k:∀v F' H',aC K F ρ σ H F' (ul (r.take b.length)) σ H'->cT K F' (ul (r.take b.length)) σ H' ρ σ H v (.own xs)->Q v H'):tM n ti g (Eo K u) (sU K el) σ H Q:=by
 refine ah _ λJ F1 U w Da N=>?_;have ai:b.length=σ.length:=w.gs.len;have gm:=w.gs.more (n:=n) (τ:=replicate n none) (by simp);have fD:F1 Da=none:=by cases q:F1 Da with|none=>rfl|some o=>rw[w.gs.sub Da o q]at N;cases N
 have nO:¬ Own (b++replicate n .aQ) (σ++replicate n none) Da:=λ⟨i,⟨t,dt,q1,q2⟩,q3⟩=>by obtain⟨a,ys,z1,z2,_⟩:=gm.own i t dt q1 q2;rw[q3]at z1;cases z1;rw[N]at z2;cases z2
 refine⟨λi mm ys f G=>∃E h l,aC K F1 (b++replicate n .aQ) (σ++replicate n none) U E h f G/\f.take m=σ/\G Da=some (.lst ys)/\E Da=none/\¬ Own h f Da/\aF K E ys l/\l.length<=i/\mm=ds.length-i/\i<=ds.length/\turns is one u el (ds.drop i) l h=.ok xs r,⟨_,F1,_,[],(aC.refl gm).Fo N fD nO,by rw[List.take_append_of_le_length (by omega),List.take_of_length_le (by omega)],aM,fD,nO,.nil,BZ,rfl,BZ,e2⟩,?_⟩;rintro i mm ys f G⟨E,h,l,W,I,Y,hF,hO,rs,ap,rfl,ar,j⟩;refine⟨Y,?_⟩--what stays of the new list through a step
 have stay:∀{F2 O:Hp}{L:List Sl}{B:L2.St},aC K E h f G F2 L B O->O Da=some (.lst ys)/\F2 Da=none/\¬ Own L B Da:=λ{F2 O L B}s=>by
  refine⟨s.keep Da _ Y hO,?_,λo=>?_⟩;.cases q:F2 Da with|none=>rfl|some o=>
      rcases s.xK Da hF (by rw[q];simp)with z|z;.exact absurd z hO
      .exact(HY Y z).elim
  . rcases s.vB Da o with z|z;.exact hO z
    .rw[Y]at z;cases z
 obtain⟨s1,s2⟩:=w.src n i E h f G W;by_cases C:i<ds.length
 . right;have hd:ds[i]?=some ds[i]:=by simp[C]
   obtain⟨go,step⟩:=s1 _ hd;refine⟨go,λx O y=>?_⟩;obtain⟨F2,ext,rx⟩:=step x O y;have t2:=ext.stp W.gs;rw[drop_eq_getElem_cons C,zB]at j;cases hbd:cI h is one ds[i]with|none=>rw[hbd]at j;cases j|some Z=>rw[hbd]at j;obtain⟨bb,M,eb,j⟩:=aj j;refine ag x _ F2 h Z f O _ t2.gs rx hbd λB sb ac=>?_;have t3:=t2.trans sb;refine⟨F2,Z,bb,M,t3.gs,eb,λF4 H4 s4=>?_⟩;have t4:=t3.trans s4;cases bb with|false=>rw[if_neg Bool.false_ne_true]at j;obtain⟨y1,y2,y3⟩:=stay t4;exact⟨_,by omega,F4,M,l,W.trans t4,ac.trans I,y1,y2,y3,rs.mono t4.bU,by omega,rfl,C,j⟩|true=>
       rw[if_pos rfl]at j;obtain⟨re,ae,ee,j⟩:=aj j;refine(show sU K el B H4 _ from⟨F4,M,re,ae,t4.gs,ee,λv F5 H5 s5 rr=>?_⟩);obtain⟨F6,s6,_,rp⟩:=s5.cM rr;have t6:=t4.trans s6;obtain⟨y1,y2,y3⟩:=stay t6;have af:ys.length<sizeLine:=by have h1:=rs.length;have h2:lim=sizeLine:=rfl;omega
       exact⟨y1,af,_,by omega,F6,ae,l++[re.d],(W.trans t6).Fo N y2 y3,ac.trans I,aM,y2,y3,(rs.mono t6.bU).append (.cons rp .nil),by simp;omega,rfl,C,j⟩
 . left;have al:ds.drop i=[]:=by rw[drop_eq_nil_iff];omega
   rw[al,ye]at j;cases j;refine⟨s2 (by omega),?_⟩;obtain⟨l1,l2⟩:=aC.less (m:=b.length) rfl w.gs (by simp) W;have hst:f.take b.length=σ:=by rw[ai,hm];exact I
   rw[hst]at l1;have rr:cT K E r f G (b++replicate n .aQ) (σ++replicate n none) U (.ref Da) (.own xs):=⟨Da,ys,rfl,Y,hF,rs,hO,.inr N⟩;have Ox:=l2 _ _ rr;rw[hst]at Ox;obtain⟨z1,z2⟩:=w.fin _ _ _ _ l1;exact k _ E G z1 (z2 _ _ Ox)
theorem By{iv:Option Nat}{f:Ev}{one:Bool}{b:List Sl->Res Bool}{w:Ev}{g:TG}{Q:VK}{r:R}{j:List Sl}(z:σ.length=m)(q:mq K m is one g)(B:GS K F ρ σ H)(e:((srcOf iv f ρ).bind λds a=>if ds.length<=lim then(turns is one b w ds [] (a++replicate n .aQ)).bind λxs l=>Res.ok (R.own xs) (aU ρ iv (l.take a.length))else .stuck)=.ok r j)(k:∀v y t,aC K F ρ σ H y j σ t->cT K y j σ t ρ σ H v r->Q v t):tM n (tIt K iv f) g (Eo K b) (sU K w) σ H Q:=by
 obtain⟨ds,u,C,e⟩:=aj e;split at e;.rename_i o;obtain⟨xs,E,G,e⟩:=aj e;cases e;exact xf z q (λR h=>⟨F,ρ,ds,u,B,C,h⟩) o G k
 .cases e
theorem cJ{g:TG}{one:Bool}{t:Option P}(hc:X.calm=true)(ok:fu X scope N' n)(hi:SI X c tg iter ps)(b:∀cl C s₀ H₀ ex,PG (pI X scope N' cl C s₀ H₀ ex) tg g)(a:mq X.K X.N.length is one g)(ht:∀cl C s₀ H₀ ex,SQ (pI X scope N' cl C s₀ H₀ ex) c ifs t)(he:∀cl C s₀ H₀ ex,SX (pI X scope N' cl C s₀ H₀ ex) c elt pe)(hs:∀x,foldedSetIterable iter X.env x=pure x:=by intro _;rfl):SX X c (.ListComp elt [⟨tg,iter,ifs,0⟩] scope pos) (.comp ps n is one t pe):=by refine⟨GK (BJ (tt:=Eo X.K (ou c t)) (te:=sU X.K (HH.ev c pe)) hc ok hi b ht (λcl C s₀ H₀ ex=>(he cl C s₀ H₀ ex).ev) hs) ?_,λi h=>by cases h⟩;rintro σ H Q f⟨F,ρ,r,j,l,e,k⟩;rw[HH.E19]at e;exact By f a l e k
theorem uP{a b:Pos}{nn:Nat}{g:TG}{one:Bool}{t:Option P}(hc:X.calm=true)(q:X.N.Nodup)(h:X.N[i]?=some x)(u:Loc X.env.scope x)(ok:fu X scope N' n)(hi:SI X c tg iter ps)(w:∀cl C s₀ H₀ ex,PG (pI X scope N' cl C s₀ H₀ ex) tg g)(j:mq X.K X.N.length is one g)(ht:∀cl C s₀ H₀ ex,SQ (pI X scope N' cl C s₀ H₀ ex) c ifs t)(he:∀cl C s₀ H₀ ex,SX (pI X scope N' cl C s₀ H₀ ex) c elt pe)(l:swapsWith (.ListComp elt [⟨tg,iter,ifs,0⟩] scope pos) (some (.Name x a)) b.line X.env=pure true:=by rfl)(hs:∀x,foldedSetIterable iter X.env x=pure x:=by intro _;rfl)(y:X.fn x=true\/X.env.scope.names.lookup x=some .local:=by first|exact .inl rfl|exact .inr rfl|assumption):SS X c nn (.Assign [.Name x a] (.ListComp elt [⟨tg,iter,ifs,0⟩] scope pos) b) (.asg i (.comp ps n is one t pe)):=by refine SJ (Be (tt:=Eo X.K (ou c t)) (te:=sU X.K (HH.ev c pe)) hc q h u ok hi w ht (λcl C s₀ H₀ ex=>(he cl C s₀ H₀ ex).ev) l hs y) ?_;rintro D σ H z⟨F,ρ,fl,B,E,e,k⟩;rw[HH.X6]at e;obtain⟨r,G,o,e⟩:=aj e;obtain⟨I,J,f,e⟩:=aj e;cases e;have L:=aB f;clear f;obtain⟨f,Q⟩:=L;rw[HH.E19]at o;exact By z j E o λv F1 M s1 O=>k F1 _ M (s1.put O f)
end
section
variable{X:Cx}{c:Call}{n:Nat}{e a b d:Expr}{p pa pb pd:P}{pos:Pos}{es:List Expr}{ps:List P}
noncomputable def tyN:D->String|.non=>"NoneType"|.bl _=>"bool"|.int _=>"int"|.str _=>"str"|.tup _=>"tuple"|.lst _=>"list"|.dH _=>"dict"|.dv _ _=>"dict"
noncomputable def V0:Ty->String|.none=>"NoneType"|.bool=>"bool"|.int=>"int"|.str=>"str"|.tuple=>"tuple"|.list=>"list"
theorem W3(K:PySem.W.Frag)(t:Ty)(d:D):PySem.W.kitOne K (.type (tyN d)) (.type (V0 t))=some (cQ t d):=by cases t<;>cases d<;>rfl
theorem V2{k:List (Addr×Obj)}{x:V}{u:Value}{dt:D}(I:L2.Inv X k σ H s)(l:aG F H)(g:dj X.K F H x dt)(f:RelV x u):(∃w,PySem.W.KitX X.K u (.type (tyN dt)) w/\w s.heap)/\u≠.builtin "__main__.__loader__#opaque":=by cases dt with|non=>rw[g.non]at f;cases f;exact⟨⟨_,PySem.W.kitx_none,trivial⟩,nofun⟩|bl y=>rw[g.bl]at f;cases f;exact⟨⟨_,PySem.W.kitx_bool,trivial⟩,nofun⟩|int i=>rw[g.int]at f;obtain⟨t,rfl⟩:=f;exact⟨⟨_,PySem.W.kitx_int,trivial⟩,nofun⟩|str y=>rw[g.str]at f;obtain⟨t,rfl⟩:=f;exact⟨⟨_,PySem.W.kitx_str,trivial⟩,nofun⟩|tup ds=>obtain⟨q,xs,rfl,h,_⟩:=g.tup l;cases f;obtain⟨r,_,⟨o,h1,j,_⟩,_⟩:=I.tuple h;exact⟨⟨_,PySem.W.kitx_tuple,⟨o,h1,j⟩⟩,nofun⟩|lst ds=>obtain⟨q,xs,rfl,h,_⟩:=g.lst l;cases f;obtain⟨r,_,z,_⟩:=I.list h;obtain⟨o,h1,j,_⟩:=z.isList;exact⟨⟨_,PySem.W.kitx_list,⟨o,h1,j⟩⟩,nofun⟩|dH m=>obtain⟨q,_,rfl,h⟩:=g.dH l;cases f;obtain⟨o,h1,j⟩:=Hb I h;exact⟨⟨_,kitx_dict,⟨o,h1,j⟩⟩,nofun⟩|dv ks ds=>obtain⟨q,_,vs,rfl,h,_⟩:=g.dv l;cases f;obtain⟨o,h1,j⟩:=G4 I h;exact⟨⟨_,kitx_dict,⟨o,h1,j⟩⟩,nofun⟩
theorem Py(t:Ty):dC X (.builtin "isinstance") (λxs H Q=>∃x F dt,xs=[x,.ty (V0 t)]/\aG F H/\dj X.K F H x dt/\Q (.bl (cQ t dt)) H):=by rintro g s σ H xs y Q I r⟨x,F,dt,h,j,k,q⟩;subst h;obtain⟨u,l,rfl,o,rt⟩:=r.two;cases(show l=Value.type (V0 t)from rt);obtain⟨⟨z,Z,hz⟩,f⟩:=V2 I j k o;exact PySem.W.kia_one Z I.Ql hz (W3 _ t dt) f λw=>⟨.bl _,H,I.tok w,rfl,q⟩
theorem G8:bootBuiltins "isinstance"=some (.builtin "isinstance"):=by decide+kernel
theorem Hz{y:Str}{p2:Pos}(t:Ty)(u:x="isinstance")(w:Gl X x)(z:X.mg x=none)(B:SX X c a pa)(f:Gl X y)(j:X.mg y=none)(C:bootBuiltins y=some (.type (V0 t)))(l:y≠"__name__":=by decide)(o:(y==("__debug__":Str))=false:=by decide)(hs:starEach [a,.Name y p2] X.env=(false,eval a X.env)::starEach [.Name y p2] X.env:=by rfl):SX X c (.Call (.Name x p') [a,.Name y p2] [] pos) (.inst [t] pa):=by subst u;obtain⟨N,h1,E⟩:=B.cW;refine⟨eY (fK (Py t) w z G8 (bW h1 (bW (JG (v:=.ty (V0 t)) f j C rfl l o) eU) hs) (he:=hs)) ?_,λi h=>by cases h⟩;rintro σ H Q⟨F,ρ,r,G,g,e,k⟩;rw[HH.E18]at e;obtain⟨dt,I,J,e⟩:=aj e;cases e;refine E g J λv q L s M=>⟨v,q,dt,rfl,s.gs.sub,M,k _ q L s ?_⟩;show Rep X.K q _ _;rw[any_cons,List.any_nil,Bool.or_false];exact fO _
inductive rBn(K:PySem.W.Frag)(f:List D->Option R)(xs:List V)(H:Hp)(Q:VK):Prop where|mk(F:Hp)(ds:List D)(r:R)(sm:aG F H)(rs:aF K F xs ds)(he:f ds=some r)(k:∀v F' H',Ext F H F' H'->cF K F' H' H v r->Q v H')
theorem NQ{E:Expr}{f:List D->Option R}{q:P}(o:∀{t},PA X es t->PE X E (We (rBn X.K f) t))(u:SA X c es ps)(y:∀ρ,HH.ev c q ρ=(evs c ps ρ).bind λds ρ=>lift (f ds) ρ)(z:isVar q=none):SX X c E q:=by refine⟨eY (o u.1) ?_,λi h=>by rw[z]at h;cases h⟩;rintro σ H Q⟨F,ρ,r,B,g,e,k⟩;rw[y]at e;obtain⟨ds,l,C,j⟩:=aj e;have G:=aB j;clear j;obtain⟨j,I⟩:=G;subst I;exact⟨F,ρ,ds,l,g,C,λvs J O s L=>⟨J,ds,r,s.gs.sub,L,j,λw F2 M x N=>k w F2 M (s.trans (x.stp s.gs)) (.later s (N.qp s.gs))⟩⟩
theorem Oj{xs:List V}{i j:Int}(h:aF K F xs [.int i,.int j]):xs=[.int i,.int j]:=by obtain⟨v,r,rfl,h1,g⟩:=h.cC;obtain⟨u,l,rfl,f,k⟩:=g.cC;rw[Rep]at h1 f;rw[h1,f,k.eZ]
theorem inv2{f:XH}{g:Int->Int->Int}{r:R}(h0:blt f []=none)(h1:∀a,blt f [a]=none)(o:∀a b c l,blt f (a::b::c::l)=none)(q:∀a b,gP a=false->blt f [a,b]=none)(t:∀i b,gP b=false->blt f [.int i,b]=none)(hi:∀i j,blt f [.int i,.int j]=some (.val (.int (g i j))))(he:blt f ds=some r):∃i j,ds=[.int i,.int j]/\r=.val (.int (g i j)):=by
 rcases ds with _|⟨a,_|⟨b,_|⟨c,l⟩⟩⟩;.rw[h0]at he;cases he
 .rw[h1]at he;cases he
 . by_cases h:gP a=true
   . obtain⟨i,rfl⟩:∃i,a=.int i:=by cases a<;>first|exact⟨_,rfl⟩|cases h
     by_cases k:gP b=true
     . obtain⟨j,rfl⟩:∃j,b=.int j:=by cases b<;>first|exact⟨_,rfl⟩|cases k
       rw[hi]at he;cases he;exact⟨i,j,rfl,rfl⟩
     .rw[t i b (by simpa using k)]at he;cases he
   .rw[q a b (by simpa using h)]at he;cases he
 .rw[o]at he;cases he
theorem Tc(hc:X.calm=true):dC X (.builtin "min") (rBn X.K (blt .min2)):=by rintro f s σ H xs o Q I r⟨F,ds,u,q,t,he,k⟩;obtain⟨i,j,rfl,rfl⟩:=inv2 (g:=λi j=>if j<i then j else i) rfl (λa=>by cases a<;>rfl) (λa b c l=>by cases a<;>first|rfl|(cases b<;>rfl)) (λa b h=>by cases a<;>first|rfl|cases h) (λi b h=>by cases b<;>first|rfl|cases h) (λ_ _=>rfl) he;rw[Oj t]at r;exact CZ hc f s σ H _ o Q I r ⟨_,_,rfl,cF.cX q (bC _) k⟩
theorem Qz(hc:X.calm=true):dC X (.builtin "max") (rBn X.K (blt .max2)):=by rintro f s σ H xs o Q I r⟨F,ds,u,q,t,he,k⟩;obtain⟨i,j,rfl,rfl⟩:=inv2 (g:=λi j=>if i<j then j else i) rfl (λa=>by cases a<;>rfl) (λa b c l=>by cases a<;>first|rfl|(cases b<;>rfl)) (λa b h=>by cases a<;>first|rfl|cases h) (λi b h=>by cases b<;>first|rfl|cases h) (λ_ _=>rfl) he;rw[Oj t]at r;exact Cu hc f s σ H _ o Q I r ⟨_,_,rfl,cF.cX q (bC _) k⟩
theorem boot_min:bootBuiltins "min"=some (.builtin "min"):=by decide+kernel
theorem boot_max:bootBuiltins "max"=some (.builtin "max"):=by decide+kernel
theorem uC(f:x="min")(hc:X.calm=true)(g:Gl X x)(j:X.mg x=none)(k:SA X c [a,b] [pa,pb])(hs:starEach [a,b] X.env=(false,eval a X.env)::starEach [b] X.env:=by rfl)(hpl:(backTo pos (starEach [b] X.env)).any (·.1)=false:=by rfl):SX X c (.Call (.Name x p') [a,b] [] pos) (.blt .min2 [pa,pb]):=by subst f;exact NQ (λh=>fK (Tc hc) g j boot_min h (he:=hs) (hpl:=hpl)) k (λρ=>rfl) rfl
theorem uf(f:x="max")(hc:X.calm=true)(g:Gl X x)(j:X.mg x=none)(k:SA X c [a,b] [pa,pb])(hs:starEach [a,b] X.env=(false,eval a X.env)::starEach [b] X.env:=by rfl)(hpl:(backTo pos (starEach [b] X.env)).any (·.1)=false:=by rfl):SX X c (.Call (.Name x p') [a,b] [] pos) (.blt .max2 [pa,pb]):=by subst f;exact NQ (λh=>fK (Qz hc) g j boot_max h (he:=hs) (hpl:=hpl)) k (λρ=>rfl) rfl
end
section
variable{X:Cx}{c:Call}{n:Nat}{e a b d:Expr}{p pa pb pd:P}{pos:Pos}{es:List Expr}{ps:List P}
theorem uq(g:GS K F ρ σ H)(h:zx ρ i=some ds):∃a xs,σ[i]?=some (some (V.ref a))/\dN K H a xs:=by
 unfold zx at h;split at h;.rename_i q;cases h;obtain⟨v,h1,f⟩:=g.pk q;obtain⟨a,xs,rfl,j,_⟩:=f.lst g.sub;exact⟨a,xs,h1,j⟩
 .cases h
theorem my{k:Nat}{h f:Pos}(G:X.N[k]?=some x)(I:xQ X.env.scope x)(hi:SX X c b pb)(he:SX X c e p)(J:∀ v,assign (.Subscript (.Name x h) b f) X.env v=(do
  let ov<-holding [v] (eval (.Name x h) X.env)let iv<-holding [v,ov] (eval b X.env)standAt f
  holding [v,ov,iv] (setItem ov iv v)release [v,ov,iv] []):=by intro _;rfl)(hs:swapsWithSole [.Subscript (.Name x h) b f] e pos.line X.env=pure false:=by rfl)(L:swappedStores [.Subscript (.Name x h) b f] e X.env=pure none:=by rfl)(h1:(assignEach [.Subscript (.Name x h) b f] X.env).map (·.2)=[assign (.Subscript (.Name x h) b f) X.env]:=by rfl)(hd:(x==("__debug__":Str))=false:=by decide)(t:(x==("__classdict__":Str))=false:=by decide):SS X c n (.Assign [.Subscript (.Name x h) b f] e pos) (.xJ k pb p):=by
 obtain⟨ti,u,w⟩:=hi.cW;refine dU (Gm he.ev (Sh (gH G I hd t) u set_list J) hs L h1) ?_;rintro D σ H⟨F,ρ,fl,M,g,e,O⟩;rw[HH.X9]at e;obtain⟨r,y,Q,e⟩:=aj e;obtain⟨x0,B,l,e⟩:=aj e;have U:=aB l;clear l;obtain⟨l,W⟩:=U;subst W;obtain⟨dk,Y,Z,e⟩:=aj e;refine⟨F,ρ,r,y,g,Q,λv F1 H1 s1 rr=>?_⟩;obtain⟨F2,s2,_,rp⟩:=s1.cM rr;obtain⟨o,ho,_⟩:=s2.gs.pk l;refine⟨o,ho,w s2.gs Z λvi F3 H3 s3 pi=>?_⟩;split at e
 . rename_i bb ds z q;split at e;.rename_i j hj;cases e;obtain⟨ad,xs,C,q2,q3,E⟩:=s3.gs.lB k _ ds q rfl;rw[ho]at C;cases C;refine⟨ad,xs,z,j,rfl,pi.int,q2,by rw[E.length];exact hj,?_⟩;exact O F3 σ _ ((s2.trans s3).trans (s3.gs.mut q ho (E.set (rp.mono s3.bU) j)))
   .cases e
 .cases e
theorem dO{k:Nat}{o h f:Pos}(G:X.N[k]?=some x)(I:xQ X.env.scope x)(he:SX X c e p)(j:(h.endLine==f.line)=true:=by rfl)(hs:starEach [e] X.env=(false,eval e X.env)::starEach [] X.env:=by rfl)(l:attributeBase (.Name x o) "append" X.env (eval (.Name x o) X.env)=eval (.Name x o) X.env:=by rfl)(t:((backTo f (starEach [e] X.env)).all (λx=>!x.1)&&(backToKw f (keywordEach [] X.env)).all (λx=>x.1.isSome)&&decide ([e].length+([]:List Keyword).length+(if([]:List Keyword).isEmpty then 0 else 1)<30))=true:=by rfl)(w:swapsWith (.Call (.Attribute (.Name x o) "append" h) [e] [] f) none pos.line X.env=pure false:=by rfl)(hd:(x==("__debug__":Str))=false:=by decide)(y:(x==("__classdict__":Str))=false:=by decide):SS X c n (.Expr (.Call (.Attribute (.Name x o) "append" h) [e] [] f) pos) (.app k p):=by
 refine dU (uK (Es plainAttrs_list PySem.F.slot_list_append PySem.F.type_list_append m5 (gH G I hd y) (bW he.ev eU hs) l t j hs) w) ?_;rintro D σ H⟨F,ρ,fl,J,g,e,L⟩;rw[HH.X10]at e;obtain⟨d0,M,u,e⟩:=aj e;have O:=aB u;clear u;obtain⟨u,Q⟩:=O;subst Q;obtain⟨r,z,U,e⟩:=aj e;obtain⟨a,xs,h1,W⟩:=uq g u;refine⟨.ref a,h1,.inl ⟨rfl,xs,W⟩,F,ρ,r,z,g,U,λv F1 H1 s1 Y=>?_⟩;obtain⟨F2,s2,_,Z⟩:=s1.cM Y;split at e
 . rename_i bb ds q;split at e;.rename_i B;cases e;obtain⟨ad,ys,C,q2,q3,E⟩:=s2.gs.lB k _ ds q rfl;rw[h1]at C;cases C;exact⟨_,ys,v,rfl,rfl,q2,by rw[E.length];exact B,L F2 σ _ (s2.trans (s2.gs.mut q h1 (E.append (.cons Z .nil))))⟩
   .cases e
 .cases e
theorem Pq{j:Nat}{y:Str}{l o pt:Pos}{kt k2 Tq}(hc:X.calm=true)(C:X.N.Nodup)(hi:X.N[i]?=some x)(E:X.N[j]?=some y)(q:i≠j)(G:X.env.scope.names.lookup x=some .local)(I:X.env.scope.names.lookup y=some .local)(J:SX X c a pa)(L:SX X c b pb)(M:swappedStores [.Tuple [.Name x l,.Name y o] kt pt] (.Tuple [a,b] k2 Tq) X.env=pure (some [x,y]):=by rfl)(hs:swapsWithSole [.Tuple [.Name x l,.Name y o] kt pt] (.Tuple [a,b] k2 Tq) pos.line X.env=pure false:=by rfl)(h1:starEach [a,b] X.env=(false,eval a X.env)::starEach [b] X.env:=by rfl)(O:starEach [b] X.env=(false,eval b X.env)::starEach [] X.env:=by rfl):SS X c n (.Assign [.Tuple [.Name x l,.Name y o] kt pt] (.Tuple [a,b] k2 Tq) pos) (.par i j pa pb):=by refine dU (L2.R3 hc C hi E q G I (bW J.ev (bW L.ev eU O) h1) M hs) ?_;rintro D σ H⟨F,ρ,fl,Q,g,e,k⟩;rw[HH.X7]at e;obtain⟨r,f,U,e⟩:=aj e;obtain⟨B,t,W,e⟩:=aj e;obtain⟨Y,Z,h,e⟩:=aj e;cases e;have zz:=aB h;clear h;obtain⟨h,e4⟩:=zz;obtain⟨ac,e5,e6⟩:=bZ h;refine⟨F,ρ,r,f,g,U,λv F1 H1 s1 rr=>?_⟩;obtain⟨F2,s2,_,rp⟩:=s1.cM rr;refine⟨F2,f,B,t,s2.gs,W,λu F3 H3 s3 w=>?_⟩;obtain⟨F4,s4,_,z⟩:=s3.cM w;refine⟨v,u,rfl,?_⟩;have t4:=s2.trans s4;have t5:=t4.put (r:=.val r.d) (v:=v) (rp.mono s4.bU) e5;exact k F4 _ H3 (t5.put (r:=.val B.d) (v:=u) z e6)
theorem Ir{bs:List Bool}(h:ds.mapM zb=some bs):ds=bs.map D.bl:=by induction ds generalizing bs with|nil=>simp at h;subst h;rfl|cons d ds f=>rw[List.mapM_cons]at h;cases hd:zb d with|none=>rw[hd]at h;cases h|some k=>rw[hd]at h;cases hr:ds.mapM zb with|none=>rw[hr]at h;cases h|some r=>rw[hr]at h;cases h;rw[map_cons,<-f hr,mQ hd]
theorem BX{K:PySem.W.Frag}{F:Hp}:∀{bs:List Bool}{xs:List V},aF K F xs (bs.map D.bl)->xs=bs.map V.bl|[],_,h=>h.eZ|k::bs,_,h=>by obtain⟨v,r,rfl,h1,f⟩:=h.cC;rw[Rep]at h1;rw[h1,BX f];rfl
theorem Ao:∀{bs:List Bool}{f:List Value},Vals (bs.map V.bl) f->f=bs.map Value.bool|[],_,h=>h.zero|k::bs,_,.cons r t=>by rw[map_cons,<-Ao t,show _=_ from r]
theorem J1{id:String}{f:List Bool->Bool}(hc:X.calm=true)(rule:∀{x:Value}{Q:Value->Shared->Prop}{s:Shared},wpAny (model X.prog X.w) X.A.in1 (pyIter x) (λG g=>∃ I J t n P St y,G=.ref I/\Walks X.prog X.w X.A.in1 I J t n P St/\St 0 g.heap/\TruthOf X.prog X.w X.A.in1 P y/\∀h' B,(∀b o,b∉t->g.heap.get? b=some o->h'.get? b=some o)->Q (.bool (f ((List.range n).map y))) {g with heap:=h',toks:=B}) X.xe s->wpAny (model X.prog X.w) X.A (call (.builtin id) [x]) Q X.xe s):dC X (.builtin id) (λxs H Q=>∃p ys bs,xs=[.ref p]/\dN X.K H p ys/\ys=bs.map V.bl/\Q (.bl (f bs)) H):=by
 rintro C s σ H xs us Q I r⟨p,ys,bs,L,M,N,k⟩;subst L;subst N;obtain⟨u,rfl,O⟩:=r.one;cases O;obtain⟨U,W,l,hz⟩:=I.list M;have h:=Ao W;subst h;refine rule (wpAny_pyIter_list l.isList ?_);have q:p≠s.heap.objs.size:=by obtain⟨o,h1,_⟩:=l.isList;exact ne_of_lt (lt_size h1)
 refine⟨s.heap.objs.size,_,_,_,_,_,λi=>bs.getD i false,rfl,Walks.list (prog:=X.prog) (w:=X.w) (A:=X.A.in1) (show X.A.in1.handled=none from I.ok.hd hc) s.heap.objs.size p q (bs.map Value.bool).toArray,⟨⟨_,get?_push_size _ rfl,rfl,rfl⟩,?_⟩,?_,λh' B kp=>?_⟩;.obtain⟨o,h1,E⟩:=l.isList;exact⟨o,dR h1,E⟩
 . intro i v s' Q' E' j Y;have Z:v=.bool (bs.getD i false):=by
    have j:(bs.map Value.bool)[i]?=some v:=by simpa using j
    rw[getElem?_map]at j;obtain⟨k',e1,e2⟩:=map_some j;rw[<-e2,getD_eq_getElem?_getD,e1];rfl
   subst Z;exact wpAny_truthy_bool Y
 . have e:f ((List.range (bs.map Value.bool).toArray.size).map λi=>bs.getD i false)=f bs:=by
    congr 1;apply List.ext_getElem;.simp
    .intro i h1 E;simp at h1;simp[h1]
   rw[e];exact⟨.bl _,H,I.kept (λb o z=>kp b o (by simp;exact ne_of_lt (lt_size z)) (dR z)),rfl,k⟩
theorem WQ(hc:X.calm=true):dC X (.builtin "all") (Ht X.K λx=>blt .all [x]):=by rintro g s σ H xs t Q I r⟨x,u,F,d,w,j,y,he,k⟩;obtain⟨bs,B,he⟩:=map_some (show((yF d).bind λds=>ds.mapM zb).map _=some w from he);subst he;obtain⟨ds,l,C⟩:=bZ B;have E:=Ir C;cases d with|lst es=>cases l;obtain⟨p,ys,rfl,G,o⟩:=y.lst j;rw[E]at o;refine J1 (f:=λbs=>bs.all id) hc (λh=>call_all_walk (wpAny_mono h (λL q⟨I,fp,wr,n,P,Sx,tr,h1,h2,h3,h4,h5⟩=>⟨I,fp,wr,n,P,Sx,tr,h1,h2,h3,h4,λh' J kp=>?_⟩) λ_ _ z=>z)) g s σ H xs t Q I r ⟨p,ys,bs,u,G,BX o,cF.cX j (fO _) k⟩;have z:=h5 h' J kp;rw[all_map]at z;exact z|_=>cases l
theorem boot_all:bootBuiltins "all"=some (.builtin "all"):=by decide+kernel
theorem pY(f:x="all")(hc:X.calm=true)(g:Gl X x)(j:X.mg x=none)(k:SX X c a pa)(hs:starEach [a] X.env=(false,eval a X.env)::starEach [] X.env:=by rfl):SX X c (.Call (.Name x p') [a] [] pos) (.blt .all [pa]):=by subst f;exact km (λh=>fK (WQ hc) g j boot_all h (he:=hs)) k (λρ=>rfl) rfl hs
end
section
variable{K:PySem.W.Frag}
theorem jL:∀{xs ys:List D},xs.length≠ys.length->iw xs ys=false|[],[],h=>absurd rfl h|[],_::_,_=>by simp[lE,jg,qY,qT]|_::_,[],_=>by simp[lE,jg,qY,qT]|x::xs,y::ys,h=>by rw[jg,jL (xs:=xs) (ys:=ys) (by simpa using h),Bool.and_false]
theorem gG:∀{xs ys:List D},xs.length=ys.length->iw xs ys=(List.range xs.length).all λj=>jo (xs.getD j .non) (ys.getD j .non)|[],[],_=>by rw[lE];rfl|[],_::_,h=>by simp at h|_::_,[],h=>by simp at h|x::xs,y::ys,h=>by rw[jg,gG (xs:=xs) (ys:=ys) (by simpa using h),length_cons,List.range_succ_eq_map,all_cons,all_map];rfl
mutual
theorem vC:∀d:D,jo d d=true|.non=>rfl|.bl _=>by exact beq_self_eq_true _|.int _=>by exact beq_self_eq_true _|.str _=>by exact beq_self_eq_true _|.tup ds=>by exact j5 ds|.lst ds=>by exact j5 ds|.dH _=>by exact decide_eq_true rfl|.dv ks ds=>by show(decide (ks=ks)&&iw ds ds)=true;rw[j5 ds];simp
theorem j5:∀ds:List D,iw ds ds=true|[]=>by rw[lE]|d::ds=>by rw[jg,vC d,j5 ds];rfl
end
theorem fM{d e:D}(b:flat d=true)(h1:Rep K F v d)(a:Rep K F v e):d=e:=by cases d with
 |tup _=>cases b|lst _=>cases b|dH _=>cases b|dv _ _=>cases b|non=>rw[Rep]at h1;subst h1;cases e with|non=>rfl|tup _=>rw[Rep]at a;obtain⟨_,_,q,_⟩:=a;cases q|lst _=>rw[Rep]at a;obtain⟨_,_,q,_⟩:=a;cases q|dH _=>rw[Rep]at a;obtain⟨_,_,q,_⟩:=a;cases q|dv _ _=>rw[Rep]at a;obtain⟨_,_,_,q,_⟩:=a;cases q|_=>rw[Rep]at a;cases a
 |bl k=>rw[Rep]at h1;subst h1;cases e with|bl _=>rw[Rep]at a;cases a;rfl|tup _=>rw[Rep]at a;obtain⟨_,_,q,_⟩:=a;cases q|lst _=>rw[Rep]at a;obtain⟨_,_,q,_⟩:=a;cases q|dH _=>rw[Rep]at a;obtain⟨_,_,q,_⟩:=a;cases q|dv _ _=>rw[Rep]at a;obtain⟨_,_,_,q,_⟩:=a;cases q|_=>rw[Rep]at a;cases a
 |int k=>rw[Rep]at h1;subst h1;cases e with|int _=>rw[Rep]at a;cases a;rfl|tup _=>rw[Rep]at a;obtain⟨_,_,q,_⟩:=a;cases q|lst _=>rw[Rep]at a;obtain⟨_,_,q,_⟩:=a;cases q|dH _=>rw[Rep]at a;obtain⟨_,_,q,_⟩:=a;cases q|dv _ _=>rw[Rep]at a;obtain⟨_,_,_,q,_⟩:=a;cases q|_=>rw[Rep]at a;cases a
 |str k=>rw[Rep]at h1;subst h1;cases e with|str _=>rw[Rep]at a;cases a;rfl|tup _=>rw[Rep]at a;obtain⟨_,_,q,_⟩:=a;cases q|lst _=>rw[Rep]at a;obtain⟨_,_,q,_⟩:=a;cases q|dH _=>rw[Rep]at a;obtain⟨_,_,q,_⟩:=a;cases q|dv _ _=>rw[Rep]at a;obtain⟨_,_,_,q,_⟩:=a;cases q|_=>rw[Rep]at a;cases a
theorem Li{X:Cx}{w:List (Addr×Obj)}(I:L2.Inv X w σ H s)(g:aG F H):∀n:Nat,(∀d:D,il n d=true->∀(v:V)(e:D),Rep X.K F v d->Rep X.K F v e->d=e):=by
 have O:∀{a:Addr}{xs ys:List V},iB X.K F a xs->dN X.K F a ys->False:=λ{a xs ys}h1 b=>by obtain⟨_,_,⟨o,j,l,_⟩,_⟩:=I.tuple (aG.gF g h1);obtain⟨_,_,y,_⟩:=I.list (g.seq b);obtain⟨E,c,f,_⟩:=y.isList;rw[j]at c;cases c;rw[l]at f;exact absurd f (by decide)
 have Q:∀{a:Addr}{kvs:Dc},Rep X.K F (.ref a) (.dH kvs)->∃o,s.heap.get? a=some o/\o.cls=.type "dict":=λ{a kvs}h=>by rw[Rep]at h;obtain⟨z,_,q,G⟩:=h;cases q;exact Hb I (g _ _ G)
 have U:∀{a:Addr}{xs:List V}{kvs:Dc},iB X.K F a xs->Rep X.K F (.ref a) (.dH kvs)->False:=λ{a xs kvs}h1 b=>by obtain⟨_,_,⟨o,j,l,_⟩,_⟩:=I.tuple (aG.gF g h1);obtain⟨E,c,f⟩:=Q b;rw[j]at c;cases c;rw[l]at f;exact absurd f (by decide)
 have ld:∀{a:Addr}{xs:List V}{kvs:Dc},dN X.K F a xs->Rep X.K F (.ref a) (.dH kvs)->False:=λ{a xs kvs}h1 b=>by obtain⟨_,_,y,_⟩:=I.list (g.seq h1);obtain⟨o,j,l,_⟩:=y.isList;obtain⟨E,c,f⟩:=Q b;rw[j]at c;cases c;rw[l]at f;exact absurd f (by decide)
 have B:∀{a:Addr}{ks:List Int}{es:List D},Rep X.K F (.ref a) (.dv ks es)->∃o,s.heap.get? a=some o/\o.cls=.type "dict":=λ{a ks es}h=>by rw[Rep]at h;obtain⟨z,_,_,q,G,_⟩:=h;cases q;exact G4 I (g _ _ G)
 have J:∀{a:Addr}{xs:List V}{ks:List Int}{es:List D},iB X.K F a xs->Rep X.K F (.ref a) (.dv ks es)->False:=λ{a xs ks es}h1 b=>by obtain⟨_,_,⟨o,j,l,_⟩,_⟩:=I.tuple (aG.gF g h1);obtain⟨E,c,f⟩:=B b;rw[j]at c;cases c;rw[l]at f;exact absurd f (by decide)
 have L:∀{a:Addr}{xs:List V}{ks:List Int}{es:List D},dN X.K F a xs->Rep X.K F (.ref a) (.dv ks es)->False:=λ{a xs ks es}h1 b=>by obtain⟨_,_,y,_⟩:=I.list (g.seq h1);obtain⟨o,j,l,_⟩:=y.isList;obtain⟨E,c,f⟩:=B b;rw[j]at c;cases c;rw[l]at f;exact absurd f (by decide)
 intro n;induction n with
 |zero=>intro d hd v e h1 b;cases d with|tup _=>simp[bJ,bF,bM,bL,bN,bK]at hd|lst _=>simp[bJ,bF,bM,bL,bN,bK]at hd|dH _=>simp[bJ,bF,bM,bL,bN,bK]at hd|dv _ _=>simp[bJ,bF,bM,bL,bN,bK]at hd|non=>exact fM rfl h1 b|bl k=>exact fM rfl h1 b|int k=>exact fM rfl h1 b|str k=>exact fM rfl h1 b
 |succ n W=>
   have all:∀{xs:List V}{ds es:List D},ds.all (il n)=true->aF X.K F xs ds->aF X.K F xs es->ds=es:=λ{xs ds}=>by induction ds generalizing xs with|nil=>intro es _ h1 b;rw[h1.eZ]at b;have:=b.length;exact(List.eq_nil_of_length_eq_zero this.symm).symm|cons d ds M=>intro es t h1 b;rw[all_cons,and_eq_true]at t;obtain⟨v,r,rfl,j,l⟩:=h1.cC;cases es with|nil=>cases b.eZ|cons e es=>obtain⟨Z,r',Y,c,f⟩:=b.cC;cases Y;rw[W d t.1 v e j c,M t.2 l f]
   intro d hd v e h1 b;cases d with
   |dH _=>simp[bJ,bF,bM,bL,bN,bK]at hd|dv _ _=>simp[bJ,bF,bM,bL,bN,bK]at hd|tup ds=>
     have t:ds.all (il n)=true:=by simpa[bJ,bF,bM,bL,bN,bK]using hd
     rw[Rep]at h1;obtain⟨a,xs,rfl,p,N⟩:=h1;cases e with|tup es=>rw[Rep]at b;obtain⟨z,ys,q,u,C⟩:=b;cases q;have:=I.j6 (aG.gF g p) (aG.gF g u);subst this;rw[all t N C]|lst es=>rw[Rep]at b;obtain⟨z,ys,q,u,C⟩:=b;cases q;exact(O p u).elim|dH _=>exact(U p b).elim|dv _ _=>exact(J p b).elim|_=>rw[Rep]at b;cases b
   |lst ds=>
     have t:ds.all (il n)=true:=by simpa[bJ,bF,bM,bL,bN,bK]using hd
     rw[Rep]at h1;obtain⟨a,xs,rfl,p,N⟩:=h1;cases e with|lst es=>rw[Rep]at b;obtain⟨z,ys,q,u,C⟩:=b;cases q;have:=I.mK (g.seq p) (g.seq u);subst this;rw[all t N C]|tup es=>rw[Rep]at b;obtain⟨z,ys,q,u,C⟩:=b;cases q;exact(O u p).elim|dH _=>exact(ld p b).elim|dv _ _=>exact(L p b).elim|_=>rw[Rep]at b;cases b
   |non=>exact fM rfl h1 b|bl k=>exact fM rfl h1 b|int k=>exact fM rfl h1 b|str k=>exact fM rfl h1 b
theorem Bm{d e:D}{u:V}{c:Value}(hd:flat d=true)(he:flat e=true)(h1:Rep K F v d)(a:Rep K F u e)(r1:RelV v c)(b:RelV u u'):SeqAt.EqAt A s c u' (jo d e):=by cases d with
 |tup _=>cases hd|lst _=>cases hd|dH _=>cases hd|dv _ _=>cases hd|non=>rw[Rep]at h1;subst h1;cases(show c=.none from r1);cases e with|tup _=>cases he|lst _=>cases he|dH _=>cases he|dv _ _=>cases he|non=>rw[Rep]at a;subst a;cases(show u'=.none from b);exact SeqAt.EqAt.same _|bl _=>rw[Rep]at a;subst a;cases(show u'=.bool _ from b);exact none_bool _|int _=>rw[Rep]at a;subst a;obtain⟨t,rfl⟩:=b;exact none_int _ _|str _=>rw[Rep]at a;subst a;obtain⟨t,rfl⟩:=b;exact none_str _ _
 |bl _=>rw[Rep]at h1;subst h1;cases(show c=.bool _ from r1);cases e with|tup _=>cases he|lst _=>cases he|dH _=>cases he|dv _ _=>cases he|non=>rw[Rep]at a;subst a;cases(show u'=.none from b);exact bool_none _|bl _=>rw[Rep]at a;subst a;cases(show u'=.bool _ from b);exact bool_bool _ _|int _=>rw[Rep]at a;subst a;obtain⟨t,rfl⟩:=b;exact bool_int _ _ _|str _=>rw[Rep]at a;subst a;obtain⟨t,rfl⟩:=b;exact bool_str _ _ _
 |int _=>rw[Rep]at h1;subst h1;obtain⟨t0,rfl⟩:=r1;cases e with|tup _=>cases he|lst _=>cases he|dH _=>cases he|dv _ _=>cases he|non=>rw[Rep]at a;subst a;cases(show u'=.none from b);exact int_none _ _|bl _=>rw[Rep]at a;subst a;cases(show u'=.bool _ from b);exact int_bool _ _ _|int _=>rw[Rep]at a;subst a;obtain⟨t,rfl⟩:=b;exact int_int _ _ _ _|str _=>rw[Rep]at a;subst a;obtain⟨t,rfl⟩:=b;exact int_str _ _ _ _
 |str _=>rw[Rep]at h1;subst h1;obtain⟨t0,rfl⟩:=r1;cases e with|tup _=>cases he|lst _=>cases he|dH _=>cases he|dv _ _=>cases he|non=>rw[Rep]at a;subst a;cases(show u'=.none from b);exact str_none _ _|bl _=>rw[Rep]at a;subst a;cases(show u'=.bool _ from b);exact str_bool _ _ _|int _=>rw[Rep]at a;subst a;obtain⟨t,rfl⟩:=b;exact str_int _ _ _ _|str _=>rw[Rep]at a;subst a;obtain⟨t,rfl⟩:=b;exact str_str _ _ _ _
theorem lV{e:D}{u:V}{a:Addr}{g:Array Value}(ht:s.heap.IsTuple a g)(b:A.units<cLine)(he:flat e=true)(c:Rep K F u e)(f:RelV u u'):SeqAt.EqAt A s (.ref a) u' (jo (.tup ds) e)/\SeqAt.EqAt A s u' (.ref a) (jo e (.tup ds)):=by cases e with|tup _=>cases he|lst _=>cases he|dH _=>cases he|dv _ _=>cases he|non=>rw[Rep]at c;subst c;cases(show u'=.none from f);exact⟨SeqAt.EqAt.tuple_none ht b,SeqAt.EqAt.none_tuple ht b⟩|bl _=>rw[Rep]at c;subst c;cases(show u'=.bool _ from f);exact⟨SeqAt.EqAt.tuple_bool _ ht b,SeqAt.EqAt.bool_tuple _ ht b⟩|int _=>rw[Rep]at c;subst c;obtain⟨t,rfl⟩:=f;exact⟨SeqAt.EqAt.tuple_int _ _ ht b,SeqAt.EqAt.int_tuple _ _ ht b⟩|str _=>rw[Rep]at c;subst c;obtain⟨t,rfl⟩:=f;exact⟨SeqAt.EqAt.tuple_str _ _ ht b,SeqAt.EqAt.str_tuple _ _ ht b⟩
theorem mH{e:D}{u:V}{a:Addr}{g:Array Value}(ht:s.heap.IsList a g)(b:A.units<cLine)(he:flat e=true)(c:Rep K F u e)(f:RelV u u'):SeqAt.EqAt A s (.ref a) u' (jo (.lst ds) e)/\SeqAt.EqAt A s u' (.ref a) (jo e (.lst ds)):=by cases e with|tup _=>cases he|lst _=>cases he|dH _=>cases he|dv _ _=>cases he|non=>rw[Rep]at c;subst c;cases(show u'=.none from f);exact⟨SeqAt.EqAt.list_none ht b,SeqAt.EqAt.none_list ht b⟩|bl _=>rw[Rep]at c;subst c;cases(show u'=.bool _ from f);exact⟨SeqAt.EqAt.list_bool _ ht b,SeqAt.EqAt.bool_list _ ht b⟩|int _=>rw[Rep]at c;subst c;obtain⟨t,rfl⟩:=f;exact⟨SeqAt.EqAt.list_int _ _ ht b,SeqAt.EqAt.int_list _ _ ht b⟩|str _=>rw[Rep]at c;subst c;obtain⟨t,rfl⟩:=f;exact⟨SeqAt.EqAt.list_str _ _ ht b,SeqAt.EqAt.str_list _ _ ht b⟩
theorem wI{n:Nat}{d:D}(h:il n d=true)(h0:n=0):flat d=true:=by subst h0;cases d<;>first|rfl|simp[bJ,bF,bM,bL,bN,bK]at h
theorem acb{X:Cx}{J:List (Addr×Obj)}(I:L2.Inv X J σ H s)(r:aG F H):∀(n:Nat)(A:Around),A.units+n<cLine->∀(d e:D),il n d=true->il n e=true->∀(v u:V)(L u':Value),Rep X.K F v d->Rep X.K F u e->RelV v L->RelV u u'->SeqAt.EqAt A s L u' (jo d e):=by intro n;induction n with|zero=>intro A hu d e hd he v u L u' h1 f r1 g;exact Bm (wI hd rfl) (wI he rfl) h1 f r1 g|succ n ih=>
   intro A hu d e hd he v u L u' h1 f r1 g;have c:A.units<cLine:=by omega
   have O:A.in1.units+n<cLine:=by show A.units+1+n<cLine;omega--items by place
   have M:∀{xs ys:List V}{q ws:List Value}{ds es:List D}{j:Nat}(C:j<q.toArray.size)(E:j<ws.toArray.size),ds.all (il n)=true->es.all (il n)=true->Vals xs q->Vals ys ws->aF X.K F xs ds->aF X.K F ys es->SeqAt.EqAt A.in1 s q.toArray[j] ws.toArray[j] (jo (ds.getD j .non) (es.getD j .non)):=λ{xs ys q ws ds es j}C E a1 a2 G h p1 p2=>by
    have C:j<q.length:=by simpa using C
    have E:j<ws.length:=by simpa using E
    have t:j<ds.length:=by rw[<-p1.length,G.length];exact C
    have l2:j<es.length:=by rw[<-p2.length,h.length];exact E
    obtain⟨x,g1,g2⟩:=p1.get (show ds[j]?=some ds[j]by simp[t]);obtain⟨y,g3,g4⟩:=p2.get (show es[j]?=some es[j]by simp[l2]);obtain⟨Y,g5,g6⟩:=G.get g1;obtain⟨Z,g7,g8⟩:=h.get g3;have e1:q.toArray[j]=Y:=by have:=(eX g5).2;simpa using this
    have e2:ws.toArray[j]=Z:=by have:=(eX g7).2;simpa using this
    have e3:ds.getD j .non=ds[j]:=by simp[getD,t]
    have e4:es.getD j .non=es[j]:=by simp[getD,l2]
    rw[e1,e2,e3,e4];exact ih A.in1 O _ _ (all_eq_true.mp a1 _ (getElem_mem t)) (all_eq_true.mp a2 _ (getElem_mem l2)) x y Y Z g2 g4 g6 g8--the same object
   have same:∀{a:Addr},v=.ref a->u=.ref a->SeqAt.EqAt A s L u' (jo d e):=λ{a}q1 q2=>by subst q1;subst q2;have:=Li I r (n+1) d hd _ e h1 f;subst this;rw[vC];cases r1;cases g;exact SeqAt.EqAt.same _
   cases d with
   |dH _=>simp[bJ,bF,bM,bL,bN,bK]at hd|dv _ _=>simp[bJ,bF,bM,bL,bN,bK]at hd|tup ds=>
     have Q:ds.all (il n)=true:=by simpa[bJ,bF,bM,bL,bN,bK]using hd
     have k:=h1;rw[Rep]at k;obtain⟨a,xs,rfl,U,N⟩:=k;cases r1;obtain⟨q,G,p1,_⟩:=I.tuple (aG.gF r U)
     cases e with|dH _=>simp[bJ,bF,bM,bL,bN,bK]at he|dv _ _=>simp[bJ,bF,bM,bL,bN,bK]at he|tup es=>
       have W:es.all (il n)=true:=by simpa[bJ,bF,bM,bL,bN,bK]using he
       have l:=f;rw[Rep]at l;obtain⟨b,ys,rfl,o,w⟩:=l;by_cases p:a=b;.subst p;exact same rfl rfl
       . cases g;obtain⟨ws,h,p2,_⟩:=I.tuple (aG.gF r o);refine .of_refs p ?_;have z:=SeqAt.RcAt.tuples (A:=A) (e:=λj=>jo (ds.getD j .non) (es.getD j .non)) p1 p2 c λj C E=>M C E Q W G h N w;have t:q.toArray.size=ds.length:=by rw[size_toArray,<-G.length,N.length]
         have l2:ws.toArray.size=es.length:=by rw[size_toArray,<-h.length,w.length]
         rw[t,l2]at z;have e0:jo (.tup ds) (.tup es)=((List.range (min ds.length es.length)).all (λj=>jo (ds.getD j .non) (es.getD j .non))&&ds.length==es.length):=by
          rw[pqt];by_cases B:ds.length=es.length;.rw[gG B,B];simp
          . rw[jL B];have:(ds.length==es.length)=false:=by simpa using B
            rw[this,Bool.and_false]
         rw[e0];exact z|lst es=>rw[Rep]at f;obtain⟨b,ys,rfl,o,w⟩:=f;cases g;obtain⟨ws,h,p2,_⟩:=I.list (r.seq o);exact SeqAt.EqAt.tuple_list p1 p2.isList c|non=>exact(lV p1 c rfl f g).1|bl _=>exact(lV p1 c rfl f g).1|int _=>exact(lV p1 c rfl f g).1|str _=>exact(lV p1 c rfl f g).1
   |lst ds=>
     have Q:ds.all (il n)=true:=by simpa[bJ,bF,bM,bL,bN,bK]using hd
     have k:=h1;rw[Rep]at k
     obtain⟨a,xs,rfl,U,N⟩:=k;cases r1;obtain⟨q,G,p1,_⟩:=I.list (r.seq U);cases e with|dH _=>simp[bJ,bF,bM,bL,bN,bK]at he|dv _ _=>simp[bJ,bF,bM,bL,bN,bK]at he|lst es=>
       have W:es.all (il n)=true:=by simpa[bJ,bF,bM,bL,bN,bK]using he
       have l:=f;rw[Rep]at l;obtain⟨b,ys,rfl,o,w⟩:=l;by_cases p:a=b;.subst p;exact same rfl rfl
       . cases g;obtain⟨ws,h,p2,_⟩:=I.list (r.seq o);refine .of_refs p ?_;have t:q.toArray.size=ds.length:=by rw[size_toArray,<-G.length,N.length]
         have l2:ws.toArray.size=es.length:=by rw[size_toArray,<-h.length,w.length]
         rw[pql];by_cases B:ds.length=es.length;.have z:=SeqAt.RcAt.lists (A:=A) (e:=λj=>jo (ds.getD j .non) (es.getD j .non)) p1.isList p2.isList (by rw[t,l2,B]) c λj C E=>M C E Q W G h N w;rw[t]at z;rw[gG B];exact z
         .rw[jL B];exact lists_lengths p1.isList p2.isList (by rw[t,l2];simpa using B) c|tup es=>rw[Rep]at f;obtain⟨b,ys,rfl,o,w⟩:=f;cases g;obtain⟨ws,h,p2,_⟩:=I.tuple (aG.gF r o);exact SeqAt.EqAt.list_tuple p1.isList p2 c|non=>exact(mH p1.isList c rfl f g).1|bl _=>exact(mH p1.isList c rfl f g).1|int _=>exact(mH p1.isList c rfl f g).1|str _=>exact(mH p1.isList c rfl f g).1
   |non|bl _|int _|str _=>cases e with|dH _=>simp[bJ,bF,bM,bL,bN,bK]at he|dv _ _=>simp[bJ,bF,bM,bL,bN,bK]at he|tup es=>rw[Rep]at f;obtain⟨b,ys,rfl,o,w⟩:=f;cases g;obtain⟨ws,h,p2,_⟩:=I.tuple (aG.gF r o);exact(lV p2 c rfl h1 r1).2|lst es=>rw[Rep]at f;obtain⟨b,ys,rfl,o,w⟩:=f;cases g;obtain⟨ws,h,p2,_⟩:=I.list (r.seq o);exact(mH p2.isList c rfl h1 r1).2|_=>exact Bm rfl rfl h1 f r1 g
end
section
variable{X:Cx}{pins:List (Addr×Obj)}{σ:L2.St}{H F:Hp}{s:Shared}{A:Around}
abbrev RC(A:Around)(s:Shared)(v u:Value)(k:Bool):Prop:=SeqAt.RcAt A s v u k/\SeqAt.RcNeAt A s v u (!k)
inductive Top(X:Cx)(F H:Hp)(s:Shared):Value->D->Prop where|non:Top X F H s .none .non|bl(b:Bool):Top X F H s (.bool b) (.bl b)|int(i:Int)(t:Tok):Top X F H s (.int i t) (.int i)|str(x:Str)(t:Tok):Top X F H s (.str x t) (.str x)|tup{a:Addr}{us:List Value}{xs:List V}{ds:List D}(ht:s.heap.IsTuple a us.toArray)(hv:Vals xs us)(hr:aF X.K F xs ds):Top X F H s (.ref a) (.tup ds)|lst{a:Addr}{us:List Value}{xs:List V}{ds:List D}(ht:s.heap.IsList a us.toArray)(hv:Vals xs us)(hr:aF X.K F xs ds):Top X F H s (.ref a) (.lst ds)
theorem uJ(I:L2.Inv X pins σ H s)(f:aG F H){g:Value}{d:D}(hd:il 8 d=true)(h:dj X.K F H v d)(r:RelV v g):Top X F H s g d:=by cases d with|dH _=>simp[bJ,bF,bM,bL,bN,bK]at hd|dv _ _=>simp[bJ,bF,bM,bL,bN,bK]at hd|non=>rw[h.non]at r;cases r;exact .non|bl b=>rw[h.bl]at r;cases r;exact .bl b|int i=>rw[h.int]at r;obtain⟨t,rfl⟩:=r;exact .int i t|str x=>rw[h.str]at r;obtain⟨t,rfl⟩:=r;exact .str x t|tup ds=>obtain⟨a,xs,rfl,h1,c,_⟩:=h.tup f;cases r;obtain⟨j,e,p1,_⟩:=I.tuple h1;exact .tup p1 e c|lst ds=>obtain⟨a,xs,rfl,h1,c⟩:=h.lst f;cases r;obtain⟨j,e,p1,_⟩:=I.list h1;exact .lst p1.isList e c
theorem Wx(I:L2.Inv X pins σ H s)(Q:aG F H){n:Nat}(hu:A.units+(n+1)<cLine){d e:D}(hd:il (n+1) d=true)(he:il (n+1) e=true){J:Value}(h1:Top X F H s J d)(w:Top X F H s u' e):RC A s J u' (jo d e):=by
 have c:A.units<cLine:=by omega
 have G:A.in1.units+n<cLine:=by show A.units+1+n<cLine;omega
 have r:∀{xs ys:List V}{q ws:List Value}{ds es:List D}{j:Nat}(k:j<q.toArray.size)(l:j<ws.toArray.size),ds.all (il n)=true->es.all (il n)=true->Vals xs q->Vals ys ws->aF X.K F xs ds->aF X.K F ys es->SeqAt.EqAt A.in1 s q.toArray[j] ws.toArray[j] (jo (ds.getD j .non) (es.getD j .non)):=λ{xs ys q ws ds es j}k l U W L M p1 p2=>by
  have k:j<q.length:=by simpa using k
  have l:j<ws.length:=by simpa using l
  have o:j<ds.length:=by rw[<-p1.length,L.length];exact k
  have l2:j<es.length:=by rw[<-p2.length,M.length];exact l
  obtain⟨x,Y,Z⟩:=p1.get (show ds[j]?=some ds[j]by simp[o]);obtain⟨y,g3,g4⟩:=p2.get (show es[j]?=some es[j]by simp[l2]);obtain⟨N,g5,g6⟩:=L.get Y;obtain⟨O,g7,g8⟩:=M.get g3;have e1:q.toArray[j]=N:=by have:=(eX g5).2;simpa using this
  have e2:ws.toArray[j]=O:=by have:=(eX g7).2;simpa using this
  have e3:ds.getD j .non=ds[j]:=by simp[getD,o]
  have e4:es.getD j .non=es[j]:=by simp[getD,l2]
  rw[e1,e2,e3,e4];exact acb I Q n A.in1 G _ _ (all_eq_true.mp U _ (getElem_mem o)) (all_eq_true.mp W _ (getElem_mem l2)) x y N O Z g4 g6 g8
 cases h1 with
 |non=>cases w with|non=>exact⟨SeqAt.RcAt.none_none,SeqAt.RcNeAt.none_none⟩|bl b=>exact⟨SeqAt.RcAt.none_bool _,SeqAt.RcNeAt.none_bool _⟩|int i t=>exact⟨SeqAt.RcAt.none_int _ _,SeqAt.RcNeAt.none_int _ _⟩|str i t=>exact⟨SeqAt.RcAt.none_str _ _,SeqAt.RcNeAt.none_str _ _⟩|tup ht _ _=>exact⟨SeqAt.RcAt.none_tuple ht c,SeqAt.RcNeAt.none_tuple ht c⟩|lst ht _ _=>exact⟨SeqAt.RcAt.none_list ht c,SeqAt.RcNeAt.none_list ht c⟩
 |bl b0=>cases w with|non=>exact⟨SeqAt.RcAt.bool_none _,SeqAt.RcNeAt.bool_none _⟩|bl b=>exact⟨SeqAt.RcAt.bool_bool _ _,SeqAt.RcNeAt.bool_bool _ _⟩|int i t=>exact⟨SeqAt.RcAt.bool_int _ _ _,SeqAt.RcNeAt.bool_int _ _ _⟩|str i t=>exact⟨SeqAt.RcAt.bool_str _ _ _,SeqAt.RcNeAt.bool_str _ _ _⟩|tup ht _ _=>exact⟨SeqAt.RcAt.bool_tuple _ ht c,SeqAt.RcNeAt.bool_tuple _ ht c⟩|lst ht _ _=>exact⟨SeqAt.RcAt.bool_list _ ht c,SeqAt.RcNeAt.bool_list _ ht c⟩
 |int i0 t0=>cases w with|non=>exact⟨SeqAt.RcAt.int_none _ _,SeqAt.RcNeAt.int_none _ _⟩|bl b=>exact⟨SeqAt.RcAt.int_bool _ _ _,SeqAt.RcNeAt.int_bool _ _ _⟩|int i t=>exact⟨SeqAt.RcAt.int_int _ _ _ _,SeqAt.RcNeAt.int_int _ _ _ _⟩|str i t=>exact⟨SeqAt.RcAt.int_str _ _ _ _,SeqAt.RcNeAt.int_str _ _ _ _⟩|tup ht _ _=>exact⟨SeqAt.RcAt.int_tuple _ _ ht c,SeqAt.RcNeAt.int_tuple _ _ ht c⟩|lst ht _ _=>exact⟨SeqAt.RcAt.int_list _ _ ht c,int_list _ _ ht c⟩
 |str i0 t0=>cases w with|non=>exact⟨SeqAt.RcAt.str_none _ _,SeqAt.RcNeAt.str_none _ _⟩|bl b=>exact⟨SeqAt.RcAt.str_bool _ _ _,SeqAt.RcNeAt.str_bool _ _ _⟩|int i t=>exact⟨SeqAt.RcAt.str_int _ _ _ _,SeqAt.RcNeAt.str_int _ _ _ _⟩|str i t=>exact⟨SeqAt.RcAt.str_str _ _ _ _,SeqAt.RcNeAt.str_str _ _ _ _⟩|tup ht _ _=>exact⟨SeqAt.RcAt.str_tuple _ _ ht c,SeqAt.RcNeAt.str_tuple _ _ ht c⟩|lst ht _ _=>exact⟨SeqAt.RcAt.str_list _ _ ht c,str_list _ _ ht c⟩
 |@tup a q xs ds ht u hr=>
   have z:ds.all (il n)=true:=by simpa[bJ,bF,bM,bL,bN,bK]using hd
   cases w with|non=>exact⟨SeqAt.RcAt.tuple_none ht c,SeqAt.RcNeAt.tuple_none ht c⟩|bl b=>exact⟨SeqAt.RcAt.tuple_bool _ ht c,SeqAt.RcNeAt.tuple_bool _ ht c⟩|int i t=>exact⟨SeqAt.RcAt.tuple_int _ _ ht c,SeqAt.RcNeAt.tuple_int _ _ ht c⟩|str i t=>exact⟨SeqAt.RcAt.tuple_str _ _ ht c,SeqAt.RcNeAt.tuple_str _ _ ht c⟩|lst h _ _=>exact⟨SeqAt.RcAt.tuple_list ht h c,SeqAt.RcNeAt.tuple_list ht h c⟩|@tup b ws ys es h f g=>
     have B:es.all (il n)=true:=by simpa[bJ,bF,bM,bL,bN,bK]using he
     have o:q.toArray.size=ds.length:=by rw[size_toArray,<-u.length,hr.length]
     have l2:ws.toArray.size=es.length:=by rw[size_toArray,<-f.length,g.length]
     have C:=SeqAt.RcAt.tuples (A:=A) (e:=λj=>jo (ds.getD j .non) (es.getD j .non)) ht h c λj k l=>r k l z B u f hr g;have E:=SeqAt.RcNeAt.tuples (A:=A) (e:=λj=>jo (ds.getD j .non) (es.getD j .non)) ht h c λj k l=>r k l z B u f hr g;rw[o,l2]at C E;have e0:jo (.tup ds) (.tup es)=((List.range (min ds.length es.length)).all (λj=>jo (ds.getD j .non) (es.getD j .non))&&ds.length==es.length):=by
      rw[pqt];by_cases p:ds.length=es.length;.rw[gG p,p];simp
      . rw[jL p];have:(ds.length==es.length)=false:=by simpa using p
        rw[this,Bool.and_false]
     rw[e0];exact⟨C,E⟩
 |@lst a q xs ds ht u hr=>
   have z:ds.all (il n)=true:=by simpa[bJ,bF,bM,bL,bN,bK]using hd
   cases w with|non=>exact⟨SeqAt.RcAt.list_none ht c,SeqAt.RcNeAt.list_none ht c⟩|bl b=>exact⟨SeqAt.RcAt.list_bool _ ht c,SeqAt.RcNeAt.list_bool _ ht c⟩|int i t=>exact⟨SeqAt.RcAt.list_int _ _ ht c,list_int _ _ ht c⟩|str i t=>exact⟨SeqAt.RcAt.list_str _ _ ht c,list_str _ _ ht c⟩|tup h _ _=>exact⟨SeqAt.RcAt.list_tuple ht h c,SeqAt.RcNeAt.list_tuple ht h c⟩|@lst b ws ys es h f g=>
     have B:es.all (il n)=true:=by simpa[bJ,bF,bM,bL,bN,bK]using he
     have o:q.toArray.size=ds.length:=by rw[size_toArray,<-u.length,hr.length]
     have l2:ws.toArray.size=es.length:=by rw[size_toArray,<-f.length,g.length]
     rw[pql];by_cases p:ds.length=es.length;.have C:=SeqAt.RcAt.lists (A:=A) (e:=λj=>jo (ds.getD j .non) (es.getD j .non)) ht h (by rw[o,l2,p]) c λj k l=>r k l z B u f hr g;have E:=SeqAt.RcNeAt.lists (A:=A) (e:=λj=>jo (ds.getD j .non) (es.getD j .non)) ht h (by rw[o,l2,p]) c λj k l=>r k l z B u f hr g;rw[o]at C E;rw[gG p];exact⟨C,E⟩
     .rw[jL p];exact⟨lists_lengths ht h (by rw[o,l2];simpa using p) c,SeqAt.RcNeAt.lists_lengths ht h (by rw[o,l2];simpa using p) c⟩
theorem lF(c:X.A.units+8<cLine):fW X (compareOp .Eq) (rD X.K (pg .eq)):=by rintro pins s σ H x y v u Q I f g⟨F,d,e,r,a,h,j,he,k⟩;obtain⟨t,b,l⟩:=map_some (show(yl d e).map _=some r from he);subst l;unfold yl at b;obtain⟨hd,b⟩:=bB b;rw[and_eq_true]at hd;subst b;exact(Wx I a (n:=7) c hd.1 hd.2 (uJ I a hd.1 h f) (uJ I a hd.2 j g)).1 _ _ _ _ ⟨.bl _,H,I,rfl,cF.cX a (fO _) k⟩
theorem lz(c:X.A.units+8<cLine):fW X (compareOp .NotEq) (rD X.K (pg .ne)):=by rintro pins s σ H x y v u Q I f g⟨F,d,e,r,a,h,j,he,k⟩;obtain⟨t,b,l⟩:=map_some (show(Iw d e).map _=some r from he);subst l;unfold Iw at b;obtain⟨hd,b⟩:=bB b;rw[and_eq_true]at hd;subst b;exact(Wx I a (n:=7) c hd.1 hd.2 (uJ I a hd.1 h f) (uJ I a hd.2 j g)).2 _ _ _ _ ⟨.bl _,H,I,rfl,cF.cX a (fO _) k⟩
end
section
variable{Pg:Program}{w:World}{K:PySem.W.Frag}{mg:Str->Option Value}{base:Heap}
theorem XQ{qual:Str}{st:Stmt}{f:Addr}{fd:FuncData}{N ps:List Str}{k n:Nat}{c:Call}{d:Fd}(C:iD K x qual st f fd)(S:aL N ps (az st))(h1:d.np=ps.length)(t:d.nn=N.length)(G:∀(cdv:Value)(A:Around)(outer:List Env)(s:Shared)(H:Hp)(E:XK),jP k (A.deeper (envOfC qual (az st) s.heap.objs.size f cdv))->SB (yQ Fw Pg w K mg base N qual (az st) f cdv A outer s H E).WK c n (gb st) d.body):m9 Pg w K mg base Fw (k+1) f fd ps (JK K ps.length (λargs=>enter c n d args)):=by
 refine C.ok S (λvs H Q E h=>h.1) λcdv A outer s H vs Q E hr h=>?_;obtain⟨u,F,args,r,o,g,e,q⟩:=h;refine⟨_,G cdv A outer s H E hr,?_⟩;replace e:enter c n d args=.ok r o:=e;unfold enter at e;split at e
 . rename_i hc;obtain⟨c1,c2⟩:=hc;have I:=g.more (n:=d.nn-d.np) (τ:=replicate (N.length-vs.length) none) (by simp[h1,t,u]);have p:args.length=d.np:=c1;have go:∀{fl:Fl}{a:List Sl},iJ c n d.body (args++replicate (d.nn-d.np) .aQ)=.ok fl a->(∀l b j,aC K F (args++replicate (d.nn-d.np) .aQ) (start N vs) H l a b j->(match fl with|.next=>Q .non j|.brk=>False|.cont=>False|.ret r=>∀v,cT K l a b j (args++replicate (d.nn-d.np) .aQ) (start N vs) H v r->Q v j))->ZX K (iJ c n d.body) {nx:=λ_ j=>Q .non j,rt:=Q} (start N vs) H:=λ{fl a}z k=>⟨F,_,fl,a,I,z,λl b j s=>by have:=k l b j s;cases fl<;>exact this⟩;split at e;.rename_i a z;cases e;refine go z λl b j s=>?_;obtain⟨y,B⟩:=aC.less (m:=d.np) p.symm g (by simp[h1,t,u]) s;exact q .non l _ j y (show Rep K l _ _ from Qy)
   .rename_i L a z;cases e;refine go z λl b j s v J=>?_;obtain⟨y,B⟩:=aC.less (m:=d.np) p.symm g (by simp[h1,t,u]) s;exact q v l _ j y (B v r J)
   .split at e<;>cases e
 .cases e
structure aW(Pg:Program)(w:World)(K:PySem.W.Frag)(mg:Str->Option Value)(base:Heap)(k:Nat)(c:Call)(i:Nat)(x:Str)(np:Nat):Prop where ex:∃fa fd qs,m9 Pg w K mg base Fw k fa fd qs (JK K qs.length (c i))/\mg x=some (.ref fa)/\keepIn K (.ref fa)=true/\Binds K fd qs []/\qs.length=np
end
section
variable{X:Cx}{c:Call}{n k:Nat}{e a b:Expr}{es:List Expr}{p pa pb:P}{ps:List P}{pos:Pos}
theorem sv(i:Nat)(g:X.N[i]?=some x:=by rfl)(h:xQ X.env.scope x:=by first|exact Or.inl rfl|exact Or.inr (Or.inl rfl)|exact Or.inr (Or.inr rfl))(hd:(x==("__debug__":Str))=false:=by rfl)(f:(x==("__classdict__":Str))=false:=by rfl):SX X c (.Name x pos) (.var i):=RG g h hd f
theorem dz{np:Nat}(C:aW X.prog X.w X.K X.mg X.base k c i x np)(hr:jP k X.A)(h:SG X c (e::es) ps)(j:Gl X x:=by rfl)(l:(e::es).length=np:=by rfl)(f:(x==("__debug__":Str))=false:=by rfl)(he:starEach (e::es) X.env=(false,eval e X.env)::starEach es X.env:=by rfl)(hpl:(backTo pos (starEach es X.env)).any (·.1)=false:=by rfl)(g:ps.length=(e::es).length:=by rfl):SX X c (.Call (.Name x p') (e::es) [] pos) (.call i ps):=by obtain⟨u,fd,y,h1,o,q,r,t⟩:=C.ex;exact JR h1 hr j o q r h (l.trans t.symm) f he hpl g
noncomputable def MK(names outer:List (Str×NameKind))(N N':List Str)(n:Nat):Bool:=(names.all λy=>names.lookup y.1==some y.2)&&(names.all λy=>y.2!=.local||names.lookup y.1==some .local)&&(names.all λy=>y.2!=.free||outer.lookup y.1==some .cell||outer.lookup y.1==some .free)&&N'.length==N.length+n&&((N.zip N').all λp=>(p.1==p.2&&names.lookup p.2==some .free)||(names.lookup p.2!=some .local&&names.lookup p.2!=some .cell&&names.lookup p.2!=some .free))
theorem rE{scope:Scope}{N':List Str}(g:scope.kind=.function)(h:MK scope.names X.env.scope.names X.N N' n=true):fu X scope N' n:=by
 unfold MK at h;simp only[and_eq_true]at h;obtain⟨⟨⟨⟨h1,j⟩,l⟩,o⟩,q⟩:=h;refine⟨g,λy f=>eq_of_beq (all_eq_true.mp h1 y f),λy f e=>?_,λy f e=>?_,by simpa using o,q⟩;.have:=all_eq_true.mp j y f;rw[e]at this;simpa using this
 . have:=all_eq_true.mp l y f;rw[e]at this;simp only[or_eq_true]at this;rcases this with(z|z)|z;.cases z
   .exact .inl (eq_of_beq z)
   .exact .inr (eq_of_beq z)
theorem bj(h:jP k A):A.units+8<cLine:=by have:=h.un;omega
end
end HH
end
section
namespace PySem
open AutoSeq1(wpAny_loadPart')
section
variable{prog:Program}{w:World}{A:Around}{E:Value->Shared->Prop}{s:Shared}
theorem gQ{b l:Addr}{i:Nat}{items:Array Value}{x:Value}{Q:Value->Shared->Prop}(a:s.heap.IsTupleIter b l i)(f:s.heap.IsTuple l items)(g:items[i]?=some x)(h:∀h',h'.IsTupleIter b l (i+1)->SameBut b s.heap h'->Q x {s with heap:=h'}):wpAny (model prog w) A (nextOf (.ref b)) Q E s:=by obtain⟨o,ho,hc,hd⟩:=id a;obtain⟨j,c,_,k,e⟩:=f;unfold nextOf;refine wpAny_bind (wpAny_callSpecial?_slot (name:=Str.ofString "__next__") a.typeIs F.slot_tuple_iterator_next (wpAny_call_entry F.slot_tuple_iterator_next a.typeIs F.entry_tuple_iterator_next ?_ (F.args_tuple_iterator_next_1 _)));show wpAny _ _ (field (.ref b) 0>>=_) _ _ s;refine wpAny_bind (wpAny_field ho hd (x:=.ref l) rfl ?_);show wpAny _ _ (if(Value.ref l==Value.none)=true then _ else _) _ _ s;rw[if_neg (show ¬((Value.ref l==Value.none)=true)from Bool.false_ne_true)];show wpAny _ _ (field (.ref b) 1>>=_) _ _ s;refine wpAny_bind (wpAny_field ho hd (x:=.int i 0) rfl ?_);show wpAny _ _ (seqItems? (.ref l)>>=_) _ _ s;refine wpAny_bind (wpAny_seqItems c e ?_);simp only[Int.toNat_natCast,g];refine wpAny_bind (wpAny_setField ho hd (by simp) (wpAny_pure ⟨x,rfl,wpAny_pure (h _ ?_ (Heap.SameBut.update ..))⟩));exact⟨_,get?_update_self _ ho (Obj.isFreed_of_fields (Obj.data_mapFields hd _)),(Obj.cls_mapFields ..).trans hc,by rw[Obj.data_mapFields hd];simp[rawInt]⟩
theorem fB{c l:Addr}{i:Nat}{items:Array Value}{Q:Value->Shared->Prop}(h:A.handled=none)(b:s.heap.IsTupleIter c l i)(j:s.heap.IsTuple l items)(k:items[i]?=none)(n:∀h' e,Heap.ExtBut c s.heap h'->(∃o,h'.get? e=some o/\o.cls=.type "StopIteration")->E (.ref e) {s with heap:=h'}):wpAny (model prog w) A (nextOf (.ref c)) Q E s:=by
 obtain⟨o,ho,hc,hd⟩:=id b;obtain⟨p,f,_,q,g⟩:=j;unfold nextOf;refine wpAny_bind (wpAny_callSpecial?_slot (name:=Str.ofString "__next__") b.typeIs F.slot_tuple_iterator_next (wpAny_call_entry F.slot_tuple_iterator_next b.typeIs F.entry_tuple_iterator_next ?_ (F.args_tuple_iterator_next_1 _)));show wpAny _ _ (field (.ref c) 0>>=_) _ _ s;refine wpAny_bind (wpAny_field ho hd (x:=.ref l) rfl ?_);show wpAny _ _ (if(Value.ref l==Value.none)=true then _ else _) _ _ s;rw[if_neg (show ¬((Value.ref l==Value.none)=true)from Bool.false_ne_true)];show wpAny _ _ (field (.ref c) 1>>=_) _ _ s;refine wpAny_bind (wpAny_field ho hd (x:=.int i 0) rfl ?_);show wpAny _ _ (seqItems? (.ref l)>>=_) _ _ s;refine wpAny_bind (wpAny_seqItems f g ?_);simp only[Int.toNat_natCast,k];refine wpAny_bind (wpAny_rule (wpAny_bind (wpAny_setField ho hd (by simp) ?_)));show wpAny _ _ (newExc (.type "StopIteration") []>>=_) _ _ _;refine wpAny_bind ?_;simp only[newExc,newTuple];refine wpAny_bind (wpAny_newObj_type ?_ (by size_fits));refine wpAny_bind (m:=firstArgMember _ _) (wpAny_of_eq (a:=Value.none) (by first|rfl|(simp only[firstArgMember];rfl)) ?_);refine wpAny_newObj_type ?_ (by size_fits);simp only[raiseNew];refine wpAny_bind (wpAny_handled ?_);first|rw[show A.in1.handled=none from h]|rw[h]
 refine wpAny_bind (wpAny_pure (wpAny_throw ?_));exact n _ _ (((Heap.SameBut.update ..).extBut.push _).push _) ⟨_,get?_push_size _ rfl,rfl⟩
end
theorem jy(l:Addr)(items:Array Value)(n:Nat)(b:Option Addr)(sl:Array (Option Value)):Meets (Builtin.«enumerate.__new__» ⟨[.type "enumerate",.ref l],[]⟩) (λ_ R s=>s.heap.get? l=some {cls:=.type "tuple",dict:=b,data:=.seq items n,slots:=sl}/\R (.ok (.ret (.ref (s.heap.push {cls:=.type "tuple_iterator",data:=.fields #[.ref l,.int 0 0]}).objs.size))) {s with heap:=(s.heap.push {cls:=.type "tuple_iterator",data:=.fields #[.ref l,.int 0 0]}).push {cls:=.type "enumerate",data:=.fields #[.none,.bool false,.ref s.heap.objs.size,rawInt 0,.none,.none]}}):=.of_wp λprog w A R s h=>by
  obtain⟨i,g,d,j,os⟩:=s;obtain⟨a,h⟩:=h;have f:=sub_enumerate;have e:IsTuple (Shared.heap ⟨i,g,d,j,os⟩) l items:=⟨_,a,rfl,n,rfl⟩;wp_walk using wpAny_loadPart' a;refine wpAny_stack_any λst=>wpAny_pure ?_;split
  . rename_i c _ _ _ _ _;cases(c==Value.type "enumerate");.wp_walk using wpAny_loadPart' a,wpAny_pyIter_tuple e;exact⟨_,rfl,h⟩
    .wp_walk using wpAny_loadPart' a,wpAny_pyIter_tuple e;exact⟨_,rfl,h⟩
  .wp_walk using wpAny_loadPart' a,wpAny_pyIter_tuple e;exact⟨_,rfl,h⟩
section
variable{prog:Program}{w:World}{A:Around}{E:Value->Shared->Prop}{s:Shared}
theorem jt{l:Addr}{items:Array Value}{Q:Value->Shared->Prop}(e:s.heap.IsTuple l items)(h:∀ h',IsEnum h' (s.heap.objs.size+1) s.heap.objs.size 0 .none->h'.IsTupleIter s.heap.objs.size l 0->h'.objs.size=s.heap.objs.size+2->(∀b o,s.heap.get? b=some o->h'.get? b=some o)->Q (.ref (s.heap.objs.size+1)) {s with heap:=h'}):wpAny (model prog w) A (call (.type "enumerate") [.ref l]) Q E s:=by
 obtain⟨⟨c,a,dt,sl⟩,f,hc,n,hd⟩:=e;replace hc:c=.type "tuple":=hc;replace hd:dt=.seq items n:=hd;subst hc hd;refine callType_new F.called_enumerate (by decide) (F.typeCall_enumerate_1 _) (F.newCall_enumerate_1 _) (λobj=>F.args_object_init_2 obj _) F.entry_enumerate_new (jy l items n a sl) ⟨f,?_⟩;have hz:(s.heap.push {cls:=.type "tuple_iterator",data:=.fields #[.ref l,.int 0 0]}).objs.size=s.heap.objs.size+1:=size_push ..;show _/\_;rw[hz];have he:IsEnum ((s.heap.push {cls:=.type "tuple_iterator",data:=.fields #[.ref l,.int 0 0]}).push {cls:=.type "enumerate",data:=.fields #[.none,.bool false,.ref s.heap.objs.size,rawInt 0,.none,.none]}) (s.heap.objs.size+1) s.heap.objs.size 0 .none:=by have:=get?_push_size (s.heap.push {cls:=.type "tuple_iterator",data:=.fields #[.ref l,.int 0 0]}) (o:={cls:=.type "enumerate",data:=.fields #[.none,.bool false,.ref s.heap.objs.size,rawInt 0,.none,.none]}) rfl;rw[hz]at this;exact this
 refine⟨⟨_,he,rfl⟩,h _ he ⟨_,dR (get?_push_size _ rfl),rfl,rfl⟩ (by rw[size_push,hz]) λb o x=>dR (dR x)⟩
end
end PySem
end
section
namespace L2
open PySem PySem.Spec PyProof.Rows
variable{prog:Program}{w:World}{A:Around}
section
variable{X:Cx}{pins:List (Addr×Obj)}{σ:L2.St}{H:Hp}{s:Shared}
theorem Inv.yR{ch:List Addr}{h':Heap}{o:HO}{t':Nat}(I:Inv X pins σ H s)(k:∀b u,b∉ch->s.heap.get? b=some u->h'.get? b=some u)(l:∀b∈ch,∃u,h'.get? b=some u)(g:∀b∈ch,m8 X pins H b)(i:cz X.prog X.w (upd H s.heap.objs.size o) h' s.heap.objs.size o):Inv X pins σ (upd H s.heap.objs.size o) {s with heap:=h',toks:=t'}:=by
 have fr:H s.heap.objs.size=none:=I.hok.fresh (dm);have j:∀b u,H b=some u->b∉ch:=λb u e a=>by rw[(g b a).1]at e;cases e
 have h:∀b u,H b=some u->upd H s.heap.objs.size o b=some u:=λb u e=>by
  have:b≠s.heap.objs.size:=by rintro rfl;rw[fr]at e;cases e
  rw[aD this];exact e
 refine I.call (g':=s.gens) (d':=s.drawn) (ch:=ch) ⟨λb u e n _ f=>k b u f e,λb u e n _ f=>⟨u.slots,k b u f e⟩,λb u e n f=>?_,λb u e f=>⟨u,k b u f e⟩,λb xs e=>h b _ e,λb m u e=>h b _ e,λb ps e=>⟨#[],by rw[h b _ e];simp⟩⟩ ?_ I.bare λb a=>⟨(g b a).2.2.2.1,(g b a).2.1,(g b a).2.2.2.2.1,(g b a).2.2.2.2.2⟩;.have:b≠s.heap.objs.size:=ne_of_lt (lt_size e);rw[aD this];exact n
 . intro b u e;by_cases a:b=s.heap.objs.size;.subst a;rw[aM]at e;cases e;exact i
   . rw[aD a]at e;refine(I.hok b u e).stay (λc v hc q=>k c v ?_ q) (λc q=>h c _ q) λc xs q=>h c _ q;rcases hc with rfl|hc;.exact j _ _ e
     .exact j _ _ hc
end
noncomputable def yZ(K:PySem.W.Frag)(a:Addr):It:=⟨λi H=>∃xs x,dN K H a xs/\xs[i]?=some x,λi H x b=>∃T v,H T=none/\x=.ref T/\b=upd H T (.tup [.int (i:Int),v])/\∀xs,dN K H a xs->xs[i]?=some v,λi H=>∃xs,dN K H a xs/\xs.length<=i⟩
theorem Rc(g:A.handled=none)(a l:Addr)(e:l≠a)(items:Array Value):Draws prog w A a [a,l] items.size (λi v=>items[i]?=some v) (λi h=>h.IsListIter a l i/\h.IsList l items)where
 live:=λ_ _ st=>let⟨o,ho,_⟩:=st.1;⟨o,ho⟩;frame:=λ_ _ _ st f=>⟨(let⟨o,ho,r⟩:=st.1;⟨o,f a (by simp) o ho,r⟩),(let⟨o,ho,r⟩:=st.2;⟨o,f l (by simp) o ho,r⟩)⟩;item:=λi s Q E hi st j=>by refine wpAny_nextOf_list_item st.1 st.2 (x:=items[i]) (by simp[hi]) λh' b c=>?_;exact j _ h' s.toks (by simp[hi]) ⟨b,(let⟨o,ho,r⟩:=st.2;⟨o,c.extBut l o e ho,r⟩)⟩ c
 done:=λs Q E st k=>wpAny_nextOf_list_end g st.1 st.2 (by simp) k
theorem CQ(c:A.handled=none)(a l:Addr)(items:Array Value)(n:Nat)(e:items.size<=n):Draws prog w A a [a,l] n (λ_ _=>True) (λi h=>i=n/\h.IsListIter a l i/\h.IsList l items)where live:=λ_ _ st=>let⟨o,ho,_⟩:=st.2.1;⟨o,ho⟩;frame:=λ_ _ _ st b=>⟨st.1,(let⟨o,ho,r⟩:=st.2.1;⟨o,b a (by simp) o ho,r⟩),(let⟨o,ho,r⟩:=st.2.2;⟨o,b l (by simp) o ho,r⟩)⟩;item:=λi s Q E hi st g=>absurd st.1 (ne_of_lt hi);done:=λs Q E st f=>wpAny_nextOf_list_end c st.2.1 st.2.2 (by simp;exact e) f
theorem Cj{P:Program}{K:PySem.W.Frag}{t:List Expr}{x1}{tp:Pos}(a c e:Addr)(n:e≠c):Turn P w K (.Tuple t x1 tp) (yZ K a) [e,c] e (λi h=>(∃j,IsEnum h e c (i:Int) j)/\h.IsListIter c a i)where
 mem:=by simp
 obj:=λi h st b hb=>by
  obtain⟨⟨j,h1⟩,o,l,J,h4⟩:=st;rcases mem_cons.mp hb with rfl|hb;.exact⟨_,h1,λv z=>by cases z⟩
  . have:b=c:=by simpa using hb
    subst this;exact⟨o,l,λv z=>by rw[h4]at z;cases z⟩
 keep:=λi h h' st k=>by obtain⟨⟨j,h1⟩,o,l,J⟩:=st;exact⟨⟨j,k e (by simp) _ h1⟩,o,k c (by simp) _ l,J⟩
 item:=λX hP hw hK hc i B s σ H E I L st go=>by
  subst hP hw hK;obtain⟨⟨j,he⟩,m⟩:=st;obtain⟨xs,x,M,C⟩:=go;obtain⟨g,N,pl,hz⟩:=I.list M;have O:s.heap.IsList a g.toArray:=pl.isList;obtain⟨oa,U,p,_⟩:=id O;have ac:e≠a:=by rintro rfl;rw[he]at U;cases U;exact absurd (show Value.type "enumerate"=Value.type _ from p) (by decide)
  have ae:a≠c:=by rintro rfl;obtain⟨o,l,J,_⟩:=id m;rw[l]at U;cases U;rw[J]at p;exact absurd p (by decide)
  have af:i<g.toArray.size:=by rw[size_toArray,<-N.length];exact(eX C).1
  refine wpAny_pyNext_enum_itemD (Rc (show X.A.in1.handled=none from I.ok.hd hc) c a ae g.toArray) he ⟨m,O⟩ af n (by simp[n,ac]) λy h' tk Y ag hst ht hsz kp=>?_;refine⟨_,rfl,wpAny_letOwnedTupleGo_enum ag λG Jm Z=>?_⟩;obtain⟨u,ah,ai⟩:=N.get C;have al:y=u:=by
   have Y:g[i]?=some y:=by simpa using Y
   rw[ah]at Y;cases Y;rfl
  subst al;have hT:∀b∈[e,c],b≠s.heap.objs.size:=λb hb=>by
   rcases mem_cons.mp hb with rfl|hb;.exact ne_of_lt (lt_size he)
   . have:b=c:=by simpa using hb
     subst this;obtain⟨o,l,_⟩:=id m;exact ne_of_lt (lt_size l)
  have am:s.heap.objs.size≠e:=(hT e (by simp)).symm;have Vv:∀b o,b∉[e,c]->s.heap.get? b=some o->G.get? b=some o:=λb o hb q=>by have h1:b≠e:=λz=>hb (by simp[z]);have l:b≠c:=λz=>hb (by simp[z]);exact Z.extBut b o h1 (kp b o h1 l q)
  have xN:G.get? s.heap.objs.size=some {cls:=.type "tuple",data:=.seq #[.int i tk,y]}:=Z.extBut _ _ am ht;refine⟨.ref s.heap.objs.size,upd H s.heap.objs.size (.tup [.int (i:Int),x]),?_,rfl,⟨_,x,I.fresh,rfl,rfl,λys ap=>?_⟩,⟨⟨_,Jm⟩,?_⟩,λb hb=>?_⟩
  . refine I.yR (ch:=[e,c]) (t':=tk+1) Vv (λb hb=>?_) (λb hb=>(L b hb)) ⟨(by show 2<=sizeLine;decide),[.int i tk,y],.cons ⟨_,rfl⟩ (.cons ai .nil),⟨_,xN,rfl,_,rfl⟩⟩;rcases mem_cons.mp hb with rfl|hb;.exact⟨_,Jm⟩
    . have:b=c:=by simpa using hb
      subst this;obtain⟨o,l,_⟩:=id hst.1;exact⟨o,Z.extBut _ _ (Ne.symm n) l⟩
  .rw[I.mK ap M];exact C
  .obtain⟨o,l,r⟩:=hst.1;exact⟨o,Z.extBut _ _ (Ne.symm n) l,r⟩
  .rw[aD (hT b hb)];exact(L b hb).1
 done:=λX hP hw hK hc i B s σ H E I L st stop=>by subst hP hw hK;obtain⟨⟨j,he⟩,m⟩:=st;obtain⟨xs,M,C⟩:=stop;obtain⟨g,N,pl,hz⟩:=I.list M;have O:s.heap.IsList a g.toArray:=pl.isList;refine wpAny_pyNext_enum_endD (CQ (show X.A.in1.handled=none from I.ok.hd hc) c a g.toArray i (by rw[size_toArray,<-N.length];exact C)) he ⟨rfl,m,O⟩ λh' hs=>⟨rfl,?_⟩;have f:=L c (by simp);exact I.turned (t':=s.toks) (λb o hb q=>hs b o hb q) f.1 f.2.1 f.2.2.2.1 f.2.2.2.2.1 f.2.2.2.2.2
 self:=λA i s Q E st q=>wpAny_pyIter_enum st.1.choose_spec q
noncomputable def yO(K:PySem.W.Frag)(a:Addr):It:=⟨λi H=>∃xs x,iB K H a xs/\xs[i]?=some x,λi H x b=>∃T v,H T=none/\x=.ref T/\b=upd H T (.tup [.int (i:Int),v])/\∀xs,iB K H a xs->xs[i]?=some v,λi H=>∃xs,iB K H a xs/\xs.length<=i⟩
theorem QQ(g:A.handled=none)(a l:Addr)(e:l≠a)(items:Array Value):Draws prog w A a [a,l] items.size (λi v=>items[i]?=some v) (λi h=>h.IsTupleIter a l i/\h.IsTuple l items)where
 live:=λ_ _ st=>let⟨o,ho,_⟩:=st.1;⟨o,ho⟩;frame:=λ_ _ _ st f=>⟨(let⟨o,ho,r⟩:=st.1;⟨o,f a (by simp) o ho,r⟩),(let⟨o,ho,r⟩:=st.2;⟨o,f l (by simp) o ho,r⟩)⟩;item:=λi s Q E hi st j=>by refine gQ st.1 st.2 (x:=items[i]) (by simp[hi]) λh' b c=>?_;exact j _ h' s.toks (by simp[hi]) ⟨b,(let⟨o,ho,r⟩:=st.2;⟨o,c.extBut l o e ho,r⟩)⟩ c
 done:=λs Q E st k=>fB g st.1 st.2 (by simp) k
theorem Cq(c:A.handled=none)(a l:Addr)(items:Array Value)(n:Nat)(e:items.size<=n):Draws prog w A a [a,l] n (λ_ _=>True) (λi h=>i=n/\h.IsTupleIter a l i/\h.IsTuple l items)where live:=λ_ _ st=>let⟨o,ho,_⟩:=st.2.1;⟨o,ho⟩;frame:=λ_ _ _ st b=>⟨st.1,(let⟨o,ho,r⟩:=st.2.1;⟨o,b a (by simp) o ho,r⟩),(let⟨o,ho,r⟩:=st.2.2;⟨o,b l (by simp) o ho,r⟩)⟩;item:=λi s Q E hi st g=>absurd st.1 (ne_of_lt hi);done:=λs Q E st f=>fB c st.2.1 st.2.2 (by simp;exact e) f
theorem Dj{P:Program}{K:PySem.W.Frag}{t:List Expr}{x1}{tp:Pos}(a c e:Addr)(n:e≠c):Turn P w K (.Tuple t x1 tp) (yO K a) [e,c] e (λi h=>(∃j,IsEnum h e c (i:Int) j)/\h.IsTupleIter c a i)where
 mem:=by simp
 obj:=λi h st b hb=>by
  obtain⟨⟨j,h1⟩,o,l,J,h4⟩:=st;rcases mem_cons.mp hb with rfl|hb;.exact⟨_,h1,λv z=>by cases z⟩
  . have:b=c:=by simpa using hb
    subst this;exact⟨o,l,λv z=>by rw[h4]at z;cases z⟩
 keep:=λi h h' st k=>by obtain⟨⟨j,h1⟩,o,l,J⟩:=st;exact⟨⟨j,k e (by simp) _ h1⟩,o,k c (by simp) _ l,J⟩
 item:=λX hP hw hK hc i B s σ H E I L st go=>by
  subst hP hw hK;obtain⟨⟨j,he⟩,m⟩:=st;obtain⟨xs,x,M,C⟩:=go;obtain⟨g,N,pl,hz⟩:=I.tuple M;have O:s.heap.IsTuple a g.toArray:=pl;obtain⟨oa,U,p,_⟩:=id O;have ac:e≠a:=by rintro rfl;rw[he]at U;cases U;exact absurd (show Value.type "enumerate"=Value.type _ from p) (by decide)
  have ae:a≠c:=by rintro rfl;obtain⟨o,l,J,_⟩:=id m;rw[l]at U;cases U;rw[J]at p;exact absurd p (by decide)
  have af:i<g.toArray.size:=by rw[size_toArray,<-N.length];exact(eX C).1
  refine wpAny_pyNext_enum_itemD (QQ (show X.A.in1.handled=none from I.ok.hd hc) c a ae g.toArray) he ⟨m,O⟩ af n (by simp[n,ac]) λy h' tk Y ag hst ht hsz kp=>?_;refine⟨_,rfl,wpAny_letOwnedTupleGo_enum ag λG Jm Z=>?_⟩;obtain⟨u,ah,ai⟩:=N.get C;have al:y=u:=by
   have Y:g[i]?=some y:=by simpa using Y
   rw[ah]at Y;cases Y;rfl
  subst al;have hT:∀b∈[e,c],b≠s.heap.objs.size:=λb hb=>by
   rcases mem_cons.mp hb with rfl|hb;.exact ne_of_lt (lt_size he)
   . have:b=c:=by simpa using hb
     subst this;obtain⟨o,l,_⟩:=id m;exact ne_of_lt (lt_size l)
  have am:s.heap.objs.size≠e:=(hT e (by simp)).symm;have Vv:∀b o,b∉[e,c]->s.heap.get? b=some o->G.get? b=some o:=λb o hb q=>by have h1:b≠e:=λz=>hb (by simp[z]);have l:b≠c:=λz=>hb (by simp[z]);exact Z.extBut b o h1 (kp b o h1 l q)
  have xN:G.get? s.heap.objs.size=some {cls:=.type "tuple",data:=.seq #[.int i tk,y]}:=Z.extBut _ _ am ht;refine⟨.ref s.heap.objs.size,upd H s.heap.objs.size (.tup [.int (i:Int),x]),?_,rfl,⟨_,x,I.fresh,rfl,rfl,λys ap=>?_⟩,⟨⟨_,Jm⟩,?_⟩,λb hb=>?_⟩
  . refine I.yR (ch:=[e,c]) (t':=tk+1) Vv (λb hb=>?_) (λb hb=>(L b hb)) ⟨(by show 2<=sizeLine;decide),[.int i tk,y],.cons ⟨_,rfl⟩ (.cons ai .nil),⟨_,xN,rfl,_,rfl⟩⟩;rcases mem_cons.mp hb with rfl|hb;.exact⟨_,Jm⟩
    . have:b=c:=by simpa using hb
      subst this;obtain⟨o,l,_⟩:=id hst.1;exact⟨o,Z.extBut _ _ (Ne.symm n) l⟩
  .rw[I.j6 ap M];exact C
  .obtain⟨o,l,r⟩:=hst.1;exact⟨o,Z.extBut _ _ (Ne.symm n) l,r⟩
  .rw[aD (hT b hb)];exact(L b hb).1
 done:=λX hP hw hK hc i B s σ H E I L st stop=>by subst hP hw hK;obtain⟨⟨j,he⟩,m⟩:=st;obtain⟨xs,M,C⟩:=stop;obtain⟨g,N,pl,hz⟩:=I.tuple M;have O:s.heap.IsTuple a g.toArray:=pl;refine wpAny_pyNext_enum_endD (Cq (show X.A.in1.handled=none from I.ok.hd hc) c a g.toArray i (by rw[size_toArray,<-N.length];exact C)) he ⟨rfl,m,O⟩ λh' hs=>⟨rfl,?_⟩;have f:=L c (by simp);exact I.turned (t':=s.toks) (λb o hb q=>hs b o hb q) f.1 f.2.1 f.2.2.2.1 f.2.2.2.2.1 f.2.2.2.2.2
 self:=λA i s Q E st q=>wpAny_pyIter_enum st.1.choose_spec q
section
variable{X:Cx}{elts:List Expr}{x1:Nat}{tp:Pos}
def acg(K:PySem.W.Frag)(c:TE):TI:=λσ H R=>c σ H λx b=>∃a,x=.ref a/\(((∃xs,dN K b a xs)/\R (yZ K a) b)\/((∃xs,iB K b a xs)/\R (yO K a) b))
theorem boot_enumerate:bootBuiltins "enumerate"=some (.type "enumerate"):=by decide+kernel
theorem P0{a:Expr}{t:TE}{p pos:Pos}(v:Gl X "enumerate")(y:X.mg "enumerate"=none)(z:PE X a t)(hs:starEach [a] X.env=[(false,eval a X.env)]:=by rfl):PI X (.Tuple elts x1 tp) (.Call (.Name "enumerate" p) [a] [] pos) (acg X.K t):=by
 intro e s σ H R I h;refine Call_ (gW I v y boot_enumerate (PyProof.Rows.callWith_type1 (cB ((bW z eU hs) pos e s σ H (λvs c=>match vs with|[x]=>∃a,x=.ref a/\(((∃xs,dN X.K c a xs)/\R (yZ X.K a) c)\/((∃xs,iB X.K c a xs)/\R (yO X.K a) c))|_=>False) I h) ?_) hs rfl));rintro E s1⟨vs,c,f,r1,j⟩
 . obtain⟨ad,q,k⟩:∃ad,(((∃xs,dN X.K c ad xs)/\R (yZ X.K ad) c)\/((∃xs,iB X.K c ad xs)/\R (yO X.K ad) c))/\vs=[.ref ad]:=by cases vs with|nil=>cases j|cons x r=>cases r with|nil=>obtain⟨ad,rfl,q⟩:=j;exact⟨ad,q,rfl⟩|cons _ _=>cases j
   subst k;obtain⟨u,rfl,B⟩:=r1.one;cases B;have fin:∀(h':Heap)(i:Nat->Heap->Prop)(J:It),Turn X.prog X.w X.K (.Tuple elts x1 tp) J [s1.heap.objs.size+1,s1.heap.objs.size] (s1.heap.objs.size+1) i->i 0 h'->IsEnum h' (s1.heap.objs.size+1) s1.heap.objs.size 0 .none->(∀b o,s1.heap.get? b=some o->h'.get? b=some o)->R J c->wpAny (model X.prog X.w) X.A (pyIter (.ref (s1.heap.objs.size+1))) (PIE X e σ (.Tuple elts x1 tp) R) X.xe {s1 with heap:=h'}:=λh' i J T t0 he kp q=>by
    refine wpAny_pyIter_enum he ⟨_,_,i,J,c,rfl,f.kept (t':=s1.toks) kp,T,t0,λb hb=>?_,q⟩;have g:s1.heap.objs.size<=b:=by
     rcases mem_cons.mp hb with rfl|hb;.exact Nat.le_succ _
     . have:b=s1.heap.objs.size:=by simpa using hb
       rw[this];exact dm
    exact f.yG g (f.hok.fresh g)
   rcases q with⟨⟨xs,l⟩,q⟩|⟨⟨xs,l⟩,q⟩;.obtain⟨m,C,n,hz⟩:=f.list l;exact call_enumerate_list n.isList λh' he hi hsz kp=>fin h' _ _ (Cj ad s1.heap.objs.size (s1.heap.objs.size+1) (Nat.succ_ne_self _)) ⟨⟨_,he⟩,hi⟩ he kp q
   .obtain⟨m,C,n,hz⟩:=f.tuple l;exact jt n λh' he hi hsz kp=>fin h' _ _ (Dj ad s1.heap.objs.size (s1.heap.objs.size+1) (Nat.succ_ne_self _)) ⟨⟨_,he⟩,hi⟩ he kp q
end
end L2
namespace HH
open PySem L2 PySem.Spec PyProof.Rows
section
variable{K:PySem.W.Frag}{F F1 H H1:Hp}{ρ ρ1:List Sl}{σ:L2.St}{ds:List D}{a:Addr}
theorem pM{c e:Hp}{T:Addr}{v w:V}{d1 d2:D}(g:aG c e)(h:e T=none)(r1:Rep K c v d1)(i:Rep K c w d2):∃b,Ext c e b (upd e T (.tup [v,w]))/\Rep K b (.ref T) (.tup [d1,d2]):=za (Q:=λv f=>∃b,Ext c e b f/\Rep K b v (.tup [d1,d2])) g (.cons r1 (.cons i .nil)) h λv b f x j=>⟨b,x,j⟩
theorem Ge{xs:List V}{e b:Hp}(f:dN K b a xs)(r:aF K e xs ds)(s:aG e b)(k:Nat):(∀d,(ds.mapIdx λi d=>D.tup [.int (i:Int),d])[k]?=some d->(yZ K a).go k b/\∀x g,(yZ K a).Jf k b x g->∃c,Ext e b c g/\Rep K c x d)/\((ds.mapIdx λi d=>D.tup [.int (i:Int),d]).length<=k->(yZ K a).stop k b):=by refine⟨λd hd=>?_,λh=>⟨xs,f,by rw[r.length];simpa using h⟩⟩;rw[List.getElem?_mapIdx]at hd;obtain⟨d0,j,l⟩:=map_some hd;subst l;obtain⟨w,h1,m⟩:=r.get j;refine⟨⟨xs,w,f,h1⟩,?_⟩;rintro x g⟨T,v,n,o,p,y⟩;subst o;subst p;have:=y xs f;rw[h1]at this;cases this;exact pM s n (bC _) m
theorem IK{xs:List V}{e b:Hp}(f:iB K b a xs)(r:aF K e xs ds)(s:aG e b)(k:Nat):(∀d,(ds.mapIdx λi d=>D.tup [.int (i:Int),d])[k]?=some d->(yO K a).go k b/\∀x g,(yO K a).Jf k b x g->∃c,Ext e b c g/\Rep K c x d)/\((ds.mapIdx λi d=>D.tup [.int (i:Int),d]).length<=k->(yO K a).stop k b):=by refine⟨λd hd=>?_,λh=>⟨xs,f,by rw[r.length];simpa using h⟩⟩;rw[List.getElem?_mapIdx]at hd;obtain⟨d0,j,l⟩:=map_some hd;subst l;obtain⟨w,h1,m⟩:=r.get j;refine⟨⟨xs,w,f,h1⟩,?_⟩;rintro x g⟨T,v,n,o,p,y⟩;subst o;subst p;have:=y xs f;rw[h1]at this;cases this;exact pM s n (bC _) m
end
section
variable{X:Cx}{c:Call}{e a:Expr}{pa:P}{pos:Pos}{elts:List Expr}{x1:Nat}{tp:Pos}
theorem Ig{x:Str}{A:Pos}(B:x="enumerate")(C:Gl X x)(E:X.mg x=none)(G:SX X c a pa)(hs:starEach [a] X.env=[(false,eval a X.env)]:=by rfl):SI X c (.Tuple elts x1 tp) (.Call (.Name x A) [a] [] pos) (.Vt pa):=by subst B;refine kJ (P0 C E G.ev hs) ?_;rintro σ H R⟨F,ρ,ds,I,g,e,k⟩;obtain⟨r,J,w,j⟩:=aj e;have m:=aB j;clear j;obtain⟨j,L⟩:=m;subst L;rw[HH.E21]at w;obtain⟨r0,h,M,l⟩:=aj w;have m:=aB l;clear l;obtain⟨l,N⟩:=m;subst N;obtain⟨es,f1,f2⟩:=map_some l;subst f2;cases j;refine⟨F,ρ,r0,_,g,M,λv y z s i=>?_⟩;obtain⟨F2,s2,_,f⟩:=s.cM i;cases hd:r0.d with|tup o=>rw[hd]at f1 f;cases f1;rw[Rep]at f;obtain⟨ad,xs,rfl,h1,p⟩:=f;exact⟨ad,rfl,.inr ⟨⟨xs,aG.gF s2.gs.sub h1⟩,k _ _ _ ⟨s2.gs,λn k y q t z b=>IK (aG.gF b.gs.sub (aG.gF b.bU h1)) (p.mono b.bU) b.gs.sub k,λO h u Q s3=>⟨s2.trans s3,λv r i=>i.later s2⟩⟩⟩⟩|lst o=>rw[hd]at f1 f;cases f1;rw[Rep]at f;obtain⟨ad,xs,rfl,h1,p⟩:=f;exact⟨ad,rfl,.inl ⟨⟨xs,s2.gs.sub.seq h1⟩,k _ _ _ ⟨s2.gs,λn k y q t z b=>Ge (b.gs.sub.seq (b.bU.seq h1)) (p.mono b.bU) b.gs.sub k,λO h u Q s3=>⟨s2.trans s3,λv r i=>i.later s2⟩⟩⟩⟩|_=>rw[hd]at f1;cases f1
end
end HH
end
section
namespace PySem
structure Nx(prog:Program)(w:World)(A:Around)(it src:Addr)(Sx:Nat->Heap->Prop)(get:Nat->Option Value):Prop where
 obj:∀k h,Sx k h->∃o,h.get? it=some o/\∀v,o.data≠.cell v
 keep:∀k h h',Sx k h->(∀o,h.get? it=some o->h'.get? it=some o)->(∀o,h.get? src=some o->h'.get? src=some o)->Sx k h'
 item:∀k(s:Shared)(Q:Value->Shared->Prop)(E:Value->Shared->Prop)x,Sx k s.heap->get k=some x->(∀h',Sx (k+1) h'->SameBut it s.heap h'->Q x {s with heap:=h'})->wpAny (model prog w) A (nextOf (.ref it)) Q E s
 fin:∀k(s:Shared)(Q:Value->Shared->Prop)(E:Value->Shared->Prop),Sx k s.heap->get k=none->(∀h' e,Heap.ExtBut it s.heap h'->(∃o,h'.get? e=some o/\o.cls=.type "StopIteration")->E (.ref e) {s with heap:=h'})->wpAny (model prog w) A (nextOf (.ref it)) Q E s
variable{Q:Value->Shared->Prop}{l1 l2:Addr}{xs ys:Array Value}
section
variable{prog:Program}{w:World}{A:Around}{E:Value->Shared->Prop}{s:Shared}
theorem Nx.list(i:A.handled=none)(c l:Addr)(e:l≠c)(items:Array Value):Nx prog w A c l (λk h=>h.IsListIter c l k/\h.IsList l items) (λk=>items[k]?)where obj:=λk h st=>let⟨o,h1,_,h3⟩:=st.1;⟨o,h1,λv z=>by rw[h3]at z;cases z⟩;keep:=λk h h' st a b=>⟨(let⟨o,ho,r⟩:=st.1;⟨o,a o ho,r⟩),(let⟨o,ho,r⟩:=st.2;⟨o,b o ho,r⟩)⟩;item:=λk s Q E x st f j=>wpAny_nextOf_list_item st.1 st.2 f λh' g hs=>j h' ⟨g,(let⟨o,ho,r⟩:=st.2;⟨o,hs.extBut l o e ho,r⟩)⟩ hs;fin:=λk s Q E st f m=>wpAny_nextOf_list_end i st.1 st.2 f m
theorem Nx.tuple(i:A.handled=none)(c l:Addr)(e:l≠c)(items:Array Value):Nx prog w A c l (λk h=>h.IsTupleIter c l k/\h.IsTuple l items) (λk=>items[k]?)where obj:=λk h st=>let⟨o,h1,_,h3⟩:=st.1;⟨o,h1,λv z=>by rw[h3]at z;cases z⟩;keep:=λk h h' st a b=>⟨(let⟨o,ho,r⟩:=st.1;⟨o,a o ho,r⟩),(let⟨o,ho,r⟩:=st.2;⟨o,b o ho,r⟩)⟩;item:=λk s Q E x st f j=>gQ st.1 st.2 f λh' g hs=>j h' ⟨g,(let⟨o,ho,r⟩:=st.2;⟨o,hs.extBut l o e ho,r⟩)⟩ hs;fin:=λk s Q E st f m=>fB i st.1 st.2 f m
variable{z TI TO i1 i2 l1 l2:Addr}{k:Nat}{S1 S2:Nat->Heap->Prop}{g1 g2:Nat->Option Value}{a b:Value}
theorem DR{x y:Value}(D:ZipApart z TI TO i1 i2 l1 l2)(t:Nx prog w A i1 l1 S1 g1)(u:Nx prog w A i2 l2 S2 g2)(hz:IsZip s.heap z TI TO .none)(G:IsPair s.heap TI (.ref i1) (.ref i2))(H:IsPair s.heap TO a b)(h1:S1 k s.heap)(W:S2 k s.heap)(X:g1 k=some x)(Y:g2 k=some y)(Z:∀ h',IsZip h' z TI TO (rawInt s.heap.objs.size)->IsPair h' TO x y->S1 (k+1) h'->S2 (k+1) h'->IsPair h' s.heap.objs.size x y->h'.objs.size=s.heap.objs.size+1->(∀c o,c≠z->c≠TO->c≠i1->c≠i2->s.heap.get? c=some o->h'.get? c=some o)->Q (.ref s.heap.objs.size) {s with heap:=h'}):wpAny (model prog w) A (Builtin.«zip.__next__» ⟨[.ref z],[]⟩) (λfin s'=>∃v,fin=.done (.ret v)/\Q v s') E s:=by
 show wpAny _ _ (field (.ref z) 2>>=_) _ _ _;refine wpAny_bind (wpAny_field hz rfl (x:=.bool false) rfl ?_);show wpAny _ _ (field (.ref z) 3>>=_) _ _ _;refine wpAny_bind (wpAny_field hz rfl (x:=.ref TI) rfl (wpAny_bind (wpAny_seqItems G rfl ?_)));show wpAny _ _ (ownedTupleIsFree (.ref z)>>=_) _ _ _;refine wpAny_bind ?_;unfold ownedTupleIsFree;refine wpAny_bind (wpAny_field hz rfl (x:=.none) rfl (wpAny_pure ?_));simp only[if_true];refine wpAny_bind (wpAny_rule (wpAny_bind (wpAny_field hz rfl (x:=.ref TO) rfl (wpAny_bind (wpAny_setField_rec hz (by simp) λt1 I g=>?_)))));have I:IsZip t1 z TI TO .ellipsis:=I;refine wpAny_bind ?_;simp only[List.zipIdx_cons,List.zipIdx_nil,forIn_cons,forIn_nil];refine wpAny_bind (wpAny_bind (wpAny_onRaise ?_));show wpAny _ _ (nextOf (.ref i1)>>=_) _ _ _;have q1:S1 k t1:=t.keep _ _ _ h1 (λo e=>g.extBut _ _ D.i1z e) λo e=>g.extBut _ _ D.l1z e;refine wpAny_bind (t.item k _ _ _ x q1 X λt2 q2 m=>wpAny_pure ?_);have p2:IsPair t2 TO a b:=m.extBut _ _ D.TOi1 (g.extBut _ _ D.TOz H);refine wpAny_bind (wpAny_seqItems p2 rfl (wpAny_bind (wpAny_updateSeq_pair p2 λL p3 h=>?_)));have p3:IsPair L TO x b:=p3;refine wpAny_bind (wpAny_letGo (wpAny_pure (wpAny_bind (wpAny_bind (wpAny_onRaise ?_)))));show wpAny _ _ (nextOf (.ref i2)>>=_) _ _ _;have w3:S2 k L:=u.keep _ _ _ W (λo e=>h.extBut _ _ D.TOi2.symm (m.extBut _ _ D.i12.symm (g.extBut _ _ D.i2z e))) λo e=>h.extBut _ _ D.l2TO (m.extBut _ _ D.l2i1 (g.extBut _ _ D.l2z e));refine wpAny_bind (u.item k _ _ _ y w3 Y λt4 w4 n=>wpAny_pure ?_);have M:IsPair t4 TO x b:=n.extBut _ _ D.TOi2 p3;refine wpAny_bind (wpAny_seqItems M rfl (wpAny_bind (wpAny_updateSeq_pair M λf B i=>?_)));have B:IsPair f TO x y:=B;refine wpAny_bind (wpAny_letGo (wpAny_pure (wpAny_pure (wpAny_bind (wpAny_seqItems B rfl (wpAny_bind (wpAny_newTuple ?_)))))));have hsz:f.objs.size=s.heap.objs.size:=by rw[i.1,n.1,h.1,m.1,g.1]
 have N:IsZip f z TI TO .ellipsis:=i.extBut _ _ D.TOz.symm (n.extBut _ _ D.i2z.symm (h.extBut _ _ D.TOz.symm (m.extBut _ _ D.i1z.symm I)));have kp:∀c o,c≠z->c≠TO->c≠i1->c≠i2->s.heap.get? c=some o->f.get? c=some o:=λc o c1 c2 c3 c4 e=>i.extBut _ _ c2 (n.extBut _ _ c4 (h.extBut _ _ c2 (m.extBut _ _ c3 (g.extBut _ _ c1 e))));have q5:S1 (k+1) f:=t.keep _ _ _ q2 (λo e=>i.extBut _ _ D.TOi1.symm (n.extBut _ _ D.i12 (h.extBut _ _ D.TOi1.symm e))) λo e=>i.extBut _ _ D.l1TO (n.extBut _ _ D.l1i2 (h.extBut _ _ D.l1TO e));have w5:S2 (k+1) f:=u.keep _ _ _ w4 (λo e=>i.extBut _ _ D.TOi2.symm e) λo e=>i.extBut _ _ D.l2TO e;have q:z<f.objs.size:=lt_size N;show wpAny _ _ (ownedTupleHandOut (.ref z) (.ref f.objs.size)>>=_) _ _ _;refine wpAny_bind ?_;unfold ownedTupleHandOut;have z6:IsZip (f.push {cls:=.type "tuple",data:=.seq #[x,y]}) z TI TO .ellipsis:=dR N;refine wpAny_bind (wpAny_setField_rec z6 (by simp) λt7 J j=>?_);have J:IsZip t7 z TI TO (rawInt f.objs.size):=J;refine wpAny_setField_rec J (by simp) λr C l=>?_;have C:IsZip r z TI TO (rawInt f.objs.size):=C;have p:∀c o,c≠z->f.get? c=some o->r.get? c=some o:=λc o c1 e=>l.extBut _ _ c1 (j.extBut _ _ c1 (dR e));have O:IsPair r f.objs.size x y:=l.extBut _ _ (Nat.ne_of_gt q) (j.extBut _ _ (Nat.ne_of_gt q) (get?_push_size _ rfl));have U:r.objs.size=f.objs.size+1:=by rw[l.1,j.1,size_push]
 rw[hsz]at C O U;refine wpAny_pure ⟨_,rfl,?_⟩;show Q (.ref f.objs.size) _;rw[hsz];exact Z r C (p _ _ D.TOz B) (t.keep _ _ _ q5 (λo e=>p _ o D.i1z e) λo e=>p _ o D.l1z e) (u.keep _ _ _ w5 (λo e=>p _ o D.i2z e) λo e=>p _ o D.l2z e) O U λc o c1 c2 c3 c4 e=>p c o c1 (kp c o c1 c2 c3 c4 e)
theorem Hm{Q:Fin->Shared->Prop}(D:ZipApart z TI TO i1 i2 l1 l2)(q:Nx prog w A i1 l1 S1 g1)(y:Nx prog w A i2 l2 S2 g2)(hz:IsZip s.heap z TI TO .none)(r:IsPair s.heap TI (.ref i1) (.ref i2))(t:IsPair s.heap TO a b)(h1:S1 k s.heap)(L:S2 k s.heap)(n:g1 k=none\/g2 k=none)(B:∀h' e,(∀c o,c≠z->c≠TO->c≠i1->c≠i2->s.heap.get? c=some o->h'.get? c=some o)->(∃o,h'.get? e=some o/\o.cls=.type "StopIteration")->E (.ref e) {s with heap:=h'}):wpAny (model prog w) A (Builtin.«zip.__next__» ⟨[.ref z],[]⟩) Q E s:=by
 show wpAny _ _ (field (.ref z) 2>>=_) _ _ _;refine wpAny_bind (wpAny_field hz rfl (x:=.bool false) rfl ?_);show wpAny _ _ (field (.ref z) 3>>=_) _ _ _;refine wpAny_bind (wpAny_field hz rfl (x:=.ref TI) rfl (wpAny_bind (wpAny_seqItems r rfl ?_)));show wpAny _ _ (ownedTupleIsFree (.ref z)>>=_) _ _ _;refine wpAny_bind ?_;unfold ownedTupleIsFree;refine wpAny_bind (wpAny_field hz rfl (x:=.none) rfl (wpAny_pure ?_));simp only[if_true];refine wpAny_bind (wpAny_rule (wpAny_bind (wpAny_field hz rfl (x:=.ref TO) rfl (wpAny_bind (wpAny_setField_rec hz (by simp) λt1 p j=>?_)))));have p:IsZip t1 z TI TO .ellipsis:=p;refine wpAny_bind ?_;simp only[List.zipIdx_cons,List.zipIdx_nil,forIn_cons,forIn_nil];refine wpAny_bind (wpAny_bind (wpAny_onRaise ?_));show wpAny _ _ (nextOf (.ref i1)>>=_) _ _ _
 have C:S1 k t1:=q.keep _ _ _ h1 (λo e=>j.extBut _ _ D.i1z e) λo e=>j.extBut _ _ D.l1z e;cases hx:g1 k with|none=>
   refine wpAny_bind (q.fin k _ _ _ C hx λt2 e i he=>?_);obtain⟨u,f,g⟩:=he;have G:IsZip t2 z TI TO .ellipsis:=i _ _ D.i1z.symm p;have l:e≠z:=λx=>by subst x;rw[G]at f;cases f;simp at g
   exact wpAny_setField_rec G (by simp) λv _ m=>B v e (λc o c1 _ c3 _ x=>m.extBut _ _ c1 (i _ _ c3 (j.extBut _ _ c1 x))) ⟨u,m.extBut _ _ l f,g⟩|some x=>
   have M:g2 k=none:=by rcases n with h|h;rw[hx]at h;cases h;exact h
   refine wpAny_bind (q.item k _ _ _ x C hx λt2 W i=>wpAny_pure ?_);have p2:IsPair t2 TO a b:=i.extBut _ _ D.TOi1 (j.extBut _ _ D.TOz t);refine wpAny_bind (wpAny_seqItems p2 rfl (wpAny_bind (wpAny_updateSeq_pair p2 λv p3 m=>?_)));refine wpAny_bind (wpAny_letGo (wpAny_pure (wpAny_bind (wpAny_bind (wpAny_onRaise ?_)))));show wpAny _ _ (nextOf (.ref i2)>>=_) _ _ _;have N:S2 k v:=y.keep _ _ _ L (λo e=>m.extBut _ _ D.TOi2.symm (i.extBut _ _ D.i12.symm (j.extBut _ _ D.i2z e))) λo e=>m.extBut _ _ D.l2TO (i.extBut _ _ D.l2i1 (j.extBut _ _ D.l2z e));refine wpAny_bind (y.fin k _ _ _ N M λO e H he=>?_);obtain⟨u,f,g⟩:=he;have I:IsZip O z TI TO .ellipsis:=H _ _ D.i2z.symm (m.extBut _ _ D.TOz.symm (i.extBut _ _ D.i1z.symm p));have l:e≠z:=λx=>by subst x;rw[I]at f;cases f;simp at g
   exact wpAny_setField_rec I (by simp) λU _ J=>B U e (λc o c1 c2 c3 c4 x=>J.extBut _ _ c1 (H _ _ c4 (m.extBut _ _ c2 (i.extBut _ _ c3 (j.extBut _ _ c1 x))))) ⟨u,J.extBut _ _ l f,g⟩
theorem mY{x y:Value}{Q:Option Value->Shared->Prop}(D:ZipApart z TI TO i1 i2 l1 l2)(h:Nx prog w A.in1 i1 l1 S1 g1)(i:Nx prog w A.in1 i2 l2 S2 g2)(hz:IsZip s.heap z TI TO .none)(e:IsPair s.heap TI (.ref i1) (.ref i2))(f:IsPair s.heap TO a b)(h1:S1 k s.heap)(j:S2 k s.heap)(l:g1 k=some x)(m:g2 k=some y)(n:∀ h',IsZip h' z TI TO (rawInt s.heap.objs.size)->IsPair h' TO x y->S1 (k+1) h'->S2 (k+1) h'->IsPair h' s.heap.objs.size x y->h'.objs.size=s.heap.objs.size+1->(∀c o,c≠z->c≠TO->c≠i1->c≠i2->s.heap.get? c=some o->h'.get? c=some o)->Q (some (.ref s.heap.objs.size)) {s with heap:=h'}):wpAny (model prog w) A (pyNext (.ref z)) Q E s:=by have g:s.TypeIs (.ref z) "zip":=⟨_,hz,rfl⟩;unfold pyNext;exact wpAny_bind (wpAny_attempt (wpAny_callSpecial?_slot (name:=Str.ofString "__next__") g F.slot_zip_next (wpAny_call_entry F.slot_zip_next g F.entry_zip_next (DR D h i hz e f h1 j l m λh' p q r t u v B=>wpAny_pure (n h' p q r t u v B)) (F.args_zip_next_1 _))))
theorem oh{Q:Option Value->Shared->Prop}(D:ZipApart z TI TO i1 i2 l1 l2)(j:Nx prog w A.in1 i1 l1 S1 g1)(l:Nx prog w A.in1 i2 l2 S2 g2)(hz:IsZip s.heap z TI TO .none)(g:IsPair s.heap TI (.ref i1) (.ref i2))(h:IsPair s.heap TO a b)(h1:S1 k s.heap)(m:S2 k s.heap)(f:g1 k=none\/g2 k=none)(n:∀h',(∀c o,c≠z->c≠TO->c≠i1->c≠i2->s.heap.get? c=some o->h'.get? c=some o)->Q none {s with heap:=h'}):wpAny (model prog w) A (pyNext (.ref z)) Q E s:=by have i:s.TypeIs (.ref z) "zip":=⟨_,hz,rfl⟩;unfold pyNext;refine wpAny_bind (wpAny_attempt (wpAny_callSpecial?_slot (name:=Str.ofString "__next__") i F.slot_zip_next (wpAny_call_entry F.slot_zip_next i F.entry_zip_next (Hm D j l hz g h h1 m f λh' e p he=>?_) (F.args_zip_next_1 _))));obtain⟨o,ho,hc⟩:=he;exact wpAny_bind (wpAny_isInstance (T:="StopIteration") (b:=true) ⟨o,ho,hc⟩ isSubtype_stop (wpAny_pure (n _ p)))
end
theorem oK(l1 l2:Addr)(xs ys:Array Value):Meets (Builtin.«zip.__new__» ⟨[.type "zip",.ref l1,.ref l2],[]⟩) (λ_ R s=>s.heap.IsList l1 xs/\s.heap.IsList l2 ys/\R (.ok (.ret (.ref (s.heap.objs.size+4)))) {s with heap:=((((s.heap.push {cls:=.type "list_iterator",data:=.fields #[.ref l1,.int 0 0]}).push {cls:=.type "list_iterator",data:=.fields #[.ref l2,.int 0 0]}).push {cls:=.type "tuple",data:=.seq #[.ref s.heap.objs.size,.ref (s.heap.objs.size+1)]}).push {cls:=.type "tuple",data:=.seq #[.none,.none]}).push {cls:=.type "zip",data:=.fields #[.none,.bool false,.bool false,.ref (s.heap.objs.size+2),.ref (s.heap.objs.size+3)]}}):=.of_wp λprog w A R s h=>by obtain⟨f,g,d,i,os⟩:=s;obtain⟨a,b,h⟩:=h;have j:=sub_zip;have c:IsList (Shared.heap ⟨f,g,d,i,os⟩) l1 xs:=a;have e:IsList (Shared.heap ⟨f.push {cls:=.type "list_iterator",data:=.fields #[.ref l1,.int 0 0]},g,d,i,os⟩) l2 ys:=Heap.IsList.push b _;wp_walk using wpAny_pyIter_list c,wpAny_pyIter_list e;simp only[size_push]at*;exact⟨_,rfl,h⟩
section
variable{prog:Program}{w:World}{A:Around}{E:Value->Shared->Prop}{s:Shared}
theorem yX(i:s.heap.IsList l1 xs)(j:s.heap.IsList l2 ys)(h:∀ h',IsZip h' (s.heap.objs.size+4) (s.heap.objs.size+2) (s.heap.objs.size+3) .none->IsPair h' (s.heap.objs.size+2) (.ref s.heap.objs.size) (.ref (s.heap.objs.size+1))->IsPair h' (s.heap.objs.size+3) .none .none->h'.IsListIter s.heap.objs.size l1 0->h'.IsListIter (s.heap.objs.size+1) l2 0->(∀c o,s.heap.get? c=some o->h'.get? c=some o)->Q (.ref (s.heap.objs.size+4)) {s with heap:=h'}):wpAny (model prog w) A (call (.type "zip") [.ref l1,.ref l2]) Q E s:=by
 refine callType_new F.called_zip (by decide) (F.typeCall_zip_2 _ _) (F.newCall_zip_2 _ _) (λobj=>F.args_object_init_3 obj _ _) F.entry_zip_new (oK l1 l2 xs ys) ⟨i,j,?_⟩;generalize k:s.heap.push {cls:=.type "list_iterator",data:=.fields #[.ref l1,.int 0 0]}=t1;have r:t1.objs.size=s.heap.objs.size+1:=by rw[<-k,size_push]
 have z:t1.get? s.heap.objs.size=some {cls:=.type "list_iterator",data:=.fields #[.ref l1,.int 0 0]}:=by rw[<-k];exact get?_push_size _ rfl
 have B:∀c o,s.heap.get? c=some o->t1.get? c=some o:=λc o e=>by rw[<-k];exact dR e
 generalize l:t1.push {cls:=.type "list_iterator",data:=.fields #[.ref l2,.int 0 0]}=t2;have t:t2.objs.size=s.heap.objs.size+2:=by rw[<-l,size_push,r]
 have C:t2.get? (s.heap.objs.size+1)=some {cls:=.type "list_iterator",data:=.fields #[.ref l2,.int 0 0]}:=by rw[<-r,<-l];exact get?_push_size _ rfl
 have u:∀c o,t1.get? c=some o->t2.get? c=some o:=λc o e=>by rw[<-l];exact dR e
 generalize m:t2.push {cls:=.type "tuple",data:=.seq #[.ref s.heap.objs.size,.ref (s.heap.objs.size+1)]}=a;have v:a.objs.size=s.heap.objs.size+3:=by rw[<-m,size_push,t]
 have G:a.get? (s.heap.objs.size+2)=some {cls:=.type "tuple",data:=.seq #[.ref s.heap.objs.size,.ref (s.heap.objs.size+1)]}:=by rw[<-t,<-m];exact get?_push_size _ rfl
 have n:∀c o,t2.get? c=some o->a.get? c=some o:=λc o e=>by rw[<-m];exact dR e
 generalize p:a.push {cls:=.type "tuple",data:=.seq #[.none,.none]}=b;have H:b.objs.size=s.heap.objs.size+4:=by rw[<-p,size_push,v]
 have I:b.get? (s.heap.objs.size+3)=some {cls:=.type "tuple",data:=.seq #[.none,.none]}:=by rw[<-v,<-p];exact get?_push_size _ rfl
 have g:∀c o,a.get? c=some o->b.get? c=some o:=λc o e=>by rw[<-p];exact dR e
 generalize x:b.push {cls:=.type "zip",data:=.fields #[.none,.bool false,.bool false,.ref (s.heap.objs.size+2),.ref (s.heap.objs.size+3)]}=q;have y:q.get? (s.heap.objs.size+4)=some {cls:=.type "zip",data:=.fields #[.none,.bool false,.bool false,.ref (s.heap.objs.size+2),.ref (s.heap.objs.size+3)]}:=by rw[<-H,<-x];exact get?_push_size _ rfl
 have f:∀c o,b.get? c=some o->q.get? c=some o:=λc o e=>by rw[<-x];exact dR e
 exact⟨⟨_,y,rfl⟩,h q y (f _ _ (g _ _ G)) (f _ _ I) ⟨_,f _ _ (g _ _ (n _ _ (u _ _ z))),rfl,rfl⟩ ⟨_,f _ _ (g _ _ (n _ _ C)),rfl,rfl⟩ λc o e=>f _ _ (g _ _ (n _ _ (u _ _ (B _ _ e))))⟩
end
theorem oH(l1 l2:Addr)(xs ys:Array Value):Meets (Builtin.«zip.__new__» ⟨[.type "zip",.ref l1,.ref l2],[]⟩) (λ_ R s=>s.heap.IsList l1 xs/\s.heap.IsTuple l2 ys/\R (.ok (.ret (.ref (s.heap.objs.size+4)))) {s with heap:=((((s.heap.push {cls:=.type "list_iterator",data:=.fields #[.ref l1,.int 0 0]}).push {cls:=.type "tuple_iterator",data:=.fields #[.ref l2,.int 0 0]}).push {cls:=.type "tuple",data:=.seq #[.ref s.heap.objs.size,.ref (s.heap.objs.size+1)]}).push {cls:=.type "tuple",data:=.seq #[.none,.none]}).push {cls:=.type "zip",data:=.fields #[.none,.bool false,.bool false,.ref (s.heap.objs.size+2),.ref (s.heap.objs.size+3)]}}):=.of_wp λprog w A R s h=>by obtain⟨f,g,d,i,os⟩:=s;obtain⟨a,b,h⟩:=h;have j:=sub_zip;have c:IsList (Shared.heap ⟨f,g,d,i,os⟩) l1 xs:=a;have e:IsTuple (Shared.heap ⟨f.push {cls:=.type "list_iterator",data:=.fields #[.ref l1,.int 0 0]},g,d,i,os⟩) l2 ys:=Heap.IsTuple.push b _;wp_walk using wpAny_pyIter_list c,wpAny_pyIter_tuple e;simp only[size_push]at*;exact⟨_,rfl,h⟩
section
variable{prog:Program}{w:World}{A:Around}{E:Value->Shared->Prop}{s:Shared}
theorem yw(i:s.heap.IsList l1 xs)(j:s.heap.IsTuple l2 ys)(h:∀ h',IsZip h' (s.heap.objs.size+4) (s.heap.objs.size+2) (s.heap.objs.size+3) .none->IsPair h' (s.heap.objs.size+2) (.ref s.heap.objs.size) (.ref (s.heap.objs.size+1))->IsPair h' (s.heap.objs.size+3) .none .none->h'.IsListIter s.heap.objs.size l1 0->h'.IsTupleIter (s.heap.objs.size+1) l2 0->(∀c o,s.heap.get? c=some o->h'.get? c=some o)->Q (.ref (s.heap.objs.size+4)) {s with heap:=h'}):wpAny (model prog w) A (call (.type "zip") [.ref l1,.ref l2]) Q E s:=by
 refine callType_new F.called_zip (by decide) (F.typeCall_zip_2 _ _) (F.newCall_zip_2 _ _) (λobj=>F.args_object_init_3 obj _ _) F.entry_zip_new (oH l1 l2 xs ys) ⟨i,j,?_⟩;generalize k:s.heap.push {cls:=.type "list_iterator",data:=.fields #[.ref l1,.int 0 0]}=t1;have r:t1.objs.size=s.heap.objs.size+1:=by rw[<-k,size_push]
 have z:t1.get? s.heap.objs.size=some {cls:=.type "list_iterator",data:=.fields #[.ref l1,.int 0 0]}:=by rw[<-k];exact get?_push_size _ rfl
 have B:∀c o,s.heap.get? c=some o->t1.get? c=some o:=λc o e=>by rw[<-k];exact dR e
 generalize l:t1.push {cls:=.type "tuple_iterator",data:=.fields #[.ref l2,.int 0 0]}=t2;have t:t2.objs.size=s.heap.objs.size+2:=by rw[<-l,size_push,r]
 have C:t2.get? (s.heap.objs.size+1)=some {cls:=.type "tuple_iterator",data:=.fields #[.ref l2,.int 0 0]}:=by rw[<-r,<-l];exact get?_push_size _ rfl
 have u:∀c o,t1.get? c=some o->t2.get? c=some o:=λc o e=>by rw[<-l];exact dR e
 generalize m:t2.push {cls:=.type "tuple",data:=.seq #[.ref s.heap.objs.size,.ref (s.heap.objs.size+1)]}=a;have v:a.objs.size=s.heap.objs.size+3:=by rw[<-m,size_push,t]
 have G:a.get? (s.heap.objs.size+2)=some {cls:=.type "tuple",data:=.seq #[.ref s.heap.objs.size,.ref (s.heap.objs.size+1)]}:=by rw[<-t,<-m];exact get?_push_size _ rfl
 have n:∀c o,t2.get? c=some o->a.get? c=some o:=λc o e=>by rw[<-m];exact dR e
 generalize p:a.push {cls:=.type "tuple",data:=.seq #[.none,.none]}=b;have H:b.objs.size=s.heap.objs.size+4:=by rw[<-p,size_push,v]
 have I:b.get? (s.heap.objs.size+3)=some {cls:=.type "tuple",data:=.seq #[.none,.none]}:=by rw[<-v,<-p];exact get?_push_size _ rfl
 have g:∀c o,a.get? c=some o->b.get? c=some o:=λc o e=>by rw[<-p];exact dR e
 generalize x:b.push {cls:=.type "zip",data:=.fields #[.none,.bool false,.bool false,.ref (s.heap.objs.size+2),.ref (s.heap.objs.size+3)]}=q;have y:q.get? (s.heap.objs.size+4)=some {cls:=.type "zip",data:=.fields #[.none,.bool false,.bool false,.ref (s.heap.objs.size+2),.ref (s.heap.objs.size+3)]}:=by rw[<-H,<-x];exact get?_push_size _ rfl
 have f:∀c o,b.get? c=some o->q.get? c=some o:=λc o e=>by rw[<-x];exact dR e
 exact⟨⟨_,y,rfl⟩,h q y (f _ _ (g _ _ G)) (f _ _ I) ⟨_,f _ _ (g _ _ (n _ _ (u _ _ z))),rfl,rfl⟩ ⟨_,f _ _ (g _ _ (n _ _ C)),rfl,rfl⟩ λc o e=>f _ _ (g _ _ (n _ _ (u _ _ (B _ _ e))))⟩
end
theorem oE(l1 l2:Addr)(xs ys:Array Value):Meets (Builtin.«zip.__new__» ⟨[.type "zip",.ref l1,.ref l2],[]⟩) (λ_ R s=>s.heap.IsTuple l1 xs/\s.heap.IsList l2 ys/\R (.ok (.ret (.ref (s.heap.objs.size+4)))) {s with heap:=((((s.heap.push {cls:=.type "tuple_iterator",data:=.fields #[.ref l1,.int 0 0]}).push {cls:=.type "list_iterator",data:=.fields #[.ref l2,.int 0 0]}).push {cls:=.type "tuple",data:=.seq #[.ref s.heap.objs.size,.ref (s.heap.objs.size+1)]}).push {cls:=.type "tuple",data:=.seq #[.none,.none]}).push {cls:=.type "zip",data:=.fields #[.none,.bool false,.bool false,.ref (s.heap.objs.size+2),.ref (s.heap.objs.size+3)]}}):=.of_wp λprog w A R s h=>by obtain⟨f,g,d,i,os⟩:=s;obtain⟨a,b,h⟩:=h;have j:=sub_zip;have c:IsTuple (Shared.heap ⟨f,g,d,i,os⟩) l1 xs:=a;have e:IsList (Shared.heap ⟨f.push {cls:=.type "tuple_iterator",data:=.fields #[.ref l1,.int 0 0]},g,d,i,os⟩) l2 ys:=Heap.IsList.push b _;wp_walk using wpAny_pyIter_tuple c,wpAny_pyIter_list e;simp only[size_push]at*;exact⟨_,rfl,h⟩
section
variable{prog:Program}{w:World}{A:Around}{E:Value->Shared->Prop}{s:Shared}
theorem yf(i:s.heap.IsTuple l1 xs)(j:s.heap.IsList l2 ys)(h:∀ h',IsZip h' (s.heap.objs.size+4) (s.heap.objs.size+2) (s.heap.objs.size+3) .none->IsPair h' (s.heap.objs.size+2) (.ref s.heap.objs.size) (.ref (s.heap.objs.size+1))->IsPair h' (s.heap.objs.size+3) .none .none->h'.IsTupleIter s.heap.objs.size l1 0->h'.IsListIter (s.heap.objs.size+1) l2 0->(∀c o,s.heap.get? c=some o->h'.get? c=some o)->Q (.ref (s.heap.objs.size+4)) {s with heap:=h'}):wpAny (model prog w) A (call (.type "zip") [.ref l1,.ref l2]) Q E s:=by
 refine callType_new F.called_zip (by decide) (F.typeCall_zip_2 _ _) (F.newCall_zip_2 _ _) (λobj=>F.args_object_init_3 obj _ _) F.entry_zip_new (oE l1 l2 xs ys) ⟨i,j,?_⟩;generalize k:s.heap.push {cls:=.type "tuple_iterator",data:=.fields #[.ref l1,.int 0 0]}=t1;have r:t1.objs.size=s.heap.objs.size+1:=by rw[<-k,size_push]
 have z:t1.get? s.heap.objs.size=some {cls:=.type "tuple_iterator",data:=.fields #[.ref l1,.int 0 0]}:=by rw[<-k];exact get?_push_size _ rfl
 have B:∀c o,s.heap.get? c=some o->t1.get? c=some o:=λc o e=>by rw[<-k];exact dR e
 generalize l:t1.push {cls:=.type "list_iterator",data:=.fields #[.ref l2,.int 0 0]}=t2;have t:t2.objs.size=s.heap.objs.size+2:=by rw[<-l,size_push,r]
 have C:t2.get? (s.heap.objs.size+1)=some {cls:=.type "list_iterator",data:=.fields #[.ref l2,.int 0 0]}:=by rw[<-r,<-l];exact get?_push_size _ rfl
 have u:∀c o,t1.get? c=some o->t2.get? c=some o:=λc o e=>by rw[<-l];exact dR e
 generalize m:t2.push {cls:=.type "tuple",data:=.seq #[.ref s.heap.objs.size,.ref (s.heap.objs.size+1)]}=a;have v:a.objs.size=s.heap.objs.size+3:=by rw[<-m,size_push,t]
 have G:a.get? (s.heap.objs.size+2)=some {cls:=.type "tuple",data:=.seq #[.ref s.heap.objs.size,.ref (s.heap.objs.size+1)]}:=by rw[<-t,<-m];exact get?_push_size _ rfl
 have n:∀c o,t2.get? c=some o->a.get? c=some o:=λc o e=>by rw[<-m];exact dR e
 generalize p:a.push {cls:=.type "tuple",data:=.seq #[.none,.none]}=b;have H:b.objs.size=s.heap.objs.size+4:=by rw[<-p,size_push,v]
 have I:b.get? (s.heap.objs.size+3)=some {cls:=.type "tuple",data:=.seq #[.none,.none]}:=by rw[<-v,<-p];exact get?_push_size _ rfl
 have g:∀c o,a.get? c=some o->b.get? c=some o:=λc o e=>by rw[<-p];exact dR e
 generalize x:b.push {cls:=.type "zip",data:=.fields #[.none,.bool false,.bool false,.ref (s.heap.objs.size+2),.ref (s.heap.objs.size+3)]}=q;have y:q.get? (s.heap.objs.size+4)=some {cls:=.type "zip",data:=.fields #[.none,.bool false,.bool false,.ref (s.heap.objs.size+2),.ref (s.heap.objs.size+3)]}:=by rw[<-H,<-x];exact get?_push_size _ rfl
 have f:∀c o,b.get? c=some o->q.get? c=some o:=λc o e=>by rw[<-x];exact dR e
 exact⟨⟨_,y,rfl⟩,h q y (f _ _ (g _ _ G)) (f _ _ I) ⟨_,f _ _ (g _ _ (n _ _ (u _ _ z))),rfl,rfl⟩ ⟨_,f _ _ (g _ _ (n _ _ C)),rfl,rfl⟩ λc o e=>f _ _ (g _ _ (n _ _ (u _ _ (B _ _ e))))⟩
end
theorem oR(l1 l2:Addr)(xs ys:Array Value):Meets (Builtin.«zip.__new__» ⟨[.type "zip",.ref l1,.ref l2],[]⟩) (λ_ R s=>s.heap.IsTuple l1 xs/\s.heap.IsTuple l2 ys/\R (.ok (.ret (.ref (s.heap.objs.size+4)))) {s with heap:=((((s.heap.push {cls:=.type "tuple_iterator",data:=.fields #[.ref l1,.int 0 0]}).push {cls:=.type "tuple_iterator",data:=.fields #[.ref l2,.int 0 0]}).push {cls:=.type "tuple",data:=.seq #[.ref s.heap.objs.size,.ref (s.heap.objs.size+1)]}).push {cls:=.type "tuple",data:=.seq #[.none,.none]}).push {cls:=.type "zip",data:=.fields #[.none,.bool false,.bool false,.ref (s.heap.objs.size+2),.ref (s.heap.objs.size+3)]}}):=.of_wp λprog w A R s h=>by obtain⟨f,g,d,i,os⟩:=s;obtain⟨a,b,h⟩:=h;have j:=sub_zip;have c:IsTuple (Shared.heap ⟨f,g,d,i,os⟩) l1 xs:=a;have e:IsTuple (Shared.heap ⟨f.push {cls:=.type "tuple_iterator",data:=.fields #[.ref l1,.int 0 0]},g,d,i,os⟩) l2 ys:=Heap.IsTuple.push b _;wp_walk using wpAny_pyIter_tuple c,wpAny_pyIter_tuple e;simp only[size_push]at*;exact⟨_,rfl,h⟩
section
variable{prog:Program}{w:World}{A:Around}{E:Value->Shared->Prop}{s:Shared}
theorem yd(i:s.heap.IsTuple l1 xs)(j:s.heap.IsTuple l2 ys)(h:∀ h',IsZip h' (s.heap.objs.size+4) (s.heap.objs.size+2) (s.heap.objs.size+3) .none->IsPair h' (s.heap.objs.size+2) (.ref s.heap.objs.size) (.ref (s.heap.objs.size+1))->IsPair h' (s.heap.objs.size+3) .none .none->h'.IsTupleIter s.heap.objs.size l1 0->h'.IsTupleIter (s.heap.objs.size+1) l2 0->(∀c o,s.heap.get? c=some o->h'.get? c=some o)->Q (.ref (s.heap.objs.size+4)) {s with heap:=h'}):wpAny (model prog w) A (call (.type "zip") [.ref l1,.ref l2]) Q E s:=by
 refine callType_new F.called_zip (by decide) (F.typeCall_zip_2 _ _) (F.newCall_zip_2 _ _) (λobj=>F.args_object_init_3 obj _ _) F.entry_zip_new (oR l1 l2 xs ys) ⟨i,j,?_⟩;generalize k:s.heap.push {cls:=.type "tuple_iterator",data:=.fields #[.ref l1,.int 0 0]}=t1;have r:t1.objs.size=s.heap.objs.size+1:=by rw[<-k,size_push]
 have z:t1.get? s.heap.objs.size=some {cls:=.type "tuple_iterator",data:=.fields #[.ref l1,.int 0 0]}:=by rw[<-k];exact get?_push_size _ rfl
 have B:∀c o,s.heap.get? c=some o->t1.get? c=some o:=λc o e=>by rw[<-k];exact dR e
 generalize l:t1.push {cls:=.type "tuple_iterator",data:=.fields #[.ref l2,.int 0 0]}=t2;have t:t2.objs.size=s.heap.objs.size+2:=by rw[<-l,size_push,r]
 have C:t2.get? (s.heap.objs.size+1)=some {cls:=.type "tuple_iterator",data:=.fields #[.ref l2,.int 0 0]}:=by rw[<-r,<-l];exact get?_push_size _ rfl
 have u:∀c o,t1.get? c=some o->t2.get? c=some o:=λc o e=>by rw[<-l];exact dR e
 generalize m:t2.push {cls:=.type "tuple",data:=.seq #[.ref s.heap.objs.size,.ref (s.heap.objs.size+1)]}=a;have v:a.objs.size=s.heap.objs.size+3:=by rw[<-m,size_push,t]
 have G:a.get? (s.heap.objs.size+2)=some {cls:=.type "tuple",data:=.seq #[.ref s.heap.objs.size,.ref (s.heap.objs.size+1)]}:=by rw[<-t,<-m];exact get?_push_size _ rfl
 have n:∀c o,t2.get? c=some o->a.get? c=some o:=λc o e=>by rw[<-m];exact dR e
 generalize p:a.push {cls:=.type "tuple",data:=.seq #[.none,.none]}=b;have H:b.objs.size=s.heap.objs.size+4:=by rw[<-p,size_push,v]
 have I:b.get? (s.heap.objs.size+3)=some {cls:=.type "tuple",data:=.seq #[.none,.none]}:=by rw[<-v,<-p];exact get?_push_size _ rfl
 have g:∀c o,a.get? c=some o->b.get? c=some o:=λc o e=>by rw[<-p];exact dR e
 generalize x:b.push {cls:=.type "zip",data:=.fields #[.none,.bool false,.bool false,.ref (s.heap.objs.size+2),.ref (s.heap.objs.size+3)]}=q;have y:q.get? (s.heap.objs.size+4)=some {cls:=.type "zip",data:=.fields #[.none,.bool false,.bool false,.ref (s.heap.objs.size+2),.ref (s.heap.objs.size+3)]}:=by rw[<-H,<-x];exact get?_push_size _ rfl
 have f:∀c o,b.get? c=some o->q.get? c=some o:=λc o e=>by rw[<-x];exact dR e
 exact⟨⟨_,y,rfl⟩,h q y (f _ _ (g _ _ G)) (f _ _ I) ⟨_,f _ _ (g _ _ (n _ _ (u _ _ z))),rfl,rfl⟩ ⟨_,f _ _ (g _ _ (n _ _ C)),rfl,rfl⟩ λc o e=>f _ _ (g _ _ (n _ _ (u _ _ (B _ _ e))))⟩
end
end PySem
end
section
namespace L2
open PySem PySem.Spec PyProof.Rows
variable{t:Bool}{a:Addr}
def Sq(t:Bool)(K:PySem.W.Frag)(H:Hp)(a:Addr)(xs:List V):Prop:=if t then iB K H a xs else dN K H a xs
def Vp(t:Bool)(h:Heap)(a:Addr)(xs:Array Value):Prop:=if t then h.IsTuple a xs else h.IsList a xs
def Ep(t:Bool)(h:Heap)(i a:Addr)(k:Nat):Prop:=if t then h.IsTupleIter i a k else h.IsListIter i a k
section
variable{X:Cx}{pins:List (Addr×Obj)}{σ:L2.St}{H:Hp}{s:Shared}
theorem Inv.sq{xs:List V}(I:Inv X pins σ H s)(h:Sq t X.K H a xs):∃b:List Value,Vals xs b/\Vp t s.heap a b.toArray:=by cases t with|true=>obtain⟨b,c,e,_⟩:=I.tuple h;exact⟨b,c,e⟩|false=>obtain⟨b,c,e,_⟩:=I.list h;exact⟨b,c,e.isList⟩
theorem Inv.Ip{xs ys:List V}(I:Inv X pins σ H s)(h:Sq t X.K H a xs)(h':Sq t X.K H a ys):xs=ys:=by cases t with|true=>exact I.j6 h h'|false=>exact I.mK h h'
theorem Vp.lt{h:Heap}{xs:Array Value}(q:Vp t h a xs):a<h.objs.size:=by cases t with|true=>obtain⟨o,e,_⟩:=id q;exact lt_size e|false=>obtain⟨o,e,_⟩:=id q;exact lt_size e
theorem Ep.obj{h:Heap}{i:Addr}{k:Nat}(q:Ep t h i a k):∃o,h.get? i=some o/\∀v,o.data≠.cell v:=by cases t with|true=>obtain⟨o,b,e,c⟩:=id q;exact⟨o,b,λv z=>by rw[c]at z;cases z⟩|false=>obtain⟨o,b,e,c⟩:=id q;exact⟨o,b,λv z=>by rw[c]at z;cases z⟩
theorem Ep.keep{h h':Heap}{i:Addr}{k:Nat}(q:Ep t h i a k)(e:∀o,h.get? i=some o->h'.get? i=some o):Ep t h' i a k:=by cases t with|true=>obtain⟨o,b,r⟩:=id q;exact⟨o,e o b,r⟩|false=>obtain⟨o,b,r⟩:=id q;exact⟨o,e o b,r⟩
theorem Mf(t:Bool){prog:Program}{w:World}{A:Around}(e:A.handled=none)(b l:Addr)(c:l≠b)(items:Array Value):Nx prog w A b l (λk h=>Ep t h b l k/\Vp t h l items) (λk=>items[k]?):=by cases t with|true=>exact Nx.tuple e b l c items|false=>exact Nx.list e b l c items
theorem Inv.Gs{ch:List Addr}{h':Heap}(I:Inv X pins σ H s)(k:∀b u,b∉ch->s.heap.get? b=some u->h'.get? b=some u)(h:∀b∈ch,m8 X pins H b):Inv X pins σ H {s with heap:=h'}:=by
 have i:∀b u,H b=some u->b∉ch:=λb u e f=>by rw[(h b f).1]at e;cases e
 refine I.call (g':=s.gens) (d':=s.drawn) (t':=s.toks) (ch:=ch) ⟨λb u e n _ g=>k b u g e,λb u e n _ g=>⟨u.slots,k b u g e⟩,λb u e n g=>n,λb u e g=>⟨u,k b u g e⟩,λb xs e=>e,λb j u e=>e,λb ps e=>⟨#[],by rw[e];simp⟩⟩ ?_ I.bare λb f=>⟨(h b f).2.2.2.1,(h b f).2.1,(h b f).2.2.2.2.1,(h b f).2.2.2.2.2⟩;intro b u e;refine(I.hok b u e).stay (λc v hc q=>k c v ?_ q) (λc q=>q) λc xs q=>q;rcases hc with rfl|hc;.exact i _ _ e
 .exact i _ _ hc
end
noncomputable def W6(t1 t2:Bool)(K:PySem.W.Frag)(a b:Addr):It:=⟨λi H=>∃ xs ys x y,Sq t1 K H a xs/\Sq t2 K H b ys/\xs[i]?=some x/\ys[i]?=some y,λi H x c=>∃T v w,H T=none/\x=.ref T/\c=upd H T (.tup [v,w])/\(∀xs,Sq t1 K H a xs->xs[i]?=some v)/\∀ys,Sq t2 K H b ys->ys[i]?=some w,λi H=>∃xs ys,Sq t1 K H a xs/\Sq t2 K H b ys/\(xs.length<=i\/ys.length<=i)⟩
theorem Hc{P:Program}{w:World}{K:PySem.W.Frag}{L:List Expr}{x1}{tp:Pos}(t1 t2:Bool){z TI TO f g J l2:Addr}(D:ZipApart z TI TO f g J l2):Turn P w K (.Tuple L x1 tp) (W6 t1 t2 K J l2) [z,TI,TO,f,g] z (λi h=>IsZip h z TI TO .none/\IsPair h TI (.ref f) (.ref g)/\(∃a b,IsPair h TO a b)/\Ep t1 h f J i/\Ep t2 h g l2 i)where
 mem:=by simp
 obj:=λi h st b c=>by
  obtain⟨h1,m,⟨u,v,r⟩,B,C⟩:=st;simp only[mem_cons,not_mem_nil,or_false]at c;rcases c with rfl|rfl|rfl|rfl|rfl;.exact⟨_,h1,λv z=>by cases z⟩
  .exact⟨_,m,λv z=>by cases z⟩
  .exact⟨_,r,λv z=>by cases z⟩
  .exact B.obj
  .exact C.obj
 keep:=λi h h' st k=>by obtain⟨h1,m,⟨u,v,r⟩,B,C⟩:=st;exact⟨k z (by simp) _ h1,k TI (by simp) _ m,⟨u,v,k TO (by simp) _ r⟩,B.keep (k f (by simp)),C.keep (k g (by simp))⟩
 item:=λX hP hw hK hc i M s σ H E I Y st go=>by
  subst hP hw hK;obtain⟨h1,m,⟨u,v,r⟩,B,C⟩:=st;obtain⟨xs,ys,x,y,n,p,hx,hy⟩:=go;obtain⟨Ms,G,Vw⟩:=I.sq n;obtain⟨j,Tu,Ov⟩:=I.sq p;obtain⟨Z,ac,ae⟩:=G.get hx;obtain⟨uy,af,ag⟩:=Tu.get hy;have N:X.A.in1.handled=none:=I.ok.hd hc;refine mY D (Mf t1 N f J D.l1i1 Ms.toArray) (Mf t2 N g l2 D.l2i2 j.toArray) h1 m r (k:=i) ⟨B,Vw⟩ ⟨C,Ov⟩ (x:=Z) (y:=uy) (by simpa using ac) (by simpa using af) λh' z1 p1 s1 s2 pT hsz kp=>?_;refine⟨_,rfl,wpAny_letOwnedTupleGo_zip z1 λl z2 O=>?_⟩;have U:∀b∈[z,TI,TO,f,g],b≠s.heap.objs.size:=λb c=>by
   simp only[mem_cons,not_mem_nil,or_false]at c;rcases c with rfl|rfl|rfl|rfl|rfl;.exact ne_of_lt (lt_size h1)
   .exact ne_of_lt (lt_size m)
   .exact ne_of_lt (lt_size r)
   .exact ne_of_lt (lt_size B.obj.choose_spec.1)
   .exact ne_of_lt (lt_size C.obj.choose_spec.1)
  have Vv:∀b o,b∉[z,TO,f,g]->s.heap.get? b=some o->l.get? b=some o:=λb o c q=>by simp only[mem_cons,not_mem_nil,or_false,not_or]at c;exact O.extBut b o c.1 (kp b o c.1 c.2.1 c.2.2.1 c.2.2.2 q)
  have ah:IsPair l s.heap.objs.size Z uy:=O.extBut _ _ (U z (by simp)).symm pT;have p2:IsPair l TO Z uy:=O.extBut _ _ D.TOz p1;have j1:Ep t1 l f J (i+1):=s1.1.keep λo e=>O.extBut _ _ D.i1z e;have j2:Ep t2 l g l2 (i+1):=s2.1.keep λo e=>O.extBut _ _ D.i2z e;refine⟨.ref s.heap.objs.size,upd H s.heap.objs.size (.tup [x,y]),?_,rfl,⟨_,x,y,I.fresh,rfl,rfl,λzs hz=>?_,λzs hz=>?_⟩,⟨z2,Vv TI _ ?_ m,⟨_,_,p2⟩,j1,j2⟩,λb c=>?_⟩
  . refine I.yR (ch:=[z,TO,f,g]) (t':=s.toks) Vv (λb c=>?_) (λb c=>Y b ?_) ⟨(by show 2<=sizeLine;decide),[Z,uy],.cons ae (.cons ag .nil),⟨_,ah,rfl,_,rfl⟩⟩
    . simp only[mem_cons,not_mem_nil,or_false]at c;rcases c with rfl|rfl|rfl|rfl;.exact⟨_,z2⟩
      .exact⟨_,p2⟩
      .exact⟨_,j1.obj.choose_spec.1⟩
      .exact⟨_,j2.obj.choose_spec.1⟩
    .simp only[mem_cons,not_mem_nil,or_false]at c ⊢;rcases c with h|h|h|h<;>simp[h]
  .rw[I.Ip hz n];exact hx
  .rw[I.Ip hz p];exact hy
  .simp[D.TIz,D.TITO,D.TIi1,D.TIi2]
  .rw[aD (U b c)];exact(Y b c).1
 done:=λX hP hw hK hc i M s σ H E I Y st stop=>by
  subst hP hw hK;obtain⟨h1,m,⟨u,v,r⟩,B,C⟩:=st;obtain⟨xs,ys,n,p,hx⟩:=stop;obtain⟨Ms,G,Vw⟩:=I.sq n;obtain⟨j,Tu,Ov⟩:=I.sq p;have N:X.A.in1.handled=none:=I.ok.hd hc;refine oh D (Mf t1 N f J D.l1i1 Ms.toArray) (Mf t2 N g l2 D.l2i2 j.toArray) h1 m r (k:=i) ⟨B,Vw⟩ ⟨C,Ov⟩ ?_ λh' kp=>⟨rfl,?_⟩
  . rcases hx with hx|hx;.left;rw[G.length]at hx;simpa using hx
    .right;rw[Tu.length]at hx;simpa using hx
  .exact I.Gs (ch:=[z,TO,f,g]) (λb u c q=>by simp only[mem_cons,not_mem_nil,or_false,not_or]at c;exact kp b u c.1 c.2.1 c.2.2.1 c.2.2.2 q) λb c=>Y b (by simp only[mem_cons,not_mem_nil,or_false]at c ⊢;rcases c with h|h|h|h<;>simp[h])
 self:=λA i s Q E st q=>wpAny_pyIter_zip st.1 q
section
variable{X:Cx}{elts:List Expr}{x1:Nat}{tp:Pos}
theorem CP{prog:Program}{w:World}{A:Around}{E:Value->Shared->Prop}{s:Shared}(t1 t2:Bool){f l2:Addr}{xs ys:Array Value}{Q:Value->Shared->Prop}(b:Vp t1 s.heap f xs)(e:Vp t2 s.heap l2 ys)(h:∀ h',IsZip h' (s.heap.objs.size+4) (s.heap.objs.size+2) (s.heap.objs.size+3) .none->IsPair h' (s.heap.objs.size+2) (.ref s.heap.objs.size) (.ref (s.heap.objs.size+1))->IsPair h' (s.heap.objs.size+3) .none .none->Ep t1 h' s.heap.objs.size f 0->Ep t2 h' (s.heap.objs.size+1) l2 0->(∀c o,s.heap.get? c=some o->h'.get? c=some o)->Q (.ref (s.heap.objs.size+4)) {s with heap:=h'}):wpAny (model prog w) A (call (.type "zip") [.ref f,.ref l2]) Q E s:=by
 cases t1<;>cases t2;.exact yX b e h
 .exact yw b e h
 .exact yf b e h
 .exact yd b e h
theorem RQ{n l m:Nat}(h1:l<n)(b:m<n):ZipApart (n+4) (n+2) (n+3) n (n+1) l m:=by constructor<;>exact λh=>absurd (show(_:Nat)=_ from h) (by omega)
def adA(K:PySem.W.Frag)(R:It->Hp->Prop)(vs:List V)(c:Hp):Prop:=∃t1 t2 a b,vs=[.ref a,.ref b]/\(∃xs,Sq t1 K c a xs)/\(∃ys,Sq t2 K c b ys)/\R (W6 t1 t2 K a b) c
def acL(K:PySem.W.Frag)(b:TA):TI:=λσ H R=>b σ H (adA K R)
theorem boot_zip:bootBuiltins "zip"=some (.type "zip"):=by decide+kernel
theorem Im{a b:Expr}{k:TA}{p pos:Pos}(w:Gl X "zip")(x:X.mg "zip"=none)(y:PA X [a,b] k)(hs:starEach [a,b] X.env=[(false,eval a X.env),(false,eval b X.env)]:=by rfl)(c:starEach [b] X.env=[(false,eval b X.env)]:=by rfl):PI X (.Tuple elts x1 tp) (.Call (.Name "zip" p) [a,b] [] pos) (acL X.K k):=by
 intro e s σ H R I h;refine Call_ (gW I w x boot_zip (PyProof.Rows.callWith_type1 (cB (y pos e s σ H _ I h) ?_) (by rw[hs,c]) (by rw[c];rfl)));rintro O s1⟨vs,z,f,r1,A⟩;obtain⟨t1,t2,B,l2,rfl,⟨xs,i⟩,⟨ys,j⟩,q⟩:=A;obtain⟨u,v,rfl,C,E⟩:=r1.two;cases C;cases E;obtain⟨Q,G,l⟩:=f.sq i;obtain⟨m,U,n⟩:=f.sq j;have b1:=l.lt;have b2:=n.lt;refine CP t1 t2 l n λh' o J L M N kp=>?_;have D:ZipApart (s1.heap.objs.size+4) (s1.heap.objs.size+2) (s1.heap.objs.size+3) s1.heap.objs.size (s1.heap.objs.size+1) B l2:=RQ b1 b2;refine wpAny_pyIter_zip o ⟨_,_,_,_,z,rfl,f.kept (t':=s1.toks) kp,Hc t1 t2 D,⟨o,J,⟨_,_,L⟩,M,N⟩,λb r=>?_,q⟩;have g:s1.heap.objs.size<=b:=by simp only[mem_cons,not_mem_nil,or_false]at r;rcases r with rfl|rfl|rfl|rfl|rfl<;>first|exact Nat.le_add_right _ _|exact dm
 exact f.yG g (f.hok.fresh g)
end
end L2
namespace HH
open PySem L2 PySem.Spec PyProof.Rows
variable{x:Str}
section
variable{K:PySem.W.Frag}{F F1 H H1:Hp}{ρ ρ1:List Sl}{σ:L2.St}{ds es:List D}{a b:Addr}
theorem aG.sq{t:Bool}{xs:List V}(e:aG F H)(h:Sq t K F a xs):Sq t K H a xs:=by cases t with|true=>exact aG.gF e h|false=>exact e.seq h
theorem pD{t1 t2:Bool}{xs ys:List V}{j c:Hp}(e:Sq t1 K c a xs)(f:Sq t2 K c b ys)(r1:aF K j xs ds)(n:aF K j ys es)(s:aG j c)(k:Nat):(∀d,((ds.zip es).map λp=>D.tup [p.1,p.2])[k]?=some d->(W6 t1 t2 K a b).go k c/\∀x l,(W6 t1 t2 K a b).Jf k c x l->∃g,Ext j c g l/\Rep K g x d)/\(((ds.zip es).map λp=>D.tup [p.1,p.2]).length<=k->(W6 t1 t2 K a b).stop k c):=by refine⟨λd hd=>?_,λh=>⟨xs,ys,e,f,by rw[r1.length,n.length];rw[length_map,length_zip]at h;omega⟩⟩;rw[getElem?_map]at hd;obtain⟨⟨d0,d1⟩,o,q⟩:=map_some hd;subst q;obtain⟨f1,f2⟩:=List.getElem?_zip_eq_some.mp o;obtain⟨w,h1,r⟩:=r1.get f1;obtain⟨t,i,m⟩:=n.get f2;refine⟨⟨xs,ys,w,t,e,f,h1,i⟩,?_⟩;rintro x l⟨T,v,C,u,z,A,y,B⟩;subst z;subst A;have:=y xs e;rw[h1]at this;cases this;have:=B ys f;rw[i]at this;cases this;exact pM s u r m
theorem uX{v:V}{d:D}{ds:List D}(h:Rep K F v d)(e:items d=some ds):∃t a xs,v=.ref a/\Sq t K F a xs/\aF K F xs ds:=by cases d with|tup es=>cases e;rw[Rep]at h;obtain⟨a,xs,rfl,h1,c⟩:=h;exact⟨true,a,xs,rfl,h1,c⟩|lst es=>cases e;rw[Rep]at h;obtain⟨a,xs,rfl,h1,c⟩:=h;exact⟨false,a,xs,rfl,h1,c⟩|_=>cases e
end
section
variable{X:Cx}{c:Call}{e a b:Expr}{pa pb:P}{pos:Pos}{elts:List Expr}{x1:Nat}{tp:Pos}
theorem yc{w:Pos}(y:x="zip")(z:Gl X x)(A:X.mg x=none)(B:SX X c a pa)(C:SX X c b pb)(hs:starEach [a,b] X.env=[(false,eval a X.env),(false,eval b X.env)]:=by rfl)(f:starEach [b] X.env=[(false,eval b X.env)]:=by rfl):SI X c (.Tuple elts x1 tp) (.Call (.Name x w) [a,b] [] pos) (.zip pa pb):=by subst y;refine kJ (Im z A (oY B (oY C aH f) (by rw[hs,f])).1 hs f) ?_;rintro σ H R⟨F,ρ,ds,E,g,e,k⟩;obtain⟨r,G,p,l⟩:=aj e;have o:=aB l;clear l;obtain⟨l,I⟩:=o;subst I;rw[HH.E22]at p;obtain⟨J,j,L,M⟩:=aj p;obtain⟨N,O,Q,m⟩:=aj M;have o:=aB m;clear m;obtain⟨m,U⟩:=o;subst U;obtain⟨us,f1,W⟩:=bZ m;obtain⟨ws,f2,f3⟩:=map_some W;subst f3;cases l;refine⟨F,ρ,[J.d,N.d],_,g,by rw[vo,L];show(evs c [pb] j).bind _=_;rw[vo,Q];rfl,λvs Y Z s h=>?_⟩;obtain⟨v,r',rfl,rv,h⟩:=h.cC;obtain⟨u,ac,rfl,ru,h⟩:=h.cC;rw[h.eZ];obtain⟨t1,a1,xs,rfl,q,r1⟩:=uX rv f1;obtain⟨t2,a2,ys,rfl,t,r2⟩:=uX ru f2;exact⟨t1,t2,a1,a2,rfl,⟨xs,aG.sq s.gs.sub q⟩,⟨ys,aG.sq s.gs.sub t⟩,k _ _ _ ⟨s.gs,λn k Y ae af Z i=>pD (aG.sq i.gs.sub (aG.sq i.bU q)) (aG.sq i.gs.sub (aG.sq i.bU t)) (r1.mono i.bU) (r2.mono i.bU) i.gs.sub k,λF3 j ag H3 s3=>⟨s.trans s3,λv r h=>h.later s⟩⟩⟩
end
structure bO(K:PySem.W.Frag)(x:Str)(st:Stmt):Prop where ex:∃f fd,PySem.W.nsIn K mainGlobals x=some (some (.ref f))/\iD K x x st f fd
section
variable{Pg:Program}{w:World}{K:PySem.W.Frag}{mg:Str->Option Value}{base h:Heap}
theorem Q7{st:Stmt}{f:Addr}{oc:Value}{g i:Option Addr}{b:Array (Option Value)}{kV e j cdv ct:Value}(a:PySem.W.nsIn K mainGlobals x=some (some (.ref f)))(l:K.lookup f=some ⟨oc,g,.func (PySem.W.fnOf x x (iQ st) (gb st) (az st) .none kV e j i cdv ct),b⟩)(c:PySem.W.codeIn K cdv x=true)(k:keepIn K (.ref f)=true):bO K x st:=⟨_,_,a,Qs l c k⟩
theorem cg{Γ:Tab}{wl i np:Nat}{st:Stmt}{ps:List Str}(X:K.In h)(G:h.Ns mainGlobals mg)(D:bO K x st)(j:ps.length=np)(k:∀(kV g l:Value)(m:Option Addr)(cdv ct:Value)(c:List Value),c.length=ps.length->bindArgs (PySem.W.fnOf x x (iQ st) (gb st) (az st) .none kV g l m cdv ct) ⟨c,[]⟩=pure (ps.zip c)):aW Pg w K mg base 0 (run Γ wl 0) i x np:=by obtain⟨f,fd,a,F⟩:=D.ex;exact⟨f,fd,ps,⟨λvs H Q E s=>s.1,λA outer s H args c vs Q E hr e b v sp=>by obtain⟨_,F,as,r,n,_,z,_⟩:=sp;cases z⟩,mg_of X G a,F.kp,F.binds k,j⟩
theorem cu{Γ:Tab}{wl n i np:Nat}{st:Stmt}{ps:List Str}{d:Fd}(X:K.In h)(G:h.Ns mainGlobals mg)(D:bO K x st)(j:ps.length=np)(b:Γ i=some d)(k:∀(kV c l:Value)(m:Option Addr)(cdv ct:Value)(g:List Value),g.length=ps.length->bindArgs (PySem.W.fnOf x x (iQ st) (gb st) (az st) .none kV c l m cdv ct) ⟨g,[]⟩=pure (ps.zip g))(ok:∀f fd,iD K x x st f fd->m9 Pg w K mg base Fw (n+1) f fd ps (JK K np (λargs=>enter (run Γ wl n) wl d args))):aW Pg w K mg base (n+1) (run Γ wl (n+1)) i x np:=by
 obtain⟨f,fd,a,F⟩:=D.ex;refine⟨f,fd,ps,?_,mg_of X G a,F.kp,F.binds k,j⟩;have e:run Γ wl (n+1) i=λargs=>enter (run Γ wl n) wl d args:=by funext args;show(match Γ i with|some d=>enter (run Γ wl n) wl d args|none=>.stuck)=_;rw[b]
 rw[e,j];exact ok f fd F
theorem tE{F:Hp}:∀ns:List Int,aF K F (ns.map V.int) (ns.map D.int)|[]=>.nil|n::ns=>.cons (bC n) (tE ns)
theorem DX{H:Hp}{a:Addr}{ns:List Int}{g:List Sl->Res R}{as:List Sl}(l:dN K H a (ns.map V.int))(hr:g [.val false (.lst (ns.map D.int))]=.ok (.val (.bl true)) as):JK K 1 g [.ref a] H (λv _=>v=.bl true) λ_ _ _=>False:=by
 refine⟨rfl,H,_,_,as,⟨.refl _,rfl,λi b d e=>?_,λi s ds e k=>?_,λi j c h=>?_⟩,hr,λv m n o s f=>?_⟩;.match i,e with|0,e=>cases e;refine⟨.ref a,rfl,?_⟩;rw[Rep];exact⟨a,_,rfl,l,tE ns⟩|i+1,e=>simp at e
 .match i,e with|0,e=>cases e;cases k|i+1,e=>simp at e
 .obtain⟨⟨s,ds,e,k⟩,_⟩:=h;match i,e with|0,e=>cases e;cases k|i+1,e=>simp at e
 .have f:Rep K m v (.bl true):=f;rw[Rep]at f;exact f
end
end HH
end
section
namespace HH
open PySem
variable{n:Nat}{c:Call}{ρ:List Sl}{is:List Nat}{ds:List D}
def Res.sat{b:Type}(Q:b->List Sl->Prop)(x:Res b):Prop:=match x with|.ok a ρ=>Q a ρ|.exc _ _=>False|.stuck=>False
section
variable{α β:Type}{Q Q':α->List Sl->Prop}
@[simp]theorem Q8{a:α}{ρ:List Sl}:(Res.ok a ρ).sat Q=Q a ρ:=rfl
@[simp]theorem YW{k:Nat}{ρ:List Sl}:(Res.exc k ρ:Res α).sat Q=False:=rfl
@[simp]theorem U8:(Res.stuck:Res α).sat Q=False:=rfl
theorem cA{x:Res β}{f:β->List Sl->Res α}:(x.bind f).sat Q=x.sat λa ρ=>(f a ρ).sat Q:=by cases x<;>rfl
@[simp]theorem Zj{p:Prop}[Decidable p]{x y:Res α}:(if p then x else y).sat Q=((p->x.sat Q)/\(¬ p->y.sat Q)):=by by_cases h:p<;>simp[h]
@[simp]theorem Jv{a:α}{ρ:List Sl}:(lift (some a) ρ).sat Q=Q a ρ:=rfl
@[simp]theorem Jy{ρ:List Sl}:(lift (none:Option α) ρ).sat Q=False:=rfl
@[simp]theorem Km{p:Prop}[Decidable p]{a:α}{ρ:List Sl}:(lift (if p then some a else none) ρ).sat Q=(p/\Q a ρ):=by by_cases h:p<;>simp[h]
theorem Res.sat.imp{x:Res α}(h:x.sat Q)(k:∀a ρ,Q a ρ->Q' a ρ):x.sat Q':=by cases x with|ok a ρ=>exact k a ρ h|exc _ _=>exact h|stuck=>exact h
theorem sat_iff{x:Res α}:x.sat Q↔∃a ρ,x=.ok a ρ/\Q a ρ:=by cases x with|ok a ρ=>exact⟨λh=>⟨a,ρ,rfl,h⟩,λ⟨_,_,e,h⟩=>by cases e;exact h⟩|exc _ _=>exact⟨λh=>h.elim,λ⟨_,_,e,_⟩=>by cases e⟩|stuck=>exact⟨λh=>h.elim,λ⟨_,_,e,_⟩=>by cases e⟩
end
noncomputable def fr:Sl->Bool|.aQ=>true|.val b _=>!b|.own b _=>!b|.lent _=>false|.tY _=>false|.cN _=>false|.hold _=>false
@[simp]theorem ace:fr .aQ=true:=rfl
@[simp]theorem acE{b:Bool}{d:D}:fr (.val b d)=!b:=rfl
@[simp]theorem ac0{b:Bool}{d:List D}:fr (.own b d)=!b:=rfl
@[simp]theorem Zn{d:List D}:fr (.lent d)=false:=rfl
theorem Sg(ρ:List Sl)(i:Nat)(s:Sl):put ρ i s=match ρ[i]?with|some t=>if fr t=true then some (ρ.set i s)else none|none=>none:=by unfold put;cases h:ρ[i]?with|none=>rfl|some t=>cases t with|aQ=>rfl|val b d=>cases b<;>rfl|own b d=>cases b<;>rfl|lent d=>rfl|tY m=>rfl|cN m=>rfl|hold m=>rfl
theorem Gf{Γ:Tab}{w i:Nat}{d:Fd}{args:List Sl}(h:Γ i=some d):run Γ w (n+1) i args=enter (run Γ w n) w d args:=by rw[run,h]
noncomputable def fin(np:Nat):Fl->List Sl->Option (R×List Sl)|.next,ρ=>some (.val .non,ρ.take np)|.ret r,ρ=>some (r,ρ.take np)|_,_=>none
def eQ(np:Nat)(Q:R->List Sl->Prop)(fl:Fl)(ρ:List Sl):Prop:=match fl with|.next=>Q (.val .non) (ρ.take np)|.ret r=>Q r (ρ.take np)|_=>False
def sQ(c:Call)(n:Nat)(r:List S)(Q:Fl->List Sl->Prop)(fl:Fl)(ρ:List Sl):Prop:=match fl with|.next=>(iJ c n r ρ).sat Q|fl=>Q fl ρ
def fQ(J:List Sl->Prop)(Q:Fl->List Sl->Prop)(fl:Fl)(ρ:List Sl):Prop:=match fl with|.next=>J ρ|.cont=>J ρ|.brk=>Q .next ρ|.ret v=>Q (.ret v) ρ
section
variable{np:Nat}{Q:R->List Sl->Prop}{ρ:List Sl}{v:R}{c:Call}{n:Nat}{r:List S}{Q':Fl->List Sl->Prop}{J:List Sl->Prop}
@[simp]theorem Z1:eQ np Q .next ρ=Q (.val .non) (ρ.take np):=rfl
@[simp]theorem acu:eQ np Q (.ret v) ρ=Q v (ρ.take np):=rfl
@[simp]theorem abR:eQ np Q .brk ρ=False:=rfl
@[simp]theorem Zg:eQ np Q .cont ρ=False:=rfl
@[simp]theorem Y4:sQ c n r Q' .next ρ=(iJ c n r ρ).sat Q':=rfl
@[simp]theorem ady:sQ c n r Q' (.ret v) ρ=Q' (.ret v) ρ:=rfl
@[simp]theorem acy:sQ c n r Q' .brk ρ=Q' .brk ρ:=rfl
@[simp]theorem Z8:sQ c n r Q' .cont ρ=Q' .cont ρ:=rfl
@[simp]theorem aah:fQ J Q' .next ρ=J ρ:=rfl
@[simp]theorem aaw:fQ J Q' .cont ρ=J ρ:=rfl
@[simp]theorem abr:fQ J Q' .brk ρ=Q' .next ρ:=rfl
@[simp]theorem ab1:fQ J Q' (.ret v) ρ=Q' (.ret v) ρ:=rfl
end
theorem Dd{d:Fd}{args:List Sl}{Q:R->List Sl->Prop}(a:args.length=d.np)(hd:d.np<=d.nn)(h:(iJ c n d.body (args++replicate (d.nn-d.np) .aQ)).sat (eQ d.np Q)):(enter c n d args).sat Q:=by unfold enter;rw[if_pos ⟨a,hd⟩];revert h;cases iJ c n d.body (args++replicate (d.nn-d.np) .aQ)with|stuck=>exact λh=>False.elim h|exc _ _=>exact λh=>False.elim h|ok fl ρ=>cases fl<;>first|exact id|exact λh=>False.elim h
theorem aN{Γ:Tab}{w i:Nat}{d:Fd}{args:List Sl}{Q:R->List Sl->Prop}(a:Γ i=some d)(b:args.length=d.np)(hd:d.np<=d.nn)(h:(iJ (run Γ w n) w d.body (args++replicate (d.nn-d.np) .aQ)).sat (eQ d.np Q)):(run Γ w (n+1) i args).sat Q:=by rw[Gf a];exact Dd b hd h
theorem ak{s:S}{r:List S}{Q:Fl->List Sl->Prop}(h:(ex c n s ρ).sat (sQ c n r Q)):(iJ c n (s::r) ρ).sat Q:=by rw[Rk,cA];refine h.imp λfl a q=>?_;cases fl<;>exact q
theorem Du{s:S}{r:List S}{Q:Fl->List Sl->Prop}(h:(ex c n s ρ).sat (sQ c n r Q)):sQ c n (s::r) Q .next ρ:=ak h
@[simp]theorem ZV{c:Call}{n:Nat}{ρ:List Sl}{Q:Fl->List Sl->Prop}:(iJ c n [] ρ).sat Q=Q .next ρ:=by rw[xs0];rfl
theorem cU{s:S}{r:List S}{Q:Fl->List Sl->Prop}(M:List Sl->Prop)(h:(ex c n s ρ).sat λfl a=>fl=.next/\M a)(k:∀a,M a->(iJ c n r a).sat Q):(iJ c n (s::r) ρ).sat Q:=ak (h.imp λfl a⟨e,q⟩=>by subst e;exact k a q)
theorem cL{is:List Nat}{one:Bool}{body:List Sl->Res Fl}(J:List D->List Sl->Prop){Q:Fl->List Sl->Prop}(b:∀d r ρ,J (d::r) ρ->∃a,cI ρ is one d=some a/\(body a).sat (fQ (J r) Q))(f:∀ρ,J [] ρ->Q .next ρ):∀{ds:List D}{ρ:List Sl},J ds ρ->(iZ is one body ds ρ).sat Q|[],ρ,j=>f ρ j|d::r,ρ,j=>by obtain⟨a,e,h⟩:=b d r ρ j;rw[yh,e];show((body a).bind _).sat Q;rw[cA];refine h.imp λfl g q=>?_;cases fl with|next=>exact cL J b f q|cont=>exact cL J b f q|brk=>exact q|ret v=>exact q
theorem jU{is:List Nat}{one:Bool}{a:List Sl->Res Bool}{p:Ev}(J:List Sl->Prop)(g:D->Option D){Q:List D->List Sl->Prop}:∀{ds f:List D}{ρ:List Sl},J ρ->(∀ d,d ∈ ds->∀ ρ,J ρ->∃ i,cI ρ is one d=some i/\(a i).sat λb l=>if b=true then(p l).sat λr s=>g d=some r.d/\J s else g d=none/\J l)->(∀ ρ,J ρ->Q (f++ds.filterMap g) ρ)->(turns is one a p ds f ρ).sat Q|[],f,ρ,j,h,k=>by rw[ye];simpa using k ρ j|d::r,f,ρ,j,h,k=>by obtain⟨i,e,h1⟩:=h d (by simp) ρ j;rw[zB,e];show((a i).bind _).sat Q;rw[cA];refine h1.imp λb l q=>?_;cases b with|true=>rw[if_pos rfl]at q;rw[if_pos rfl,cA];refine q.imp λx s⟨u,j3⟩=>?_;refine jU J g j3 (λd' m=>h d' (by simp[m])) λo t=>?_;have:=k o t;rw[filterMap_cons,u]at this;rw[append_assoc];exact this|false=>rw[if_neg (by simp)]at q;rw[if_neg (by simp)];refine jU J g q.2 (λd' m=>h d' (by simp[m])) λo t=>?_;have:=k o t;rw[filterMap_cons,q.1]at this;exact this
theorem yg{one:Bool}{b:Ev}(J:List Sl->Prop)(g:D->D){Q:List D->List Sl->Prop}(j:J ρ)(h:∀d,d∈ds->∀ρ,J ρ->∃a,cI ρ is one d=some a/\(b a).sat λr f=>g d=r.d/\J f)(k:∀ρ,J ρ->Q (ds.map g) ρ):(turns is one (ou c none) b ds [] ρ).sat Q:=jU J (λd=>some (g d)) j (λd hd ρ j=>by obtain⟨a,e,h1⟩:=h d hd ρ j;refine⟨a,e,?_⟩;rw[ou,Q8,if_pos rfl];exact h1.imp λr f q=>⟨by rw[q.1],q.2⟩) λρ j=>by simpa using k ρ j
section
variable{ρ l:List Sl}{a:Sl}{i j:Int}{k m:Nat}{b b':Bool}{s:Str}{d:D}{ds es:List D}{e f:Ev}{x:Option Sl}{c:Call}
@[simp]theorem Pu:cQ .int .non=false:=rfl
@[simp]theorem TY:cQ .int (.bl b)=true:=rfl
@[simp]theorem PJ:cQ .int (.int i)=true:=rfl
@[simp]theorem PX:cQ .int (.str s)=false:=rfl
@[simp]theorem RP:cQ .int (.tup ds)=false:=rfl
@[simp]theorem S8:cQ .int (.lst ds)=false:=rfl
@[simp]theorem Ng:cQ .bool .non=false:=rfl
@[simp]theorem Qf:cQ .bool (.bl b)=true:=rfl
@[simp]theorem Nu:cQ .bool (.int i)=false:=rfl
@[simp]theorem Np:cQ .bool (.str s)=false:=rfl
@[simp]theorem MN:cQ .bool (.tup ds)=false:=rfl
@[simp]theorem N5:cQ .bool (.lst ds)=false:=rfl
@[simp]theorem Qi:cQ .str .non=false:=rfl
@[simp]theorem TQ:cQ .str (.bl b)=false:=rfl
@[simp]theorem Qh:cQ .str (.int i)=false:=rfl
@[simp]theorem R0:cQ .str (.str s)=true:=rfl
@[simp]theorem Qx:cQ .str (.tup ds)=false:=rfl
@[simp]theorem QW:cQ .str (.lst ds)=false:=rfl
@[simp]theorem Ld:cQ .tuple .non=false:=rfl
@[simp]theorem MF:cQ .tuple (.bl b)=false:=rfl
@[simp]theorem LR:cQ .tuple (.int i)=false:=rfl
@[simp]theorem Ls:cQ .tuple (.str s)=false:=rfl
@[simp]theorem Lf:cQ .tuple (.tup ds)=true:=rfl
@[simp]theorem J8:cQ .tuple (.lst ds)=false:=rfl
@[simp]theorem Nm:cQ .list .non=false:=rfl
@[simp]theorem Qv:cQ .list (.bl b)=false:=rfl
@[simp]theorem Nk:cQ .list (.int i)=false:=rfl
@[simp]theorem N8:cQ .list (.str s)=false:=rfl
@[simp]theorem M5:cQ .list (.tup ds)=false:=rfl
@[simp]theorem M9:cQ .list (.lst ds)=true:=rfl
@[simp]theorem MP:cQ .none .non=true:=rfl
@[simp]theorem Sw:cQ .none (.bl b)=false:=rfl
@[simp]theorem Oe:cQ .none (.int i)=false:=rfl
@[simp]theorem Nq:cQ .none (.str s)=false:=rfl
@[simp]theorem M6:cQ .none (.tup ds)=false:=rfl
@[simp]theorem M8:cQ .none (.lst ds)=false:=rfl
@[simp]theorem Uv:jz .non=true:=rfl
@[simp]theorem VG:jz (.bl b)=false:=rfl
@[simp]theorem Vm:jz (.int i)=false:=rfl
@[simp]theorem Uh:jz (.str s)=false:=rfl
@[simp]theorem Ue:jz (.tup ds)=false:=rfl
@[simp]theorem Vh:jz (.lst ds)=false:=rfl
@[simp]theorem XX:flat .non=true:=rfl
@[simp]theorem Z5:flat (.bl b)=true:=rfl
@[simp]theorem vJ:flat (.int i)=true:=rfl
@[simp]theorem Wd:flat (.str s)=true:=rfl
@[simp]theorem XN:flat (.tup ds)=false:=rfl
@[simp]theorem Xy:flat (.lst ds)=false:=rfl
@[simp]theorem aaV:(R.val d).d=d:=rfl
@[simp]theorem abz:(R.own ds).d=.lst ds:=rfl
@[simp]theorem W8:yI (.val d)=.val false d:=rfl
@[simp]theorem Xo:yI (.own ds)=.own false ds:=rfl
@[simp]theorem Vf:rY (.val d)=.dat d:=rfl
@[simp]theorem TV:rY (.own ds)=.tmp ds:=rfl
@[simp]theorem aar:gn (.int i)=some i:=rfl
@[simp]theorem abZ:zb (.bl b)=some b:=rfl
@[simp]theorem su:items (.lst ds)=some ds:=rfl
@[simp]theorem Uq:items (.tup ds)=some ds:=rfl
@[simp]theorem QD:Qu (.tup ds)=some ds:=rfl
@[simp]theorem Pj:yF (.lst ds)=some ds:=rfl
@[simp]theorem ZC:rJ .add=qy:=rfl
@[simp]theorem Z7:rJ .sub=wg:=rfl
@[simp]theorem Ze:rJ .mul=ju:=rfl
@[simp]theorem Yd:rJ .fdiv=qz:=rfl
@[simp]theorem aaq:rJ .mod=vO:=rfl
@[simp]theorem Za:rJ .pow=xx:=rfl
@[simp]theorem T3:qy (.int i) (.int j)=some (.val (.int (i+j))):=rfl
@[simp]theorem Um:qy (.lst ds) (.lst es)=if ds.length+es.length<=lim then some (.own (ds++es))else none:=rfl
@[simp]theorem Uw:qy (.tup ds) (.tup es)=if ds.length+es.length<=lim then some (.val (.tup (ds++es)))else none:=rfl
@[simp]theorem U6:wg (.int i) (.int j)=some (.val (.int (i-j))):=rfl
@[simp]theorem Up:ju (.int i) (.int j)=if((-18446744073709551616<i/\i<18446744073709551616)\/(-18446744073709551616<j/\j<18446744073709551616))then some (.val (.int (i*j)))else none:=rfl
@[simp]theorem Qp:qz (.int i) (.int j)=if 0<j/\j<1606938044258990275541962092341162602522202993782792835301376 then some (.val (.int (i/j)))else none:=rfl
@[simp]theorem T9:vO (.int i) (.int j)=if 0<j then some (.val (.int (i%j)))else none:=rfl
@[simp]theorem U7:xx (.int i) (.int j)=if 0<=j/\j<=1000/\i.natAbs<18446744073709551616 then some (.val (.int (i^j.toNat)))else none:=rfl
@[simp]theorem ZK:Eb (.lst ds) (.int i)=(at' ds i).map .val:=rfl
@[simp]theorem aap:Eb (.tup ds) (.int i)=(at' ds i).map .val:=rfl
@[simp]theorem Wn:FT (.int i)=some (.val (.int (-i))):=rfl
@[simp]theorem Vd:cm .eq (.int i) (.int j)=some (i==j):=rfl
@[simp]theorem U0:cm .ne (.int i) (.int j)=some (!(i==j)):=rfl
@[simp]theorem XF:cm .eq (.bl b) (.bl b')=some (b==b'):=rfl
@[simp]theorem Yg:cm .ne (.bl b) (.bl b')=some (!(b==b')):=rfl
@[simp]theorem Vk:cm .lt (.int i) (.int j)=some (decide (i<j)):=rfl
@[simp]theorem Us:cm .le (.int i) (.int j)=some (decide (i<=j)):=rfl
@[simp]theorem Ur:cm .gt (.int i) (.int j)=some (decide (j<i)):=rfl
@[simp]theorem T6:cm .ge (.int i) (.int j)=some (decide (j<=i)):=rfl
@[simp]theorem abh:cm .isN d .non=some (jz d):=rfl
@[simp]theorem Zv:cm .Jg d .non=some (!jz d):=rfl
@[simp]theorem Oh:blt .len [.lst ds]=some (.val (.int ds.length)):=rfl
@[simp]theorem Nh:blt .len [.tup ds]=some (.val (.int ds.length)):=rfl
@[simp]theorem Lr:blt .list [.lst ds]=some (.own ds):=rfl
@[simp]theorem J7:blt .list [.tup ds]=some (.own ds):=rfl
@[simp]theorem Jw:blt .tuple [.lst ds]=some (.val (.tup ds)):=rfl
@[simp]theorem Jx:blt .tuple [.tup ds]=some (.val (.tup ds)):=rfl
@[simp]theorem V4:blt .min2 [.int i,.int j]=some (.val (.int (if j<i then j else i))):=rfl
@[simp]theorem Wr:blt .max2 [.int i,.int j]=some (.val (.int (if i<j then j else i))):=rfl
@[simp]theorem Z6:blt .all [.lst ds]=(ds.mapM zb).map λbs=>.val (.bl (bs.all id)):=rfl
@[simp]theorem Ui:isVar (.var k)=some k:=rfl
@[simp]theorem aav:pk (a::l) k=match(a::l)[k]?with|some (.val _ d)=>some d|some (.own _ ds)=>some (.lst ds)|some (.lent ds)=>some (.lst ds)|_=>none:=rfl
@[simp]theorem Xm:zx (a::l) k=match pk (a::l) k with|some (.lst ds)=>some ds|_=>none:=rfl
@[simp]theorem W0:cW (some k) e ρ=lift (pk ρ k) ρ:=rfl
@[simp]theorem Wi:cW none e ρ=(e ρ).bind λr ρ=>.ok r.d ρ:=rfl
@[simp]theorem Uc{y:Option Nat}:iu (some k) e y f ρ=(lift (pk ρ k) ρ).bind λ_ ρ=>(cW y f ρ).bind λy ρ=>(lift (pk ρ k) ρ).bind λx ρ=>.ok (x,y) ρ:=rfl
@[simp]theorem U5{y:Option Nat}:iu none e y f ρ=(cW none e ρ).bind λx ρ=>(cW y f ρ).bind λy ρ=>.ok (x,y) ρ:=rfl
@[simp]theorem Vl{es:List D}:dM (.own b ds) (some (.own b' es))=.own b es:=rfl
@[simp]theorem Uo:dM (.own b ds) (some (.val b' d))=.val b d:=rfl
@[simp]theorem FN:dM a none=a:=by cases a<;>rfl
@[simp]theorem Dq:dM (.val b d) x=.val b d:=by cases x<;>rfl
@[simp]theorem TX:dM .aQ x=.aQ:=by cases x<;>rfl
@[simp]theorem zc:dM (.lent ds) x=.lent ds:=by cases x<;>rfl
@[simp]theorem V7:cI ρ [k] true d=put ρ k (.val false d):=rfl
@[simp]theorem Uk{is:List Nat}:cI ρ is false (.tup ds)=putAll ρ is ds:=by cases is<;>rfl
@[simp]theorem Rf:srcOf none e ρ=(e ρ).bind λr ρ=>lift (items r.d) ρ:=rfl
@[simp]theorem RW:srcOf (some k) e (a::l)=match(a::l)[k]?with|some (.val _ d)=>lift (items d) (a::l)|some (.own _ ds)=>.ok ds ((a::l).set k (.lent ds))|some (.lent ds)=>.ok ds (a::l)|_=>.stuck:=rfl
@[simp]theorem M4{g:List Sl}:aU g none ρ=ρ:=rfl
@[simp]theorem M7:aU (a::l) (some k) ρ=match(a::l)[k]?with|some (.own b ds)=>ρ.set k (.own b ds)|_=>ρ:=rfl
@[simp]theorem V6{s:Sl}:put (a::l) k s=match(a::l)[k]?with|some t=>if fr t=true then some ((a::l).set k s)else none|none=>none:=Sg ..
@[simp]theorem Qq:putAll ρ [] []=some ρ:=rfl
@[simp]theorem Og{is:List Nat}:putAll ρ (k::is) (d::ds)=(put ρ k (.val false d)).bind λρ=>putAll ρ is ds:=rfl
end
@[simp]theorem at_0{a:Type}{b:a}{l:List a}:at' (b::l) 0=some b:=by unfold at' iy;rw[if_pos (by decide),if_pos (by simp only[length_cons];omega)];rfl
@[simp]theorem at_1{a:Type}{e b:a}{l:List a}:at' (e::b::l) 1=some b:=by unfold at' iy;rw[if_pos (by decide),if_pos (by simp only[length_cons];omega)];rfl
@[simp]theorem at_2{a:Type}{e f b:a}{l:List a}:at' (e::f::b::l) 2=some b:=by unfold at' iy;rw[if_pos (by decide),if_pos (by simp only[length_cons];omega)];rfl
@[simp]theorem at_3{a:Type}{e f g b:a}{l:List a}:at' (e::f::g::b::l) 3=some b:=by unfold at' iy;rw[if_pos (by decide),if_pos (by simp only[length_cons];omega)];rfl
@[simp]theorem at_4{a:Type}{e f g h b:a}{l:List a}:at' (e::f::g::h::b::l) 4=some b:=by unfold at' iy;rw[if_pos (by decide),if_pos (by simp only[length_cons];omega)];rfl
@[simp]theorem at_5{a:Type}{e f g h i b:a}{l:List a}:at' (e::f::g::h::i::b::l) 5=some b:=by unfold at' iy;rw[if_pos (by decide),if_pos (by simp only[length_cons];omega)];rfl
@[simp]theorem at_6{a:Type}{e f g h i j b:a}{l:List a}:at' (e::f::g::h::i::j::b::l) 6=some b:=by unfold at' iy;rw[if_pos (by decide),if_pos (by simp only[length_cons];omega)];rfl
@[simp]theorem at_7{a:Type}{e f g h i j k b:a}{l:List a}:at' (e::f::g::h::i::j::k::b::l) 7=some b:=by unfold at' iy;rw[if_pos (by decide),if_pos (by simp only[length_cons];omega)];rfl
theorem yW{a:Type}{l:List a}{i:Int}(h:0<=i)(h':i<l.length):at' l i=l[i.toNat]?:=by unfold at' iy;rw[if_pos h,if_pos h'];rfl
theorem Gb{a:Type}{l:List a}{k:Nat}(h':k<l.length):at' l (k:Int)=l[k]?:=by rw[yW (by omega) (by omega)];simp
@[simp]theorem UG{d:D}:isVar (.con d)=none:=rfl
@[simp]theorem Ud{o:Op}{p q:P}:isVar (.bin o p q)=none:=rfl
@[simp]theorem Va{p:P}:isVar (.neg p)=none:=rfl
@[simp]theorem Uu{p:P}:isVar (.not p)=none:=rfl
@[simp]theorem Ux{p q:P}:isVar (.and p q)=none:=rfl
@[simp]theorem Xc{p q:P}:isVar (.or p q)=none:=rfl
@[simp]theorem Vb{o:Cm}{p q:P}:isVar (.cmp o p q)=none:=rfl
@[simp]theorem Oa{o a:Cm}{p q r:P}:isVar (.chain o a p q r)=none:=rfl
@[simp]theorem Vg{p q r:P}:isVar (.Oq p q r)=none:=rfl
@[simp]theorem T4{as:List P}:isVar (.tup as)=none:=rfl
@[simp]theorem Ve{as:List P}:isVar (.lst as)=none:=rfl
@[simp]theorem Ug{p q:P}:isVar (.idx p q)=none:=rfl
@[simp]theorem NK{p q r:P}:isVar (.slice p q r)=none:=rfl
@[simp]theorem R7{f:Nat}{as:List P}:isVar (.call f as)=none:=rfl
@[simp]theorem UL{b:XH}{as:List P}:isVar (.blt b as)=none:=rfl
@[simp]theorem Rj{a:List Ty}{p:P}:isVar (.inst a p)=none:=rfl
@[simp]theorem QJ{p e:P}{n:Nat}{is:List Nat}{one:Bool}{t:Option P}:isVar (.comp p n is one t e)=none:=rfl
@[simp]theorem TJ{p q:P}:isVar (.rO p q)=none:=rfl
@[simp]theorem Vc{p:P}:isVar (.Vt p)=none:=rfl
@[simp]theorem Ul{p q:P}:isVar (.zip p q)=none:=rfl
noncomputable def lZ(c:Call)(is:List Nat)(one:Bool)(a:Option P)(b:P)(ds:List D)(ρ:List Sl):Res (List D):=turns is one (ou c a) (ev c b) ds [] ρ
@[simp]theorem Zu{c:Call}{src f:P}{n:Nat}{is:List Nat}{one:Bool}{b:Option P}{ρ:List Sl}:ev c (.comp src n is one b f) ρ=(srcOf (isVar src) (ev c src) ρ).bind λds a=>if ds.length<=lim then(lZ c is one b f ds (a++replicate n .aQ)).bind λxs e=>.ok (.own xs) (aU ρ (isVar src) (e.take a.length))else .stuck:=(rfl)
noncomputable def Ha(c:Call)(n:Nat)(t:P)(body:List S)(k:Nat)(ρ:List Sl):Res Fl:=qP (iM (ev c t)) (iJ c n body) k ρ
@[simp]theorem abH{c:Call}{n:Nat}{t:P}{body:List S}{ρ:List Sl}:ex c n (.whl t body) ρ=Ha c n t body n ρ:=(rfl)
theorem uo{b e h:Type}{x:Res e}{f:e->List Sl->Res b}{g:b->List Sl->Res h}:(x.bind f).bind g=x.bind λa ρ=>(f a ρ).bind g:=by cases x<;>rfl
@[simp]theorem aca{Γ:Tab}{w n i:Nat}{args:List Sl}{b:Type}{f:R->List Sl->Res b}{Q:b->List Sl->Prop}:((run Γ w n i args).bind f).sat Q=(run Γ w n i args).sat λa ρ=>(f a ρ).sat Q:=cA
@[simp]theorem acq{Γ:Tab}{w n i:Nat}{args:List Sl}{b e:Type}{f:R->List Sl->Res b}{g:b->List Sl->Res e}:((run Γ w n i args).bind f).bind g=(run Γ w n i args).bind λa ρ=>(f a ρ).bind g:=uo
@[simp]theorem aaj{c:Call}{is:List Nat}{one:Bool}{b:Option P}{e:P}{ds:List D}{ρ:List Sl}{g:Type}{f:List D->List Sl->Res g}{Q:g->List Sl->Prop}:((lZ c is one b e ds ρ).bind f).sat Q=(lZ c is one b e ds ρ).sat λa ρ=>(f a ρ).sat Q:=cA
@[simp]theorem aal{c:Call}{is:List Nat}{one:Bool}{b:Option P}{e:P}{ds:List D}{ρ:List Sl}{h i:Type}{f:List D->List Sl->Res h}{g:h->List Sl->Res i}:((lZ c is one b e ds ρ).bind f).bind g=(lZ c is one b e ds ρ).bind λa ρ=>(f a ρ).bind g:=uo
@[simp]theorem ab8{is:List Nat}{one:Bool}{b:List Sl->Res Fl}{ds:List D}{ρ:List Sl}{e:Type}{f:Fl->List Sl->Res e}{Q:e->List Sl->Prop}:((iZ is one b ds ρ).bind f).sat Q=(iZ is one b ds ρ).sat λa ρ=>(f a ρ).sat Q:=cA
@[simp]theorem Zq{b e:Type}{p:Prop}[Decidable p]{a:e}{ρ:List Sl}{f:e->List Sl->Res b}{Q:b->List Sl->Prop}:((lift (if p then some a else none) ρ).bind f).sat Q=(p/\(f a ρ).sat Q):=by by_cases h:p<;>simp[h,lift,Res.bind]
@[simp]theorem ZQ{b e h:Type}{p:Prop}[Decidable p]{a:e}{ρ:List Sl}{f:e->List Sl->Res b}{g:b->List Sl->Res h}:((lift (if p then some a else none) ρ).bind f).bind g=(lift (if p then some a else none) ρ).bind λa ρ=>(f a ρ).bind g:=uo
@[simp]theorem bb_ite{b a:Type}{p:Prop}[Decidable p]{x y:Res a}{f:a->List Sl->Res b}:(if p then x else y).bind f=if p then x.bind f else y.bind f:=by by_cases h:p<;>simp[h]
@[simp]theorem adq{c:Call}{n k:Nat}{t:P}{b:List S}{ρ:List Sl}{e:Type}{f:Fl->List Sl->Res e}{Q:e->List Sl->Prop}:((Ha c n t b k ρ).bind f).sat Q=(Ha c n t b k ρ).sat λa ρ=>(f a ρ).sat Q:=cA
@[simp]theorem acp{b e:Type}{a:b}{ρ:List Sl}{f:b->List Sl->Res e}:(Res.ok a ρ).bind f=f a ρ:=rfl
@[simp]theorem Vo{a b:Type}{f:a->List Sl->Res b}:(Res.stuck:Res a).bind f=.stuck:=rfl
@[simp]theorem V8{b:Type}{a:b}{ρ:List Sl}:lift (some a) ρ=.ok a ρ:=rfl
@[simp]theorem VL{a:Type}{ρ:List Sl}:lift (none:Option a) ρ=.stuck:=rfl
noncomputable def Em:List Sl->Nat->Sl->List Sl|[],_,_=>[]|t::ρ,0,s=>dM t (some s)::ρ|t::ρ,k+1,s=>t::Em ρ k s
theorem pO{k:Nat}{s:Sl}:Em [] k s=[]:=rfl
theorem qU{t:Sl}{ρ:List Sl}{s:Sl}:Em (t::ρ) 0 s=dM t (some s)::ρ:=rfl
theorem pG{t:Sl}{ρ:List Sl}{k:Nat}{s:Sl}:Em (t::ρ) (k+1) s=t::Em ρ k s:=rfl
noncomputable def bk:List Arg->List Sl->List Sl->List Sl|.fH k::as,s::ss,ρ=>bk as ss (Em ρ k s)|.dat _::as,_::ss,ρ=>bk as ss ρ|.tmp _::as,_::ss,ρ=>bk as ss ρ|_,_,ρ=>ρ
section
variable{t s:Sl}{ρ ss:List Sl}{k:Nat}{as:List Arg}{d:D}{ds:List D}
@[simp]theorem aez:Em (t::ρ) 0 s=dM t (some s)::ρ:=rfl
@[simp]theorem aeL:Em (t::ρ) (k+1) s=t::Em ρ k s:=rfl
@[simp]theorem O9:bk (.fH k::as) (s::ss) ρ=bk as ss (Em ρ k s):=rfl
@[simp]theorem R9:bk (.dat d::as) (s::ss) ρ=bk as ss ρ:=rfl
@[simp]theorem Tj:bk (.tmp ds::as) (s::ss) ρ=bk as ss ρ:=rfl
@[simp]theorem abC:bk [] ss ρ=ρ:=rfl
end
theorem yM{s:Sl}:∀{ρ:List Sl}{k j:Nat},(Em ρ k s)[j]?=(ρ[j]?).map λt=>if j=k then dM t (some s)else t|[],_,_=>by simp[pO,qU,pG]|t::ρ,0,0=>by simp[pO,qU,pG]|t::ρ,0,j+1=>by simp[pO,qU,pG]|t::ρ,k+1,0=>by simp[pO,qU,pG]|t::ρ,k+1,j+1=>by have:=yM (s:=s) (ρ:=ρ) (k:=k) (j:=j);simp only[pO,qU,pG,List.getElem?_cons_succ,this];congr 1;funext t;simp
theorem wY{as:List Arg}{ss:List Sl}:∀{ρ:List Sl}{i j:Nat},(eV as ss i ρ)[j]?=(ρ[j]?).map λt=>dM t (aY (i+j) as ss)|[],_,_=>by simp[qR,lg]|t::ρ,i,0=>by simp[qR,lg]|t::ρ,i,j+1=>by have:=wY (as:=as) (ss:=ss) (ρ:=ρ) (i:=i+1) (j:=j);simp only[qR,lg,List.getElem?_cons_succ,this];rw[show i+1+j=i+(j+1)by omega]
def stb(t:Sl):Prop:=∀x,dM t x=t
def RV(ρ:List Sl):List Arg->Prop|[]=>True|.fH k::as=>(Arg.fH k∈as->∀t,ρ[k]?=some t->stb t)/\RV ρ as|_::as=>RV ρ as
theorem oX{ρ:List Sl}:∀{as:List Arg}{a:List Sl},RV ρ as->(∀k,Arg.fH k∈as->∀t,a[k]?=some t->ρ[k]?=some t\/stb t)->RV a as
 |[],_,_,_=>trivial|.fH k::as,a,h,g=>⟨λf t ht=>by
  rcases g k (by simp) t ht with e|e;.exact h.1 f t e
  .exact e,oX h.2 λj b=>g j (by simp[b])⟩|.dat _::as,a,h,g=>oX (as:=as) h λj b=>g j (by simp[b])|.tmp _::as,a,h,g=>oX (as:=as) h λj b=>g j (by simp[b])
theorem lK{k:Nat}:∀{as:List Arg}{ss:List Sl},Arg.fH k∉as->aY k as ss=none|[],_,_=>by unfold aY;rfl|.fH j::as,[],_=>rfl|.dat _::as,[],_=>rfl|.tmp _::as,[],_=>rfl|.fH j::as,s::ss,h=>by simp only[mem_cons,Arg.fH.injEq,not_or]at h;rw[aY,if_neg (λe=>h.1 e.symm),lK h.2]|.dat _::as,s::ss,h=>by simp only[mem_cons,not_or]at h;rw[aY,lK h.2]|.tmp _::as,s::ss,h=>by simp only[mem_cons,not_or]at h;rw[aY,lK h.2]
theorem Ay:∀{as:List Arg}{ss ρ:List Sl},RV ρ as->∀j,(bk as ss ρ)[j]?=(ρ[j]?).map λt=>dM t (aY j as ss)
 |[],ss,ρ,_,j=>by cases ss<;>simp[aY]|.fH k::as,[],ρ,_,j=>by rw[show bk (.fH k::as) [] ρ=ρ from rfl];simp[aY]|.dat d::as,[],ρ,_,j=>by rw[show bk (.dat d::as) [] ρ=ρ from rfl];simp[aY]|.tmp d::as,[],ρ,_,j=>by rw[show bk (.tmp d::as) [] ρ=ρ from rfl];simp[aY]|.dat _::as,s::ss,ρ,h,j=>by rw[R9,aY];exact Ay (as:=as) h j|.tmp _::as,s::ss,ρ,h,j=>by rw[Tj,aY];exact Ay (as:=as) h j|.fH k::as,s::ss,ρ,h,j=>by
   have b:RV (Em ρ k s) as:=oX h.2 λi hi t ht=>by rw[yM]at ht;cases e:ρ[i]?with|none=>rw[e]at ht;cases ht|some t0=>
      rw[e]at ht;by_cases c:i=k;.subst c;have hs:=h.1 hi t0 e;simp[hs (some s)]at ht;exact .inl (by rw[ht])
      .simp[c]at ht;exact .inl (by rw[ht])
   rw[O9,Ay b j,yM,aY];cases e:ρ[j]?with|none=>rfl|some t0=>
     simp only[Option.map_some];by_cases c:j=k
     . subst c;rw[if_pos rfl,if_pos rfl];by_cases a:Arg.fH j∈as;.have hs:=h.1 a t0 e;rw[hs (some s),hs]
       .rw[lK a,FN]
     .rw[if_neg c,if_neg (λz=>c z.symm)]
theorem gj{ρ:List Sl}{k:Nat}{b:Bool}{ds:List D}(e:ρ[k]?=some (.own b ds)):∀{as:List Arg}{u:List Nat}{r:List Sl},k∈u->cj ρ as u=some r->Arg.fH k∉as
 |[],_,_,_,_=>by simp|.dat _::as,u,r,a,h=>by simp only[zq,zj,yC,qD,map_eq_some_iff]at h;obtain⟨f,h,_⟩:=h;simp[gj e a h]|.tmp _::as,u,r,a,h=>by simp only[zq,zj,yC,qD,map_eq_some_iff]at h;obtain⟨f,h,_⟩:=h;simp[gj e a h]|.fH i::as,u,r,a,h=>by
   rw[qD]at h;have hi:i≠k:=by rintro rfl;rw[e]at h;simp[a]at h
   have:Arg.fH k∉as:=by
    split at h;.obtain⟨f,h,_⟩:=map_eq_some_iff.mp h;exact gj e a h
    . split at h;.cases h
      .obtain⟨f,h,_⟩:=map_eq_some_iff.mp h;exact gj e (by simp[a]) h
    . split at h;.cases h
      .obtain⟨f,h,_⟩:=map_eq_some_iff.mp h;exact gj e (by simp[a]) h
    .cases h
   simp[this];exact λz=>hi z.symm
theorem gh{ρ:List Sl}:∀{as:List Arg}{u:List Nat}{r:List Sl},cj ρ as u=some r->RV ρ as
 |[],_,_,_=>trivial|.dat _::as,u,r,h=>by obtain⟨a,h,_⟩:=map_eq_some_iff.mp h;exact gh (as:=as) h|.tmp _::as,u,r,h=>by obtain⟨a,h,_⟩:=map_eq_some_iff.mp h;exact gh (as:=as) h|.fH i::as,u,r,h=>by
   rw[qD]at h;split at h;.rename_i b d q;obtain⟨a,h,_⟩:=map_eq_some_iff.mp h;exact⟨λ_ t ht=>by rw[q]at ht;cases ht;exact λx=>Dq,gh h⟩
   . rename_i b ds q;split at h;.cases h
     .obtain⟨a,h,_⟩:=map_eq_some_iff.mp h;exact⟨λe=>absurd e (gj q (by simp) h),gh h⟩
   . rename_i ds q;split at h;.cases h
     .obtain⟨a,h,_⟩:=map_eq_some_iff.mp h;exact⟨λ_ t ht=>by rw[q]at ht;cases ht;exact λx=>zc,gh h⟩
   .cases h
theorem Xz{as:List Arg}{ss r:List Sl}{u:List Nat}(h:cj ρ as u=some r):eV as ss 0 ρ=bk as ss ρ:=by apply List.ext_getElem?;intro j;rw[wY,Ay (gh h),Nat.zero_add]
@[simp]theorem UT{c:Call}{k:Nat}{as:List Arg}{ρ:List Sl}:pR c k as ρ=match cj ρ as []with|none=>.stuck|some args=>(c k args).bind λr a=>.ok r (bk as a ρ):=by unfold pR;cases e:cj ρ as []with|none=>rfl|some args=>simp only[<-Xz (r:=args) e];cases c k args<;>rfl
theorem bI{one:Bool}{a:P}(J:List Sl->Prop)(g:D->D){Q:List D->List Sl->Prop}(j:J ρ)(h:∀d,d∈ds->∀ρ,J ρ->∃b,cI ρ is one d=some b/\(ev c a b).sat λr e=>g d=r.d/\J e)(k:∀ρ,J ρ->Q (ds.map g) ρ):(lZ c is one none a ds ρ).sat Q:=yg J g j h k
theorem jZ{one:Bool}{i t:P}(J:List Sl->Prop)(g:D->Option D){Q:List D->List Sl->Prop}(j:J ρ)(h:∀d,d∈ds->∀ρ,J ρ->∃a,cI ρ is one d=some a/\(ev c t a).sat λr f=>∃b,r.d=.bl b/\if b=true then(ev c i f).sat λr l=>g d=some r.d/\J l else g d=none/\J f)(k:∀ρ,J ρ->Q (ds.filterMap g) ρ):(lZ c is one (some t) i ds ρ).sat Q:=jU J g j (λd hd ρ j=>by obtain⟨a,e,h1⟩:=h d hd ρ j;refine⟨a,e,?_⟩;rw[ou,iM,cA];refine h1.imp λr f⟨b,e,q⟩=>?_;rw[e];exact q) λρ j=>by simpa using k ρ j
theorem jD{c:Call}{n:Nat}{t:P}{body:List S}(J:Nat->List Sl->Prop){Q:Fl->List Sl->Prop}(h:∀m ρ,J m ρ->(ev c t ρ).sat λr a=>∃b,r.d=.bl b/\if b=true then(iJ c n body a).sat (fQ (λf=>∃g,g<m/\J g f) Q)else Q .next a):∀{k m:Nat}{ρ:List Sl},m<k->J m ρ->(Ha c n t body k ρ).sat Q|0,m,ρ,i,_=>absurd i (Nat.not_lt_zero _)|k+1,m,ρ,i,j=>by unfold Ha;rw[GQ,cA,iM,cA];refine(h m ρ j).imp λr a⟨b,e,q⟩=>?_;rw[e];show(if b=true then _ else _:Res Fl).sat Q;cases b with|false=>rw[if_neg (by simp)]at q;rw[if_neg (by simp)];exact q|true=>rw[if_pos rfl]at q;rw[if_pos rfl,cA];refine q.imp λfl f q=>?_;cases fl with|next=>obtain⟨g,l,o⟩:=q;exact jD J h (lt_of_lt_of_le l (Nat.lt_succ_iff.mp i)) o|cont=>obtain⟨g,l,o⟩:=q;exact jD J h (lt_of_lt_of_le l (Nat.lt_succ_iff.mp i)) o|brk=>exact q|ret v=>exact q
@[simp]theorem aeE:type_of%@HH.E1:=@HH.E1
@[simp]theorem aeR:type_of%@HH.E2:=@HH.E2
@[simp]theorem ae5:type_of%@HH.E3:=@HH.E3
@[simp]theorem aeB:type_of%@HH.E4:=@HH.E4
@[simp]theorem aeT:type_of%@HH.E5:=@HH.E5
@[simp]theorem ae2:type_of%@HH.E6:=@HH.E6
@[simp]theorem aet:type_of%@HH.E7:=@HH.E7
@[simp]theorem aeN:type_of%@HH.E8:=@HH.E8
@[simp]theorem aco:type_of%@HH.E9:=@HH.E9
@[simp]theorem abS:type_of%@HH.E10:=@HH.E10
@[simp]theorem abk:type_of%@HH.E11:=@HH.E11
@[simp]theorem acV:type_of%@HH.E12:=@HH.E12
@[simp]theorem acN:type_of%@HH.E13:=@HH.E13
@[simp]theorem acX:type_of%@HH.E14:=@HH.E14
@[simp]theorem aa8:type_of%@HH.E15:=@HH.E15
@[simp]theorem abG:type_of%@HH.E16:=@HH.E16
@[simp]theorem acR:type_of%@HH.E17:=@HH.E17
@[simp]theorem Zx:type_of%@HH.VH:=@HH.VH
@[simp]theorem abY:type_of%@HH.E18:=@HH.E18
@[simp]theorem acj:type_of%@HH.E19:=@HH.E19
@[simp]theorem ack:type_of%@HH.E20:=@HH.E20
@[simp]theorem aa1:type_of%@HH.E21:=@HH.E21
@[simp]theorem aa4:type_of%@HH.E22:=@HH.E22
@[simp]theorem aeQ:type_of%@HH.X1:=@HH.X1
@[simp]theorem aeS:type_of%@HH.X2:=@HH.X2
@[simp]theorem aeJ:type_of%@HH.X3:=@HH.X3
@[simp]theorem ae4:type_of%@HH.X4:=@HH.X4
@[simp]theorem aeC:type_of%@HH.X5:=@HH.X5
@[simp]theorem aer:type_of%@HH.X6:=@HH.X6
@[simp]theorem ael:type_of%@HH.X7:=@HH.X7
@[simp]theorem aeq:type_of%@HH.X8:=@HH.X8
@[simp]theorem aeV:type_of%@HH.X9:=@HH.X9
@[simp]theorem ab7:type_of%@HH.X10:=@HH.X10
@[simp]theorem aa2:type_of%@HH.Zb:=@HH.Zb
@[simp]theorem acZ:type_of%@HH.X12:=@HH.X12
@[simp]theorem acK:type_of%@HH.X13:=@HH.X13
@[simp]theorem ab0:type_of%@HH.X14:=@HH.X14
@[simp]theorem adm:type_of%@HH.iM.eq_1:=@HH.iM.eq_1
@[simp]theorem adz:type_of%@HH.evs.eq_1:=@HH.evs.eq_1
@[simp]theorem ac7:type_of%@HH.evs.eq_2:=@HH.evs.eq_2
@[simp]theorem abU:type_of%@HH.ym.eq_1:=@HH.ym.eq_1
@[simp]theorem adn:type_of%@HH.ym.eq_2:=@HH.ym.eq_2
@[simp]theorem abB:type_of%@HH.ou.eq_1:=@HH.ou.eq_1
@[simp]theorem abF:type_of%@HH.ou.eq_2:=@HH.ou.eq_2
@[simp]theorem acS:type_of%@HH.pg.eq_1:=@HH.pg.eq_1
@[simp]theorem Xe:type_of%@HH.cj.eq_1:=@HH.cj.eq_1
@[simp]theorem V3:type_of%@HH.cj.eq_2:=@HH.cj.eq_2
@[simp]theorem Xq:type_of%@HH.cj.eq_3:=@HH.cj.eq_3
@[simp]theorem Wq:type_of%@HH.cj.eq_4:=@HH.cj.eq_4
@[simp]theorem Yj:type_of%@HH.eV.eq_1:=@HH.eV.eq_1
@[simp]theorem Yi:type_of%@HH.eV.eq_2:=@HH.eV.eq_2
@[simp]theorem Ww:type_of%@HH.aY.eq_1:=@HH.aY.eq_1
@[simp]theorem Wo:type_of%@HH.aY.eq_2:=@HH.aY.eq_2
@[simp]theorem W7:type_of%@HH.aY.eq_3:=@HH.aY.eq_3
@[simp]theorem Ws:type_of%@HH.aY.eq_4:=@HH.aY.eq_4
end HH
end
section
namespace HH
open PySem L2 PySem.Spec PyProof.Rows
variable{H:Hp}
section
variable{X:Cx}{c:Call}{a b:Expr}{pa pb:P}{pos:Pos}
theorem jA:∀{ds:List D}{ns:List Int},ds.mapM gn=some ns->ds=ns.map D.int|[],ns,h=>by simp at h;subst h;rfl|d::ds,ns,h=>by simp[List.mapM_cons,Option.bind_eq_some_iff]at h;obtain⟨i,e,g,f,rfl⟩:=h;rw[di e,jA f];rfl
theorem gD{K:PySem.W.Frag}{F:Hp}:∀{ns:List Int}{ys:List V},aF K F ys (ns.map D.int)->ys=ns.map V.int|[],ys,h=>by rw[h.eZ];rfl|n::ns,ys,h=>by obtain⟨v,r,rfl,h1,t⟩:=h.cC;rw[Rep]at h1;rw[h1,gD t];rfl
theorem iW{ns:List Int}{f:List Value}(h:Vals (ns.map V.int) f){i:Nat}{v:Value}(e:f.toArray[i]?=some v):∃t,v=.int (ns.getD i 0) t:=by
 have e:f[i]?=some v:=by simpa using e
 have hi:i<f.length:=(eX e).1;have k:=h.length;rw[length_map]at k;have g:(ns.map V.int)[i]?=some (.int (ns.getD i 0)):=by rw[getElem?_map,getElem?_eq_getElem (by omega)];simp[getD,show i<ns.length by omega]
 obtain⟨w,j,l⟩:=h.get g;rw[e]at j;cases j;exact l
theorem walked{h:List (Addr×Obj)}{σ:L2.St}{s:Shared}{p:Addr}{ys:List V}(I:L2.Inv X h σ H s)(hc:X.calm=true)(hq:dN X.K H p ys\/iB X.K H p ys){Q:Value->Shared->Prop}{E:Value->Shared->Prop}(k:∀(l:Addr)(g:List Value)(e:Shared)(St:Nat->Heap->Prop),Vals ys g->Walks X.prog X.w X.A.in1 l [l,p] [l] g.toArray.size (λi v=>g.toArray[i]?=some v) St->St 0 e.heap->(∀ b ∈[l,p],b<e.heap.objs.size)->(∀h' n,(∀b o,b∉[l]->e.heap.get? b=some o->h'.get? b=some o)->L2.Inv X h σ H {e with heap:=h',toks:=n})->Q (.ref l) e):wpAny (model X.prog X.w) X.A.in1 (pyIter (.ref p)) Q E s:=by
 have t:X.A.in1.handled=none:=I.ok.hd hc;rcases hq with hq|hq
 . obtain⟨g,q,f,hz⟩:=I.list hq;have f:=f.isList;have j:p<s.heap.objs.size:=by obtain⟨o,h1,_⟩:=f;exact lt_size h1
   refine wpAny_pyIter_list f (k s.heap.objs.size g _ _ q (Walks.list t s.heap.objs.size p (ne_of_lt j) g.toArray) ⟨⟨_,get?_push_size _ rfl,rfl,rfl⟩,?_⟩ ?_ λh' n kp=>?_);.obtain⟨o,h1,r⟩:=f;exact⟨o,dR h1,r⟩
   . intro b m;obtain⟨o,h1,_⟩:=f;simp at m;rcases m with rfl|rfl;.exact lt_size (get?_push_size _ rfl)
     .exact lt_size (dR h1)
   .exact I.kept (λb o z=>kp b o (by simp;exact ne_of_lt (lt_size z)) (dR z))
 . obtain⟨g,q,f,hz⟩:=I.tuple hq;have j:p<s.heap.objs.size:=by obtain⟨o,h1,_⟩:=f;exact lt_size h1
   refine wpAny_pyIter_tuple f (k s.heap.objs.size g _ _ q (Walks.tuple t s.heap.objs.size p (ne_of_lt j) g.toArray) ⟨⟨_,get?_push_size _ rfl,rfl,rfl⟩,?_⟩ ?_ λh' n kp=>?_);.obtain⟨o,h1,r⟩:=f;exact⟨o,dR h1,r⟩
   . intro b m;obtain⟨o,h1,_⟩:=f;simp at m;rcases m with rfl|rfl;.exact lt_size (get?_push_size _ rfl)
     .exact lt_size (dR h1)
   .exact I.kept (λb o z=>kp b o (by simp;exact ne_of_lt (lt_size z)) (dR z))
theorem nR(ns:List Int):∀k,k<=ns.length->preSum (λi=>ns.getD i 0) k=(ns.take k).sum|0,_=>by simp[preSum]|k+1,h=>by rw[preSum,nR ns k (by omega),List.take_succ,List.sum_append];simp[getD,show k<ns.length by omega]
theorem VM(hc:X.calm=true):dC X (.builtin "sum") (Ht X.K λx=>blt .sum [x]):=by
 rintro g s σ H xs h Q I r⟨x,o,F,d,q,j,t,he,k⟩;obtain⟨ns,w,he⟩:=map_some (show((items d).bind λds=>ds.mapM gn).map _=some q from he);subst he;obtain⟨ds,y,z⟩:=bZ w;obtain⟨p,ys,rfl,A,l⟩:=t.items j y;rw[jA z]at l;have B:=gD l;subst o;obtain⟨u,rfl,C⟩:=r.one;cases C;refine call_sum_walkG (walked I hc A λE h m St n W h0 G kp=>?_);subst B;have f:h.toArray.size=ns.length:=by rw[size_toArray,<-n.length,length_map]
 refine⟨E,_,_,_,_,St,λi=>ns.getD i 0,rfl,W,h0,G,λi v e=>iW n e,λh' J t' L=>?_⟩;rw[f,nR ns _ (dm),List.take_length];exact⟨.int _,H,kp h' J L,⟨t',rfl⟩,cF.cX j (bC _) k⟩
theorem Ew{ns:List Int}{m:Int}(k:ns.min?=some m):ns.getD (argBest (λi j=>decide (ns.getD i 0<ns.getD j 0)) (ns.length-1)) 0=m:=by
 have h:ns≠[]:=by rintro rfl;simp at k
 have r:0<ns.length:=List.length_pos_iff.mpr h;obtain⟨h1,n⟩:=argBest_lt (λi=>ns.getD i 0) (ns.length-1);have l:=List.min?_eq_some_iff.mp k;generalize argBest (λi j=>decide (ns.getD i 0<ns.getD j 0)) (ns.length-1)=j at*;have o:j<ns.length:=by omega
 have f:ns.getD j 0∈ns:=by simp[getD,o]
 obtain⟨q,p,e⟩:=List.getElem_of_mem l.1;have g:=n q (by omega);simp only[getD,getElem?_eq_getElem p,getD_some]at g;rw[e]at g;have s:=l.2 _ f;have g:ns.getD j 0<=m:=g;omega
theorem wK{ns:List Int}{m:Int}(k:ns.max?=some m):ns.getD (argBest (λi j=>decide (ns.getD i 0>ns.getD j 0)) (ns.length-1)) 0=m:=by
 have h:ns≠[]:=by rintro rfl;simp at k
 have r:0<ns.length:=List.length_pos_iff.mpr h;obtain⟨h1,n⟩:=argBest_gt (λi=>ns.getD i 0) (ns.length-1);have l:=List.max?_eq_some_iff.mp k;generalize argBest (λi j=>decide (ns.getD i 0>ns.getD j 0)) (ns.length-1)=j at*;have o:j<ns.length:=by omega
 have f:ns.getD j 0∈ns:=by simp[getD,o]
 obtain⟨q,p,e⟩:=List.getElem_of_mem l.1;have g:=n q (by omega);simp only[getD,getElem?_eq_getElem p,getD_some]at g;rw[e]at g;have s:=l.2 _ f;have g:m<=ns.getD j 0:=g;omega
theorem S6(hc:X.calm=true):dC X (.builtin "min") (Ht X.K λx=>blt .xH [x]):=by
 rintro j s σ H xs l Q I r⟨x,z,F,d,A,n,B,he,k⟩;obtain⟨ns,C,he⟩:=bZ (show((items d).bind λds=>ds.mapM gn).bind _=some A from he);obtain⟨m,o,he⟩:=map_some he;subst he;obtain⟨ds,E,G⟩:=bZ C;obtain⟨p,ys,rfl,J,q⟩:=B.items n E;rw[jA G]at q;have L:=gD q;subst z;obtain⟨u,rfl,M⟩:=r.one;cases M;refine call_min_walk (walked I hc J λN l w St h W h0 O kp=>?_);subst L;have f:l.toArray.size=ns.length:=by rw[size_toArray,<-h.length,length_map]
 have g:0<ns.length:=by cases ns with|nil=>simp at o|cons _ _=>simp
 refine⟨N,_,_,_,_,St,_,rfl,W,h0,O,by rw[f];exact g,CmpOf.ints_lt (λi=>ns.getD i 0) (λi v e=>iW h e),λv h' U y Y=>?_⟩;rw[f]at y;obtain⟨t,rfl⟩:=iW h y;rw[Ew o];exact⟨.int _,H,kp h' U Y,⟨t,rfl⟩,cF.cX n (bC _) k⟩
theorem R1(hc:X.calm=true):dC X (.builtin "max") (Ht X.K λx=>blt .Ef [x]):=by
 rintro j s σ H xs l Q I r⟨x,z,F,d,A,n,B,he,k⟩;obtain⟨ns,C,he⟩:=bZ (show((items d).bind λds=>ds.mapM gn).bind _=some A from he);obtain⟨m,o,he⟩:=map_some he;subst he;obtain⟨ds,E,G⟩:=bZ C;obtain⟨p,ys,rfl,J,q⟩:=B.items n E;rw[jA G]at q;have L:=gD q;subst z;obtain⟨u,rfl,M⟩:=r.one;cases M;refine call_max_walk (walked I hc J λN l w St h W h0 O kp=>?_);subst L;have f:l.toArray.size=ns.length:=by rw[size_toArray,<-h.length,length_map]
 have g:0<ns.length:=by cases ns with|nil=>simp at o|cons _ _=>simp
 refine⟨N,_,_,_,_,St,_,rfl,W,h0,O,by rw[f];exact g,CmpOf.ints_gt (λi=>ns.getD i 0) (λi v e=>iW h e),λv h' U y Y=>?_⟩;rw[f]at y;obtain⟨t,rfl⟩:=iW h y;rw[wK o];exact⟨.int _,H,kp h' U Y,⟨t,rfl⟩,cF.cX n (bC _) k⟩
theorem boot_sum:bootBuiltins "sum"=some (.builtin "sum"):=by decide+kernel
theorem uW{x:Str}{e:Pos}(f:x="sum")(hc:X.calm=true)(g:Gl X x)(i:X.mg x=none)(j:SX X c a pa)(hs:starEach [a] X.env=(false,eval a X.env)::starEach [] X.env:=by rfl):SX X c (.Call (.Name x e) [a] [] pos) (.blt .sum [pa]):=by subst f;exact km (λh=>fK (VM hc) g i boot_sum h (he:=hs)) j (λρ=>rfl) rfl hs
theorem uY{x:Str}{e:Pos}(f:x="min")(hc:X.calm=true)(g:Gl X x)(i:X.mg x=none)(j:SX X c a pa)(hs:starEach [a] X.env=(false,eval a X.env)::starEach [] X.env:=by rfl):SX X c (.Call (.Name x e) [a] [] pos) (.blt .xH [pa]):=by subst f;exact km (λh=>fK (S6 hc) g i boot_min h (he:=hs)) j (λρ=>rfl) rfl hs
theorem Ks{x:Str}{e:Pos}(f:x="max")(hc:X.calm=true)(g:Gl X x)(i:X.mg x=none)(j:SX X c a pa)(hs:starEach [a] X.env=(false,eval a X.env)::starEach [] X.env:=by rfl):SX X c (.Call (.Name x e) [a] [] pos) (.blt .Ef [pa]):=by subst f;exact km (λh=>fK (R1 hc) g i boot_max h (he:=hs)) j (λρ=>rfl) rfl hs
theorem zH{K:PySem.W.Frag}{F H:Hp}{v:V}{d:D}(h:dj K F H v d)(f:flat d=true):kh v=true:=by cases d with|non=>rw[h.non];rfl|bl _=>rw[h.bl];rfl|int _=>rw[h.int];rfl|str _=>rw[h.str];rfl|tup _=>cases f|lst _=>cases f|dH _=>cases f|dv _ _=>cases f
theorem adg{K:PySem.W.Frag}{F H:Hp}{v u:V}{d e:D}(h:dj K F H v d)(h':dj K F H u e)(f:flat d=true)(g:flat e=true):LQ v u=jo d e:=by cases d with
 |tup _=>cases f|lst _=>cases f|dH _=>cases f|dv _ _=>cases f|non=>rw[h.non];cases e with|tup _=>cases g|lst _=>cases g|dH _=>cases g|dv _ _=>cases g|non=>rw[h'.non];rfl|bl _=>rw[h'.bl];rfl|int _=>rw[h'.int];rfl|str _=>rw[h'.str];rfl
 |bl _=>rw[h.bl];cases e with|tup _=>cases g|lst _=>cases g|dH _=>cases g|dv _ _=>cases g|non=>rw[h'.non];rfl|bl _=>rw[h'.bl];rfl|int _=>rw[h'.int];rfl|str _=>rw[h'.str];rfl
 |int _=>rw[h.int];cases e with|tup _=>cases g|lst _=>cases g|dH _=>cases g|dv _ _=>cases g|non=>rw[h'.non];rfl|bl _=>rw[h'.bl];rfl|int _=>rw[h'.int];rfl|str _=>rw[h'.str];rfl
 |str _=>rw[h.str];cases e with|tup _=>cases g|lst _=>cases g|dH _=>cases g|dv _ _=>cases g|non=>rw[h'.non];rfl|bl _=>rw[h'.bl];rfl|int _=>rw[h'.int];rfl|str _=>rw[h'.str];rfl
theorem S7{K:PySem.W.Frag}{F H:Hp}{v:V}{d:D}(h:dj K F H v d)(f:flat d=true):∀{ds:List D}{vs:List V},aF K F vs ds->ds.all flat=true->vs.all kh=true/\inV v vs=ds.any λy=>jo y d|[],vs,r,_=>by rw[r.eZ];exact⟨rfl,rfl⟩|e::ds,vs,r,g=>by obtain⟨w,ws,rfl,h1,t⟩:=r.cC;rw[all_cons,and_eq_true]at g;obtain⟨j,i⟩:=S7 h f t g.2;have q:dj K F H w e:=.inl h1;refine⟨by rw[all_cons,zH q g.1,j];rfl,?_⟩;unfold inV at i ⊢;rw[any_cons,any_cons,i,adg q h g.1 f]
theorem Lp:fW X (compareOp .In) (rD X.K (pg .inn)):=by rintro f s σ H x y v u Q I j l⟨F,d,e,r,h,i,m,he,k⟩;obtain⟨t,n,o⟩:=map_some (show(wM false d e).map _=some r from he);subst o;obtain⟨ds,q,w⟩:=bZ n;obtain⟨g,z⟩:=bB w;rw[and_eq_true]at g;obtain⟨p,xs,rfl,A,B⟩:=m.items h q;obtain⟨C,E⟩:=S7 i g.1 B g.2;subst z;refine Dh f s σ H x _ v u Q I j l ⟨p,xs,rfl,A,zH i g.1,C,?_⟩;rw[E];exact cF.cX h (fO _) k
theorem DK:fW X (compareOp .NotIn) (rD X.K (pg .Cg)):=by rintro f s σ H x y v u Q I j l⟨F,d,e,r,h,i,m,he,k⟩;obtain⟨t,n,o⟩:=map_some (show(wM true d e).map _=some r from he);subst o;obtain⟨ds,q,w⟩:=bZ n;obtain⟨g,z⟩:=bB w;rw[and_eq_true]at g;obtain⟨p,xs,rfl,A,B⟩:=m.items h q;obtain⟨C,E⟩:=S7 i g.1 B g.2;subst z;refine uB f s σ H x _ v u Q I j l ⟨p,xs,rfl,A,zH i g.1,C,?_⟩;rw[E];exact cF.cX h (fO _) k
end
end HH
end
section
namespace HH
open PySem
section
variable{i j:Int}{ds es:List D}{d:D}{b b':Bool}
@[simp]theorem ZL:rJ .shl=Ff:=rfl
@[simp]theorem Z9:rJ .shr=GJ:=rfl
@[simp]theorem VR:rJ .band=yP:=rfl
@[simp]theorem Vq:Ff (.int i) (.int j)=if 0<=j/\j<=1000/\i.natAbs<18446744073709551616 then some (.val (.int (i*2^j.toNat)))else none:=rfl
@[simp]theorem Uj:GJ (.int i) (.int j)=if 0<=j then some (.val (.int (i/2^j.toNat)))else none:=rfl
@[simp]theorem Ss:yP (.int i) (.int j)=some (.val (.int (Builtin.bitAnd i j))):=rfl
@[simp]theorem TF:ju (.lst ds) (.int i)=if 0<=i/\0<ds.length/\ds.length*i.toNat<=lim then some (.own (replicate i.toNat ds).flatten)else none:=rfl
@[simp]theorem Uz:ju (.tup ds) (.int i)=if 0<=i/\0<ds.length/\ds.length*i.toNat<=lim then some (.val (.tup (replicate i.toNat ds).flatten))else none:=rfl
@[simp]theorem acY:cm .isT (.bl b) (.bl true)=some b:=rfl
@[simp]theorem Zh:cm .Yt (.bl b) (.bl true)=some (!b):=rfl
@[simp]theorem aac:blt .sum [.lst ds]=(ds.mapM gn).map λns=>.val (.int ns.sum):=rfl
@[simp]theorem Xx:blt .xH [.lst ds]=(ds.mapM gn).bind λns=>ns.min?.map λi=>.val (.int i):=rfl
@[simp]theorem Xl:blt .Ef [.lst ds]=(ds.mapM gn).bind λns=>ns.max?.map λi=>.val (.int i):=rfl
end
@[simp]theorem acd:type_of%@HH.X16:=@HH.X16
@[simp]theorem ac8:type_of%@HH.X17:=@HH.X17
theorem iC{ns:List Int}:(ns.map D.int).mapM gn=some ns:=by induction ns with|nil=>rfl|cons n ns a=>simp[a]
@[simp]theorem Vi{ns:List Int}:ns.mapM (gn ∘ D.int)=some ns:=by rw[<-iC (ns:=ns),List.mapM_map]
@[simp]theorem XJ{bs:List Bool}:bs.mapM (zb ∘ D.bl)=some bs:=by induction bs with|nil=>rfl|cons b bs a=>simp[a]
theorem Am{S:List Int}{i:Int}:((S.map D.int).any λy=>jo y (.int i))=S.contains i:=by induction S with|nil=>rfl|cons s S a=>rw[map_cons,any_cons,List.contains_cons,a,pqi];rw[show(s==i)=(i==s)from Bool.eq_iff_iff.mpr ⟨λh=>by simp at h ⊢;exact h.symm,λh=>by simp at h ⊢;exact h.symm⟩]
theorem v5{S:List Int}:(S.map D.int).all flat=true:=by rw[all_eq_true];intro d hd;obtain⟨i,_,rfl⟩:=mem_map.mp hd;rfl
theorem Rh{S:List Int}{i:Int}:cm .inn (.int i) (.lst (S.map D.int))=some (S.contains i):=by show wM false _ _=_;unfold wM;simp only[su,bind_some,vJ,v5,Bool.and_true,Am];rfl
theorem Dw{S:List Int}{i:Int}:cm .Cg (.int i) (.lst (S.map D.int))=some (!S.contains i):=by show wM true _ _=_;unfold wM;simp only[su,bind_some,vJ,v5,Bool.and_true,Am];rfl
theorem o6{n:Nat}{S:List Int}:il (n+1) (.lst (S.map D.int))=true:=by rw[bF,all_eq_true];intro d hd;obtain⟨i,_,rfl⟩:=mem_map.mp hd;cases n<;>rfl
theorem p8:∀{S T:List Int},iw (S.map D.int) (T.map D.int)=(S==T)|[],[]=>by simp[lE,jg,qY,qT]|[],_::_=>by simp[lE,jg,qY,qT]|_::_,[]=>by simp[lE,jg,qY,qT]|s::S,t::T=>by rw[map_cons,map_cons,jg,p8,pqi];rfl
theorem Zt{S T:List Int}:cm .eq (.lst (S.map D.int)) (.lst (T.map D.int))=some (S==T):=by show yl _ _=_;unfold yl;rw[o6,o6,pql,p8];rfl
theorem K5{S T:List Int}:cm .ne (.lst (S.map D.int)) (.lst (T.map D.int))=some (!(S==T)):=by show Iw _ _=_;unfold Iw;rw[o6,o6,pql,p8];rfl
theorem Mg{S:List Int}:cm .ne (.lst (S.map D.int)) (.lst [])=some (!S.isEmpty):=by rw[show(.lst []:D)=.lst (([]:List Int).map D.int)from rfl,K5];cases S<;>rfl
theorem fX{a:Type}{l:List a}{f:a->D}{k:Nat}{x:a}(h:l[k]?=some x):at' (l.map f) (k:Int)=some (f x):=by have b:=(eX h).1;rw[Gb (by simpa using b),getElem?_map,h];rfl
theorem Qc{n k:Nat}(h:k<n):iy n (k:Int)=some k:=by unfold iy;rw[if_pos (by omega),if_pos (by omega)];simp
theorem iH{c:List Nat}{one:Bool}{body:List Sl->Res Fl}{g:Nat->D}{N:Nat}(J:Nat->List Sl->Prop){Q:Fl->List Sl->Prop}(f:∀i ρ,i<N->J i ρ->∃a,cI ρ c one (g i)=some a/\(body a).sat (fQ (J (i+1)) Q))(k:∀ρ,J N ρ->Q .next ρ){ρ:List Sl}(h0:J 0 ρ):(iZ c one body ((List.range N).map g) ρ).sat Q:=by
 refine cL (λr ρ=>∃i,i<=N/\r=((List.range N).map g).drop i/\J i ρ) ?_ ?_ ⟨0,BZ,rfl,h0⟩
 . rintro d r ρ⟨i,hi,e,j⟩;have b:i<N:=by
    rcases Nat.lt_or_ge i N with h|h;.exact h
    .rw[List.drop_eq_nil_of_le (by simpa using h)]at e;cases e
   rw[drop_eq_getElem_cons (by simpa using b)]at e;injection e with e1 e2;simp at e1;subst e1;obtain⟨a,h1,l⟩:=f i ρ b j;refine⟨a,h1,l.imp λfl m q=>?_⟩;cases fl with|next=>exact⟨i+1,b,e2,q⟩|cont=>exact⟨i+1,b,e2,q⟩|brk=>exact q|ret v=>exact q
 . rintro ρ⟨i,hi,e,j⟩;have:i=N:=by have n:=congrArg List.length e;simp at n;omega
   subst this;exact k ρ j
theorem sy{c:Call}{i:List Nat}{one:Bool}{f:P}(J:List Sl->Prop)(P:D->Prop){Q:List D->List Sl->Prop}{ds:List D}{ρ:List Sl}(j:J ρ)(h:∀d,d∈ds->∀ρ,J ρ->∃a,cI ρ i one d=some a/\(ev c f a).sat λr g=>P r.d/\J g)(k:∀xs ρ,J ρ->xs.length=ds.length->(∀x∈xs,P x)->Q xs ρ):(lZ c i one none f ds ρ).sat Q:=by suffices hh:∀(ds:List D)(b:List D)(ρ:List Sl),J ρ->(∀x∈b,P x)->(∀d,d∈ds->∀ρ,J ρ->∃a,cI ρ i one d=some a/\(ev c f a).sat λr g=>P r.d/\J g)->(turns i one (ou c none) (ev c f) ds b ρ).sat λxs ρ=>J ρ/\(∀x∈xs,P x)/\xs.length=b.length+ds.length from(hh ds [] ρ j (by simp) h).imp λxs ρ⟨l,q2,q3⟩=>k xs ρ l (by simpa using q3) q2;intro ds;induction ds with|nil=>intro b ρ j m _;rw[ye];exact⟨j,m,by simp⟩|cons d r o=>
   intro b ρ j m h;obtain⟨a,e,h1⟩:=h d (by simp) ρ j;rw[zB,e];show((ou c none a).bind _).sat _;rw[ou];show((ev c f a).bind _).sat _;rw[cA];refine h1.imp λx g⟨p,j3⟩=>?_;refine(o (b++[x.d]) g j3 (λy hy=>?_) λd' n=>h d' (by simp[n])).imp λxs ρ⟨l,q2,q3⟩=>⟨l,q2,by simp at q3 ⊢;omega⟩;rcases mem_append.mp hy with hy|hy;.exact m y hy
   .rw[mem_singleton.mp hy];exact p
inductive A3(a b c:Prop):Prop where|mk(ha:a)(hb:b)(hc:c)
inductive A4(a b c d:Prop):Prop where|mk(ha:a)(hb:b)(hc:c)(hd:d)
inductive A5(a b c d e:Prop):Prop where|mk(ha:a)(hb:b)(hc:c)(hd:d)(he:e)
inductive A6(a b c d e f:Prop):Prop where|mk(ha:a)(hb:b)(hc:c)(hd:d)(he:e)(hf:f)
inductive A7(a b c d e f g:Prop):Prop where|mk(ha:a)(hb:b)(hc:c)(hd:d)(he:e)(hf:f)(hg:g)
inductive A8(a b c d e f g h:Prop):Prop where|mk(ha:a)(hb:b)(hc:c)(hd:d)(he:e)(hf:f)(hg:g)(hh:h)
inductive A9(a b c d e f g h i:Prop):Prop where|mk(ha:a)(hb:b)(hc:c)(hd:d)(he:e)(hf:f)(hg:g)(hh:h)(hi:i)
end HH
end
section
namespace HH
open PySem L2 PySem.Spec PyProof.Rows
section
variable{X:Cx}{c:Call}{n:Nat}{e a b d tg:Expr}{p pa pb pd:P}{pos:Pos}
theorem Gk{g:TG}{h:List Nat}(he:SX X c e p)(q:PG X tg g)(j:Ez X.K (λρ d=>cI ρ h false d) g)(hs:swapsWithSole [tg] e pos.line X.env=pure false:=by rfl)(s:swappedStores [tg] e X.env=pure none:=by rfl)(h1:(assignEach [tg] X.env).map (·.2)=[assign tg X.env]:=by rfl):SS X c n (.Assign [tg] e pos) (.Yu h p):=by
 refine dU (Gm he.ev q hs s h1) ?_;rintro D σ H⟨F,ρ,fl,t,u,e,k⟩;rw[HH.X8]at e;obtain⟨r,f,w,e⟩:=aj e;refine⟨F,ρ,r,f,u,w,λv F1 m s1 x=>?_⟩;obtain⟨F2,s2,_,o⟩:=s1.cM x;split at e;.rename_i ds hd;obtain⟨y,z,i,e⟩:=aj e;cases e;have A:=aB i;clear i;obtain⟨i,B⟩:=A;rw[hd]at o;exact j v (.tup ds) F2 f _ σ m _ s2.gs o (by show cI f h false (.tup ds)=_;cases h<;>exact i) λl s3=>k F2 l m (s2.trans s3)
 .cases e
end
section
variable{prog:Program}{w:World}{A:Around}{E:Value->Shared->Prop}{s:Shared}
theorem yV{id:String}{f:Builtin}{xs:List Value}{b:List (Str×Value)}{Q:Value->Shared->Prop}(h1:builtinKind id=none)(c:plainId id=true)(i:entryFor table id=some f)(j:argsOk id ⟨xs,b⟩)(h:wpAny (model prog w) A.in1 (f ⟨xs,b⟩) (λfin a=>match fin with|.done z=>(match(Except.ok z:Result)with|.ok (.ret v)=>Q v a|.ok _=>False|.error y=>E y a)|.again z=>z.quiet=true/\codeAny (model prog w) A z (λr a=>match r with|.ok (.ret v)=>Q v a|.ok _=>False|.error y=>E y a) a) E s):wpAny (model prog w) A (call (.builtin id) xs b) Q E s:=by refine wpAny_call (codeAny_call_builtin c i ?_);simp only[checkBuiltinCall,h1];cases e:Manifest.signature? id with|none=>exact wpAny_pure h|some g=>(have k:Bind.checkArgs id g ⟨xs,b⟩=pure ():=by simpa only[argsOk,e]using j);simp only[k];exact wpAny_pure h
end
end HH
end
section
namespace HT
open PySem PySem.Spec PyProof.Rows
section
variable{prog:Program}{w:World}{A:Around}{E:Value->Shared->Prop}{s:Shared}
theorem wF{t sl:Addr}{a:Array Value}{f g:Value}{lo hi:Option Int}{Q:Value->Shared->Prop}(ht:IsTup s.heap t a)(hs:s.heap.IsSliceOf sl f g .none)(i:IsPart f lo)(j:IsPart g hi)(h1:dB a.size 0 lo=0)(k:dB a.size a.size hi=a.size)(h:Q (.ref t) s):wpAny (model prog w) A (getItem (.ref t) (.ref sl)) Q E s:=by
 obtain⟨os,b,c,l⟩:=id hs;have m:s.TypeIs (.ref sl) "slice":=⟨os,b,c⟩;unfold getItem;try with_reducible refine wpAny_holding ?_
 first|refine wpAny_bind (wpAny_pure ?_)|skip
 refine wpAny_bind (wpAny_sequenceKey ht.typeIs (by decide) (wpAny_bind (wpAny_callSpecial?_slot (name:=Str.ofString "__getitem__") ht.typeIs slot_tuple_getitem (wpAny_call_entry slot_tuple_getitem ht.typeIs entry_tuple_getitem ?_ (args_tuple_getitem _ _)))));show wpAny _ _ (tupleItemsOf (.ref t)>>=_) _ _ s;refine wpAny_bind (tupleItemsOf_ ht (wpAny_bind (wpAny_typeOf m ?_)));rw[if_pos (by decide)];refine wpAny_bind (iz hs i j ?_);have e:((((dB a.size 0 lo:Nat):Int)==0&&(1:Int)==1&&(dB a.size a.size hi-dB a.size 0 lo)==a.size)=true):=by rw[h1,k];simp
 show wpAny _ _ (if(((dB a.size 0 lo:Nat):Int)==0&&(1:Int)==1&&(dB a.size a.size hi-dB a.size 0 lo)==a.size)=true then _ else _) _ _ s;rw[if_pos e];unfold Builtin.Tuple.tupleIsExact;refine wpAny_bind (wpAny_bind (wpAny_typeOf ht.typeIs (wpAny_pure ?_)));rw[if_pos (by decide)];exact wpAny_bind (wpAny_rule (wpAny_pure ⟨_,rfl,wpAny_pure h⟩))
end
end HT
namespace HH
open PySem L2 PySem.Spec PyProof.Rows
noncomputable def nst:Expr->Bool|.Starred _ _=>false|_=>true
theorem jd{e:Expr}{es:List Expr}{env:Env}(h:nst e=true):starEach (e::es) env=(false,eval e env)::starEach es env:=by cases e with|Starred a b=>cases h|_=>rw[starEach];(intro e p z;cases z)
noncomputable def qe:List Int->List Expr->Option (List Expr)|[],es=>some es|i::a,.Constant (.int j) _ _::es=>if i=j then qe a es else none|_,_=>none
theorem vp{X:L2.Cx}{c:Call}:∀(f:List Int){es a:List Expr}{b:List P},qe f es=some a->SA X c a b->SA X c es (f.map (λi=>P.con (.int i))++b)|[],es,a,b,h,r=>by cases h;exact r|i::f,[],a,b,h,r=>by cases h|i::f,e::es,a,b,h,r=>by cases e with
   |Constant v k p=>cases v with
     |int j=>
       replace h:(if i=j then qe f es else none)=some a:=h;split at h;.rename_i g;subst g;exact oY aa (vp f h r) (jd rfl)
       .cases h|_=>cases h
   |_=>cases h
theorem uD{n d:Nat}{o:Option Int}:HT.dB n d o=HH.dB n d o:=by cases o with|none=>rfl|some v=>
   show(if v<0 then(v+(n:Int)).toNat else min v.toNat n)=(if 0<=v then min v.toNat n else(v+n).toNat);by_cases h:0<=v;.rw[if_pos h,if_neg (by omega)]
   .rw[if_neg h,if_pos (by omega)]
theorem Ib{xs:List V}{lo hi:Option Int}:vG xs lo hi=HH.cut xs lo hi:=by unfold vG HH.cut;rw[uD,uD]
theorem aF.cut{K:PySem.W.Frag}{F:Hp}{ds:List D}{vs:List V}{lo hi:Option Int}(h:aF K F vs ds):aF K F (HH.cut vs lo hi) (HH.cut ds lo hi):=by unfold HH.cut;rw[h.length];exact(h.drop _).take _
section
variable{X:Cx}{c:Call}{n:Nat}{e a b:Expr}{p pa pb pl ph:P}{pos p2:Pos}{lo hi:Option Expr}
def ado(K:PySem.W.Frag):V->Option Int->Option Int->Hp->VK->Prop:=λx lo hi H Q=>∃F d r,aG F H/\dj K F H x d/\yK d (some lo) (some hi)=some r/\∀v g f,Ext F H g f->cF K g f H v r->Q v f
theorem XC:ZZ X (ado X.K):=by rintro f s σ H x v u w lo hi sl Q I m hs pl o⟨F,d,r,h,y,he,k⟩;cases d with|lst ds=>cases he;obtain⟨a,xs,rfl,l,i⟩:=y.lst h;refine K4 f s σ H _ v u w lo hi sl Q I m hs pl o ⟨a,xs,rfl,l,λp q=>?_⟩;rw[Ib];exact Dy h i.cut q k|tup ds=>
   cases he;obtain⟨a,xs,rfl,l,i,rt⟩:=y.tup h;by_cases j:HT.dB xs.length 0 lo=0/\HT.dB xs.length xs.length hi=xs.length
   . cases m;obtain⟨t,z,ht,hz⟩:=I.tuple l;have g:t.toArray.size=xs.length:=by rw[size_toArray];exact z.length.symm
     refine⟨"tuple",_,slot_tuple_getitem.lookup,ht.typeIs,HT.wF ht hs pl o (by rw[g];exact j.1) (by rw[g];exact j.2) ⟨.ref a,H,I,rfl,?_⟩⟩;have hc:HH.cut ds lo hi=ds:=by unfold HH.cut;rw[<-i.length,<-uD,<-uD,j.1,j.2];simp[i.length]
     rw[hc]at k;exact cF.cX h rt k
   .refine Tg f s σ H _ v u w lo hi sl Q I m hs pl o ⟨a,xs,rfl,l,j,λp q=>?_⟩;rw[Ib];exact za h i.cut q k|_=>cases he
def SO(X:Cx)(c:Call)(o:Option Expr)(p:P):Prop:=∃t,PO X o t/\∀{σ:L2.St}{H F:Hp}{ρ f:List Sl}{d:D}{i:Option Int}{Q:Option Int->Hp->Prop},GS X.K F ρ σ H->cW (isVar p) (HH.ev c p) ρ=.ok d f->part p d=some i->(∀h g,aC X.K F ρ σ H h f σ g->Q i g)->t σ H Q
theorem fG:SO X c none (.con .non):=by refine⟨_,JC,λ{σ H F ρ f d i Q}g e h k=>?_⟩;cases(show some none=some i from h);have j:(HH.ev c (.con .non) ρ).bind (λr ρ=>.ok r.d ρ)=.ok d f:=e;clear e;rw[HH.E2]at j;cases j;exact k F H (.refl g)
theorem dG(h:SX X c e p)(l:Xh p=false:=by rfl):SO X c (some e) p:=by obtain⟨t,h1,m⟩:=h.cW;refine⟨_,Kf h1,λ{σ H F ρ o d i Q}g e f k=>?_⟩;unfold part at f;rw[l,if_neg (by decide)]at f;obtain⟨j,q,r⟩:=map_some f;cases di q;subst r;exact m g e λv u w s x=>⟨j,x.int,k u w s⟩
theorem v7{d:D}{x y:Option (Option Int)}{r:R}(h:yK d x y=some r):∃lo hi,x=some lo/\y=some hi:=by cases x with|none=>cases d<;>cases h|some lo=>cases y with|none=>cases d<;>cases h|some hi=>exact⟨lo,hi,rfl,rfl⟩
theorem dh(Y:SX X c a pa)(hl:SO X c lo pl)(hh:SO X c hi ph):SX X c (.Subscript a (.Slice lo hi none p2) pos) (.slice pa pl ph):=by obtain⟨tl,Z,l2⟩:=hl;obtain⟨th,h1,h2⟩:=hh;cases hv:isVar pa with|none=>refine⟨eY (xu XC Y.ev Z h1) ?_,λi h=>by cases h⟩;rintro σ H Q⟨F,ρ,r,A,g,e,k⟩;rw[HH.E14,hv]at e;obtain⟨x,B,f,j⟩:=aj e;clear e;have YB:(HH.ev c pa ρ).bind (λr ρ=>.ok r.d ρ)=.ok x B:=f;clear f;obtain⟨rx,ac,e1,C⟩:=aj YB;clear YB;cases C;obtain⟨y,E,G,l⟩:=aj j;clear j;obtain⟨z,I,J,m⟩:=aj l;clear l;obtain⟨e,L⟩:=aB m;clear m;subst L;obtain⟨M,N,o,q⟩:=v7 e;rw[o,q]at e;refine⟨F,ρ,rx,_,g,e1,λv F1 H1 s1 rr=>?_⟩;obtain⟨F2,s2,_,rp⟩:=s1.cM rr;refine l2 s2.gs G o λF3 H3 s3=>h2 s3.gs J q λF4 H4 s4=>?_;have s5:=s2.trans (s3.trans s4);refine⟨F4,_,r,s4.gs.sub,.inl ((rp.mono s3.bU).mono s4.bU),e,λv O U x W=>?_⟩;exact k v O U (s5.trans (x.stp s5.gs)) (.later s5 (W.qp s5.gs))|some i=>refine⟨eY (xu XC (Y.var i hv) Z h1) ?_,λi h=>by cases h⟩;rintro σ H Q⟨F,ρ,r,A,g,e,k⟩;rw[HH.E14,hv]at e;obtain⟨x0,ae,s,j⟩:=aj e;clear e;obtain⟨C,zO⟩:=aB s;clear s;subst zO;obtain⟨y,E,G,l⟩:=aj j;clear j;obtain⟨z,I,J,m⟩:=aj l;clear l;obtain⟨x,af,t,ed⟩:=aj m;clear m;obtain⟨e5,e6⟩:=aB t;clear t;subst e6;obtain⟨e,L⟩:=aB ed;clear ed;subst L;obtain⟨M,N,o,q⟩:=v7 e;rw[o,q]at e;obtain⟨v,u,_⟩:=g.pk C;refine⟨v,u,l2 g G o λF3 H3 s3=>h2 s3.gs J q λF4 H4 s4=>?_⟩;have s5:=s3.trans s4;obtain⟨v',w,pv⟩:=s5.gs.pk e5;rw[u]at w;cases w;refine⟨F4,_,r,s4.gs.sub,pv,e,λv O U x W=>?_⟩;exact k v O U (s5.trans (x.stp s5.gs)) (.later s5 (W.qp s5.gs))
theorem Ye:dC X (.type "int") (Ht X.K λx=>blt .int [x]):=by rintro f s σ H xs g Q I r⟨x,h,F,d,j,l,m,he,k⟩;cases d with|int i=>cases(show some _=some j from he);exact tR f s σ H xs g Q I r (.inl ⟨i,by rw[h,m.int],cF.cX l (bC _) k⟩)|bl b=>cases(show some _=some j from he);exact tR f s σ H xs g Q I r (.inr ⟨b,by rw[h,m.bl],cF.cX l (bC _) k⟩)|_=>cases he
theorem KZ{x:Str}{f:Pos}(g:x="int")(i:Gl X x)(j:X.mg x=none)(k:SX X c a pa)(hs:starEach [a] X.env=(false,eval a X.env)::starEach [] X.env:=by rfl):SX X c (.Call (.Name x f) [a] [] pos) (.blt .int [pa]):=by subst g;exact km (λh=>jV Ye i j (by decide+kernel) h (he:=hs)) k (λρ=>rfl) rfl hs
theorem QT{i:Nat}{x:Str}{t:Pos}{op:Operator}{sub:Bool}(ho:MJ X op (Vj λi j=>if sub then i-j else i+j))(w:X.N.Nodup)(hi:X.N[i]?=some x)(y:Loc X.env.scope x)(he:SX X c e p)(z:X.fn x=true\/X.env.scope.names.lookup x=some .local:=by first|exact .inl rfl|exact .inr rfl|assumption):SS X c n (.AugAssign (.Name x t) op e pos) (.aug i sub p):=by
 obtain⟨te,h1,A⟩:=he.cW;refine dU (Q6 w hi y h1 ho z) ?_;rintro D σ H⟨F,ρ,fl,B,g,e,k⟩;rw[HH.X16]at e;obtain⟨a0,C,f,s⟩:=aj e;clear e;obtain⟨E,G⟩:=aB f;clear f;subst G;obtain⟨b0,I,J,o⟩:=aj s;clear s;obtain⟨v,q,L⟩:=g.pk E;refine⟨v,q,A g J λu F1 M s1 O=>?_⟩;split at o;.rename_i h l;obtain⟨Q,U,m,W⟩:=aj o;clear o;cases W;obtain⟨Y,e3⟩:=aB m;clear m;have Z:Rep X.K F1 (.int (if sub then h-l else h+l)) (.int (if sub then h-l else h+l)):=bC _;exact⟨h,l,L.int,O.int,k F1 _ M (aC.put (r:=.val (.int _)) s1 Z Y)⟩
 .cases o
theorem Kh:MJ X .Add (Vj λi j=>if false then i-j else i+j):=Ri
theorem J3:MJ X .Sub (Vj λi j=>if true then i-j else i+j):=QH
end
end HH
end
section
namespace L2
open PySem PySem.Spec PyProof.Rows
section
variable{X:Cx}{tg:Expr}
theorem vL:bootBuiltins "tuple"=some (.type "tuple"):=by decide+kernel
theorem qN:bootBuiltins "reversed"=some (.type "reversed"):=by decide+kernel
end
end L2
namespace HH
open PySem L2 PySem.Spec PyProof.Rows
section
variable{K:PySem.W.Frag}{F F1 H H1:Hp}{ρ ρ1:List Sl}{σ:L2.St}{ds:List D}{a:Addr}
theorem aF.rev:∀{ds:List D}{xs:List V},aF K F xs ds->aF K F xs.reverse ds.reverse|[],_,h=>by rw[h.eZ];exact .nil|d::ds,_,h=>by obtain⟨v,r,rfl,h1,b⟩:=h.cC;rw[reverse_cons,reverse_cons];exact(aF.rev b).append (.cons h1 .nil)
end
end HH
end
section
namespace PySem
namespace F
theorem Ia:typeLookup (.type "list_reverseiterator") "__len__"=pure none:=by rw[typeLookup_type,builtinLookup_eq_fast];kernel_rfl
theorem LK:typeLookup (.type "list_reverseiterator") "__length_hint__"=pure (some (.builtin "list_reverseiterator.__length_hint__")):=by rw[typeLookup_type,builtinLookup_eq_fast];kernel_rfl
end F
section
variable{prog:Program}{w:World}{A:Around}{E:Value->Shared->Prop}{s:Shared}
theorem oO{e l:Addr}{items:Array Value}{Q:Bool->Shared->Prop}(f:s.heap.IsRevIter e l ((items.size:Int)-1))(n:s.heap.IsList l items)(j:items.size<=2^24)(h:∀b k,s.toks<=k->Q b {s with toks:=k}):wpAny (model prog w) A (listLengthHint (.ref e)) Q E s:=by
 have g:=f.typeIs;unfold listLengthHint;refine wpAny_bind (wpAny_specialOf g F.Ia ?_);show wpAny _ _ (specialOf (Value.ref e) (Str.ofString "__length_hint__")>>=_) _ _ _;refine wpAny_bind (wpAny_specialOf g F.LK ?_);generalize a:("list_reverseiterator.__length_hint__":String)=c;(fail_if_success(clear a c));wp_delta;rw[show splitId c=some ("list_reverseiterator","__length_hint__")from by subst a;decide+kernel];subst a;refine wpAny_bind (wpAny_isInstance (b:=true) g (by rw[isSubtype_type];kernel_rfl) ?_);rw[if_neg (by decide)];dsimp only;split;.refine wpAny_ite_split (λi=>absurd i (by decide+kernel)) (λ_=>?_);exact wpAny_pure (h _ s.toks (dm))
 .rename_i m;exact absurd (by decide+kernel) m
theorem mG{R:Result->Shared->Prop}{I l:Addr}{items:Array Value}(U:A.handled=none)(j:s.heap.IsRevIter I l ((items.size:Int)-1))(H:s.heap.IsList l items)(J:l≠I)(u:items.size<=2^24)(S:Addr)(m:S≠I)(x:S≠l)(res:Value)(k:Nat)(L:s.heap.get? S=some {cls:=.type "list",data:=.seq #[] k})(X:∀ h' y a t,(∀ b o,b ≠ S->b ≠ I->s.heap.get? b=some o->h'.get? b=some o)->h'.get? S=some {cls:=.type "list",dict:=none,data:=.seq a t,slots:=#[]}->ItemsOf (λi v=>items[items.size-1-i]?=some v) a items.size->R (.ok (.ret res)) {s with heap:=h',toks:=y}):wpAny (model prog w) A.in1 (listExtendWith (.ref S) (.ref I) res) (λfin n=>match fin with|.done f=>R (.ok f) n|.again t=>t.quiet=true/\codeAny (model prog w) A t R n) (λe n=>R (.error e) n) s:=by
 have M:S∉[I,l]:=λhm=>by
  rcases mem_cons.mp hm with e|hm;.exact m e
  .exact x (mem_singleton.mp hm)
 have W:=(Walks.listRev (prog:=prog) (w:=w) (A:=A.in1) U I l J items).toS;have Y:s.TypeIs (.ref I) "list_reverseiterator":=j.typeIs;have z:∀(h:Heap)(c y:Nat),h.IsRevIter I l ((items.size:Int)-1-((0:Nat):Int))->h.IsList l items->(∀b o,b≠S->s.heap.get? b=some o->h.get? b=some o)->h.get? S=some {cls:=.type "list",data:=.seq #[] c}->codeAny (model prog w) A (.builtin "list.extend.loop" ⟨[.ref S,.ref I,res],[]⟩) R {s with heap:=h,toks:=y}:=by
  intro h c y hi N Z p;refine codeAny_extend_loopS W (by rw[sizeLine_eq];omega) S M res items.size 0 _ #[] c rfl (BZ) ⟨BZ,hi,N⟩ p (ItemsOf.nil _) λn a t hm O B=>?_;rw[Moved.eq_with hm];refine X n.heap n.toks a t (λb o C Q e=>hm.heap b o (λhmem=>?_) (Z b o C e)) O B;rcases mem_cons.mp hmem with e'|hmem;.exact C e'
  .exact Q (mem_singleton.mp hmem)
 unfold listExtendWith;refine wpAny_bind (wpAny_typeOf Y ?_);have h1:listSameRef (.ref S) (.ref I)=false:=by simp[listSameRef,m]
 have h2:(Value.type "list_reverseiterator"==Value.type "list")=false:=by decide
 have h3:(Value.type "list_reverseiterator"==Value.type "tuple")=false:=by decide
 simp only[h1,h2,h3,Bool.or_false,false_eq_true,if_false];refine wpAny_bind (wpAny_pyIter_revIter j ?_);refine wpAny_bind (wpAny_holding (oO j H u λbb y ac=>?_));have G:s.heap.IsRevIter I l ((items.size:Int)-1-((0:Nat):Int)):=by simpa using j
 refine wpAny_ite_split (λ_=>?_) (λ_=>wpAny_pure ⟨plainId_quiet F.plain_extend_loop _,z _ k _ G H (λb o _ e=>e) L⟩);refine wpAny_bind (wpAny_rule ?_);refine wpAny_bind ?_;show wpAny _ _ (updateSeq S (·.push .none)>>=λ_=>updateSeq S (·.pop)) _ _ _;refine wpAny_bind (wpAny_updateSeq L rfl ?_);have g:=get?_update_self (Obj.mapSeq (·.push Value.none)) L rfl;refine wpAny_updateSeq (hz:=by seq_fits) g rfl ?_;have q:=get?_update_self (Obj.mapSeq (·.pop)) g rfl;have r:∀b o,b≠S->s.heap.get? b=some o->((s.heap.update S (Obj.mapSeq (·.push Value.none))).update S (Obj.mapSeq (·.pop))).get? b=some o:=λb o C e=>(get?_update_other _ _ (Ne.symm C)).trans ((get?_update_other _ _ (Ne.symm C)).trans e);exact wpAny_pure ⟨plainId_quiet F.plain_extend_loop _,z _ _ _ (G.at λo e=>r I o (Ne.symm m) e) (H.at λo e=>r l o (Ne.symm x) e) r q⟩
end
end PySem
namespace L2
open PySem PySem.Spec PyProof.Rows
end L2
namespace HH
open PySem L2 PySem.Spec PyProof.Rows
end HH
end
section
namespace HH
open PySem
theorem wR:∀a b:List Int,cZ a b=true->cZ b a=false
 |[],[],h=>by simp[cZ]at h|[],_::_,_=>by simp[cZ]|_::_,[],h=>by simp[cZ]at h|x::a,y::b,h=>by
   simp only[cZ,or_eq_true,decide_eq_true_eq,and_eq_true]at h;simp only[cZ,Bool.or_eq_false_iff,decide_eq_false_iff_not,Bool.and_eq_false_iff];rcases h with h|⟨h,h'⟩;.exact⟨by omega,.inl (by omega)⟩
   .exact⟨by omega,.inr (wR a b h')⟩
theorem FZ:∀a b c:List Int,cZ b a=false->cZ c b=false->cZ c a=false
 |[],_,c,_,_=>by cases c<;>simp[cZ]|_::_,[],_,h,_=>by simp[cZ]at h|_::_,_::_,[],_,h=>by simp[cZ]at h|x::a,y::b,z::c,h1,f=>by
   simp only[cZ,Bool.or_eq_false_iff,decide_eq_false_iff_not,Bool.and_eq_false_iff]at h1 f ⊢;refine⟨by omega,?_⟩;by_cases e:z=x;.right;exact FZ a b c (h1.2.resolve_left (by omega)) (f.2.resolve_left (by omega))
   .exact .inl e
theorem xr:∀a b:List Int,cZ a b=false->cZ b a=false->a=b
 |[],[],_,_=>rfl|[],_::_,h,_=>by simp[cZ]at h|_::_,[],_,h=>by simp[cZ]at h|x::a,y::b,h1,c=>by
   simp only[cZ,Bool.or_eq_false_iff,decide_eq_false_iff_not,Bool.and_eq_false_iff]at h1 c;have e:x=y:=by omega
   subst e;rw[xr a b (h1.2.resolve_left (by simp)) (c.2.resolve_left (by simp))]
theorem vR:∀{xs ys:List D},xs.all gP=true->ys.all gP=true->xs.map rH=ys.map rH->xs=ys
 |[],[],_,_,_=>rfl|[],_::_,_,_,h=>by simp at h|_::_,[],_,_,h=>by simp at h|x::xs,y::ys,h1,a,h=>by
   simp only[all_cons,and_eq_true]at h1 a;simp only[map_cons,List.cons.injEq]at h;obtain⟨i,rfl⟩:∃i,x=.int i:=by cases x<;>first|exact⟨_,rfl⟩|(have q:=h1.1;simp[gP]at q;done)
   obtain⟨j,rfl⟩:∃j,y=.int j:=by cases y<;>first|exact⟨_,rfl⟩|(have q:=a.1;simp[gP]at q;done)
   rw[vR h1.2 a.2 h.2,show i=j from h.1]
theorem Ca{x y:D}(h:(gP x=true/\gP y=true)\/(yD x=true/\yD y=true))(e:qd x=qd y):x=y:=by
 rcases h with⟨h1,a⟩|⟨h1,a⟩
 . cases x<;>first|(simp[gP]at h1;done)|skip
   cases y<;>first|(simp[gP]at a;done)|skip
   simpa[qd]using e
 . cases x<;>first|(simp[yD]at h1;done)|skip
   cases y<;>first|(simp[yD]at a;done)|skip
   rename_i xs ys;cases xs<;>first|(simp[yD]at h1;done)|skip
   cases ys<;>first|(simp[yD]at a;done)|skip
   rw[vR h1 a e]
noncomputable def p6(a b:D):Bool:=!cZ (qd b) (qd a)
theorem wH(ds:List D):(srt ds).Perm ds:=List.mergeSort_perm ..
theorem JV(a b c:D)(h1:p6 a b=true)(e:p6 b c=true):p6 a c=true:=by simp only[p6,Bool.not_eq_true']at*;exact FZ _ _ _ h1 e
theorem Gh(a b:D):(p6 a b||p6 b a)=true:=by simp only[p6,or_eq_true,Bool.not_eq_true'];cases h:cZ (qd b) (qd a)with|false=>exact .inl rfl|true=>exact .inr (wR _ _ h)
theorem zu(ds:List D):(srt ds).Pairwise λa b=>p6 a b=true:=List.pairwise_mergeSort JV Gh ds
theorem uI{ds:List D}(h:sortable ds=true):∀x∈ds,∀y∈ds,qd x=qd y->x=y:=by
 simp only[sortable,and_eq_true,or_eq_true,all_eq_true]at h;intro x a y b e;rcases h.2 with h|h;.exact Ca (.inl ⟨h x a,h y b⟩) e
 .exact Ca (.inr ⟨h x a,h y b⟩) e
theorem VP{ds l:List D}(h:sortable ds=true)(p:l.Perm ds)(s:l.Pairwise λa b=>p6 a b=true):l=srt ds:=by refine List.Perm.eq_of_pairwise (le:=λa b=>p6 a b=true) (λa b e f h1 c=>?_) s (zu ds) (p.trans (wH ds).symm);simp only[p6,Bool.not_eq_true']at h1 c;exact uI h a (p.mem_iff.mp e) b ((wH ds).mem_iff.mp f) (xr _ _ c h1)
end HH
end
section
namespace HH
open PySem L2 PySem.Spec PyProof.Rows PySem.Calls PySem.W
theorem all_ints:∀{ds:List D},ds.all gP=true->ds=(ds.map rH).map D.int
 |[],_=>rfl|d::ds,h=>by
   simp only[all_cons,and_eq_true]at h;cases d<;>first|(have q:=h.1;simp[gP]at q;done)|skip
   rw[map_cons,map_cons,<-all_ints h.2];rfl
theorem intsAre_of:∀{ns:List Int}{a:List Value},Vals (ns.map V.int) a->IntsAre a ns|[],_,.nil=>.nil|n::ns,_,.cons r t=>by obtain⟨b,rfl⟩:=r;exact .cons n b (intsAre_of t)
end HH
end
section
namespace HH
open PySem L2 PySem.Spec PyProof.Rows PySem.Calls
theorem yt(l b:Addr)(items a:List Value)(n J:Nat)(L o:Option Addr)(sl r:Array (Option Value))(v z:List Int)(hi:IntsAre items v)(I:IntsAre a z):Meets (Builtin.«tuple.__lt__» ⟨[.ref l,.ref b],[]⟩) (λA R s=>s.heap.get? l=some {cls:=.type "tuple",dict:=L,data:=.seq items.toArray n,slots:=sl}/\s.heap.get? b=some {cls:=.type "tuple",dict:=o,data:=.seq a.toArray J,slots:=r}/\R (.ok (.ret (.bool (cZ v z)))) s):=.of_wp λprog w A R s h=>by
  obtain⟨B,g,d,C,os⟩:=s;obtain⟨M,N,h⟩:=h;have f2:=AutoSeq1.sub_tuple_tuple;wp_walk using wpAny_loadPart' M,wpAny_loadPart' N,wpAny_forIn_list _ (λf b E=>b.1=none/\E=⟨B,g,d,C,os⟩/\∃xs ys c j,f=xs.zip ys/\IntsAre xs c/\IntsAre ys j/\decide (items.length<a.length)=decide (c.length<j.length)/\R (.ok (.ret (.bool (cZ c j)))) ⟨B,g,d,C,os⟩) _;case turn=>rintro⟨y,x⟩f b E⟨i,rfl,xs,ys,c,j,hz,h1,k,G,m⟩;cases h1 with|nil=>cases hz|cons p t h1=>cases k with|nil=>cases hz|cons q u k=>
       injection hz with hyx hrest;cases hyx;refine wpAny_bind (wpAny_eqBool_int ?_);by_cases e:p=q;.subst e;rw[beq_self_eq_true];wp_walk;exact⟨rfl,rfl,_,_,_,_,hrest,h1,k,by rw[G];simp,by simpa[cZ]using m⟩
       . rw[beq_eq_false_iff_ne.mpr e];have H:R (.ok (.ret (.bool (decide (p<q))))) ⟨B,g,d,C,os⟩:=by simpa[cZ,e]using m
         simp only[Bool.not_false,if_true];refine wpAny_bind (wpAny_rule ?_);refine wpAny_bind (show wpAny (model prog w) A.in1 (compareOp .Lt (Value.int p t) (Value.int q u)) _ _ _ from wpAny_lt_int ?_);refine wpAny_bind (wpAny_pure ?_);exact wpAny_pure (wpAny_pure ⟨_,rfl,H⟩)
  case fin=>
   rintro⟨b1,b2⟩E⟨i,rfl,xs,ys,c,j,hz,h1,k,G,m⟩;simp only at i;subst i;have e:cZ c j=decide (items.length<a.length):=by rw[G];cases h1 with|nil=>cases k<;>simp[cZ]|cons _ _ _=>cases k with|nil=>simp[cZ]|cons _ _ _=>cases hz
   rw[e]at m;wp_walk;exact⟨_,rfl,by simpa[Builtin.Tuple.tupleCompareSizes]using m⟩
  case h=>exact⟨rfl,rfl,items,a,v,z,by simp,hi,I,by rw[IntsAre.length hi,IntsAre.length I],h⟩
section
variable{X:Cx}
theorem nJ(hu:X.A.units+8<cLine):fW X (compareOp .Lt) (rD X.K (pg .lt)):=by rintro f s σ H x y v u Q I G J⟨F,d,e,r,p,L,M,he,k⟩;obtain⟨t,c,q⟩:=map_some (show(WL d e).map _=some r from he);subst q;cases d with
 |int i=>cases e with|int j=>exact Th f s σ H x y v u Q I G J ⟨F,.int i,.int j,_,p,L,M,by have q:Jt (λi j=>decide (i<j)) (.int i) (.int j)=some t:=c;simp only[q];rfl,k⟩|_=>cases c
 |tup xs=>cases e with|tup ys=>obtain⟨hc,c⟩:=bB (show(if(xs.all gP&&ys.all gP)=true then some (cZ (xs.map rH) (ys.map rH))else none)=some t from c);rw[and_eq_true]at hc;obtain⟨a,vs,rfl,h1,N,_⟩:=L.tup p;obtain⟨b,ws,rfl,Z,O,_⟩:=M.tup p;cases G;cases J;obtain⟨z,U,it,_⟩:=I.tuple h1;obtain⟨g,W,B,_⟩:=I.tuple Z;rw[all_ints hc.1]at N;rw[all_ints hc.2]at O;rw[gD N]at U;rw[gD O]at W;have i1:=intsAre_of U;have i2:=intsAre_of W;obtain⟨⟨cls,dd,data,sl⟩,ho,h,n,hd⟩:=it;obtain⟨⟨Y,C,data2,E⟩,l,m,n2,o⟩:=B;simp only at h hd m o;subst h hd m o;refine(show wpAny (model X.prog X.w) X.A (richCompare .Lt (.ref a) (.ref b)) _ _ s from richCompare_meets_room (op:=.Lt) ⟨_,ho,rfl⟩ ⟨_,l,rfl⟩ PySem.F.slot_tuple_lt PySem.F.entry_tuple_lt (PySem.F.args_tuple_lt_2 _ _) (yt a b z g n n2 dd C sl E _ _ i1 i2) ⟨ho,l,show Value.bool _≠Value.notImplemented/\_ from⟨(λx=>nomatch x),⟨.bl t,H,I,by rw[<-c];rfl,cF.cX p (fO _) k⟩⟩⟩ (by omega))|_=>cases c
 |_=>cases c
end
end HH
end
section
namespace L2
open PySem PySem.Spec PyProof.Rows
variable{y:V}{w:World}{H:Hp}{Q:Value->Shared->Prop}{pos:Pos}{X:Cx}
section
variable{κ:Type}[DecidableEq κ]
noncomputable def jl(kvs:List (κ×V))(k:κ):Option V:=(kvs.find? λa=>decide (a.1=k)).map (·.2)
noncomputable def putK(kvs:List (κ×V))(k:κ)(v:V):List (κ×V):=if(kvs.any λa=>decide (a.1=k))=true then kvs.map (λa=>if a.1=k then(a.1,v)else a)else kvs++[(k,v)]
theorem lW{p:κ×V}{r:List (κ×V)}{k:κ}(e:p.1=k):jl (p::r) k=some p.2:=by simp[jl,find?_cons,e]
theorem lR{p:κ×V}{r:List (κ×V)}{k:κ}(e:¬ p.1=k):jl (p::r) k=jl r k:=by simp[jl,find?_cons,e]
theorem qx(k:κ):∀kvs:List (κ×V),(kvs.any λa=>decide (a.1=k))=(jl kvs k).isSome
 |[]=>rfl|p::r=>by
   rw[any_cons];by_cases e:p.1=k;.simp only[lW e,decide_eq_true e,Bool.true_or,Option.isSome_some]
   .rw[lR e,decide_eq_false e,Bool.false_or];exact qx k r
theorem jH(kvs:List (κ×V))(k:κ)(v:V):(putK kvs k v).length<=kvs.length+1:=by
 unfold putK;split;.rw[length_map];omega
 .rw[length_append,length_cons,length_nil];omega
theorem rG.ir{o:Option V}{u:Option Value}(r:rG o u):o.isSome=u.isSome:=by cases o with
 |none=>cases u with|none=>rfl|some _=>exact(show False from r).elim
 |some _=>cases u with|none=>exact(show False from r).elim|some _=>rfl
theorem KV.val{kvs:List (κ×V)}{vs:List (κ×Value)}(r:KV kvs vs)(k:κ):rG (jl kvs k) (valueAt vs k):=by unfold KV at r;induction r with|nil=>exact True.intro|@cons p q ps a h t f=>
   obtain⟨h1,g⟩:=h;by_cases e:p.1=k
   . have c:q.1=k:=h1.symm.trans e;have b:valueAt (q::a) k=some q.2:=by simp[valueAt,find?_cons,c]
     rw[lW e,b];exact g
   . have c:¬ q.1=k:=λz=>e (h1.trans z);have b:valueAt (q::a) k=valueAt a k:=by simp[valueAt,find?_cons,c]
     rw[lR e,b];exact f
theorem KV.any{kvs:List (κ×V)}{vs:List (κ×Value)}(r:KV kvs vs)(k:κ):(kvs.any λa=>decide (a.1=k))=vs.any λa=>decide (a.1=k):=by unfold KV at r;induction r with|nil=>rfl|cons h t b=>rw[any_cons,any_cons,b,h.1]
theorem KV.repl{kvs:List (κ×V)}{vs:List (κ×Value)}(r:KV kvs vs)(k:κ){u:Value}(b:RelV y u):KV (kvs.map λa=>if a.1=k then(a.1,y)else a) (vs.map λa=>if a.1=k then(a.1,u)else a):=by unfold KV at r ⊢;induction r with|nil=>exact .nil|@cons p q ps g h t c=>
   rw[map_cons,map_cons];refine .cons ?_ c;obtain⟨h1,f⟩:=h;by_cases e:p.1=k;.rw[if_pos e,if_pos (h1.symm.trans e)];exact⟨h1,b⟩
   .rw[if_neg e,if_neg (λz=>e (h1.trans z))];exact⟨h1,f⟩
theorem KV.put{kvs:List (κ×V)}{vs:List (κ×Value)}(r:KV kvs vs)(k:κ){u:Value}(a:RelV y u):KV (putK kvs k y) (stored vs k u):=by
 unfold putK stored;rw[r.any k];by_cases e:(vs.any λb=>decide (b.1=k))=true;.rw[if_pos e,if_pos e];exact r.repl k a
 .rw[if_neg e,if_neg e];exact Paired.snoc r ⟨rfl,a⟩
theorem KV.length{kvs:List (κ×V)}{vs:List (κ×Value)}(r:KV kvs vs):kvs.length=vs.length:=Paired.length r
end
theorem sJ{P:Program}{k:Key}{u:Value}(r:RelV (kV k) u):(bY P w).is k u=true:=by cases k with|inl i=>obtain⟨t,e⟩:=(show ∃t,u=Value.int i t from r);subst e;exact wu P w i t|inr x=>obtain⟨t,e⟩:=(show ∃t,u=Value.str x t from r);subst e;exact v8 P w x t
theorem tu{P:Program}{w:World}:∀{ks:List Key}{a:List Value},Vals (ks.map kV) a->ItemsAre (bY P w) ks a|[],_,r=>by rw[map_nil]at r;cases r;exact .nil|k::ks,_,r=>by rw[map_cons]at r;cases r with|cons h t=>exact .cons (sJ h) (tu t)
abbrev KT(H:Hp):List (List Key×V)->List (List Key×Addr×Value)->Prop:=Paired λp q=>p.1=q.1/\H q.2.1=some (.tup (p.1.map kV))/\RelV p.2 q.2.2
theorem KT.val{kvs:List (List Key×V)}{xs:List (List Key×Addr×Value)}(r:KT H kvs xs)(k:List Key):rG (jl kvs k) ((atKey xs k).map (·.2)):=by induction r with|nil=>exact True.intro|@cons p q ps a h t f=>
   obtain⟨h1,_,g⟩:=h;by_cases e:p.1=k
   . have c:q.1=k:=h1.symm.trans e;have b:atKey (q::a) k=some q.2:=by simp[atKey,find?_cons,c]
     rw[lW e,b];exact g
   . have c:¬ q.1=k:=λz=>e (h1.trans z);have b:atKey (q::a) k=atKey a k:=by simp[atKey,find?_cons,c]
     rw[lR e,b];exact f
theorem KT.repl{kvs:List (List Key×V)}{xs:List (List Key×Addr×Value)}(r:KT H kvs xs)(k:List Key){u:Value}(c:RelV y u):KT H (kvs.map λa=>if a.1=k then(a.1,y)else a) (xs.map (putAt k u)):=by induction r with|nil=>exact .nil|@cons p q ps i h t f=>
   rw[map_cons,map_cons];refine .cons ?_ f;obtain⟨h1,b,g⟩:=h;unfold putAt;by_cases e:p.1=k;.rw[if_pos e,if_pos (h1.symm.trans e)];exact⟨h1,b,c⟩
   .rw[if_neg e,if_neg (λz=>e (h1.trans z))];exact⟨h1,b,g⟩
theorem KT.put{kvs:List (List Key×V)}{xs:List (List Key×Addr×Value)}(r:KT H kvs xs)(k:List Key){b:Addr}{u:Value}(c:H b=some (.tup (k.map kV)))(a:RelV y u):KT H (putK kvs k y) (storedH xs k b u):=by
 have e:(kvs.any λf=>decide (f.1=k))=(atKey xs k).isSome:=by rw[qx,(r.val k).ir,isSome_map]
 unfold putK storedH;rw[e];by_cases q:(atKey xs k).isSome=true;.rw[if_pos q,if_pos q];exact r.repl k a
 .rw[if_neg q,if_neg q];exact Paired.snoc r ⟨rfl,c,a⟩
theorem KT.keeps{a:Hp}{kvs:List (List Key×V)}{xs:List (List Key×Addr×Value)}(r:KT H kvs xs)(ht:∀b ys,H b=some (.tup ys)->a b=some (.tup ys)):KT a kvs xs:=Paired.Pb r λ_ _ z=>⟨z.1,ht _ _ z.2.1,z.2.2⟩
section
variable{P:Program}{w:World}{H:Hp}{h:Heap}{a:Addr}
theorem Od{u:HO}(ok:mW P w H h)(e:Rd H a u):cz P w H h a u:=e.ok ok
theorem wX{kvs:List (Key×V)}(ok:mW P w H h)(e:Rd H a (.dK kvs)):kvs.length<=sizeLine/\(a==sysModules)=false/\∃vs,KV kvs vs/\h.DictOf (bY P w) a vs:=show cz P w H h a (.dK kvs)from Od ok e
theorem Nb{kvs:List (Key×V)}(ok:mW P w H h)(e:H a=some (.dK kvs)):kvs.length<=sizeLine/\(a==sysModules)=false/\∃vs,KV kvs vs/\h.DictOf (bY P w) a vs:=wX ok (.inl e)
theorem qX{ks:List Key}(ok:mW P w H h)(e:H a=some (.tup (ks.map kV))):(tupleKind (bY P w)).is h ks a:=by obtain⟨_,b,r,o,h1,c,n,f⟩:=(show cz P w H h a (.tup (ks.map kV))from ok a _ e);exact⟨o,b.toArray,n,h1,c,f,by simpa using tu r⟩
theorem wj{kvs:List (List Key×V)}(ok:mW P w H h)(e:Rd H a (.dT kvs)):kvs.length<=sizeLine/\(a==sysModules)=false/\∃xs,KT H kvs xs/\h.DictOfH (tupleKind (bY P w)) a xs:=by
 obtain⟨z,y,xs,r,o,es,ep,h1,c,f,g,i⟩:=(show cz P w H h a (.dT kvs)from Od ok e);refine⟨z,y,xs,r,o,es,ep,h1,c,f,g,λx hx=>?_,i⟩;have all:∀{l:List (List Key×V)}{m:List (List Key×Addr×Value)},KT H l m->∀x∈m,(tupleKind (bY P w)).is h x.1 x.2.1:=by intro l m q;induction q with|nil=>intro x hx;exact nomatch hx|@cons p q ps k b t j=>
    intro x hx;rcases mem_cons.mp hx with e|hx;.subst e;exact qX ok (by rw[<-b.1];exact b.2.1)
    .exact j x hx
 exact all r x hx
theorem Xr{kvs:List (List Key×V)}(ok:mW P w H h)(e:H a=some (.dT kvs)):kvs.length<=sizeLine/\(a==sysModules)=false/\∃xs,KT H kvs xs/\h.DictOfH (tupleKind (bY P w)) a xs:=wj ok (.inl e)
end
def qL(H:Hp)(a:Addr)(y:V)(r:Option V):Prop:=(∃kvs k,Rd H a (.dK kvs)/\y=kV k/\r=jl kvs k)\/∃kvs k b,Rd H a (.dT kvs)/\y=.ref b/\H b=some (.tup (k.map kV))/\r=jl kvs k
def Xi(H:Hp)(a:Addr)(y v:V)(c:Hp):Prop:=(∃kvs k,H a=some (.dK kvs)/\y=kV k/\kvs.length<sizeLine/\c=upd H a (.dK (putK kvs k v)))\/∃kvs k b,H a=some (.dT kvs)/\y=.ref b/\H b=some (.tup (k.map kV))/\kvs.length<sizeLine/\c=upd H a (.dT (putK kvs k v))
section
variable{X:Cx}{pins:List (Addr×Obj)}{σ:St}{H:Hp}{s:Shared}{a:Addr}{y v:V}{u r:Value}{o:Option V}{A:Around}{E:Value->Shared->Prop}
theorem Inv.big(I:Inv X pins σ H s):sysModules<s.heap.objs.size:=by have h:mainGlobals<s.heap.objs.size:=(I.mod.glob.keeps I.bk).lt;exact Nat.lt_trans (by decide) h
theorem nF(B:A.units+1<cLine)(I:Inv X pins σ H s)(g:qL H a y (some v))(t:RelV y u)(h:∀f x,Inv X pins σ H x->RelV v f->Q f x):wpAny (model X.prog X.w) A (getItem (.ref a) u) Q E s:=by
 rcases g with⟨kvs,k,e,i,l⟩|⟨kvs,k,b,e,i,C,l⟩;.subst i;obtain⟨z,hd,vs,c,j⟩:=wX I.hok e;obtain⟨f,m,n⟩:=rG.some_of (v:=v) (o:=valueAt vs k) (by rw[l];exact c.val k);exact wpAny_getItem_of (sJ t) j.mapOf m (h f _ (I.tok _) n)
 .subst i;cases(show u=Value.ref b from t);obtain⟨z,hd,xs,c,j⟩:=wj I.hok e;obtain⟨f,m,n⟩:=rG.some_of (v:=v) (o:=(atKey xs k).map (·.2)) (by rw[l];exact c.val k);obtain⟨p,G,q⟩:=map_eq_some_iff.mp m;refine wpAny_getItem_heap (tupleKind_room_in1 B) (qX I.hok C) j G ?_;rw[q];exact h f _ (I.tok _) n
theorem Yk(n:A.units+1<cLine)(I:Inv X pins σ H s)(g:qL H a y o)(j:RelV y u)(h:∀m,Inv X pins σ H m->Q (.bool o.isSome) m):wpAny (model X.prog X.w) A (compareOp .In u (.ref a)) Q E s:=by
 rcases g with⟨kvs,k,e,f,l⟩|⟨kvs,k,b,e,f,p,l⟩;.subst f;obtain⟨z,hd,vs,c,i⟩:=wX I.hok e;refine wpAny_in_of (sJ j) hd i.mapOf ?_;rw[<-(c.val k).ir,<-l];exact h _ (I.tok _)
 .subst f;cases(show u=Value.ref b from j);obtain⟨z,hd,xs,c,i⟩:=wj I.hok e;refine wpAny_in_heap (tupleKind_room_in1 n) (qX I.hok p) hd i ?_;have q:=(c.val k).ir;rw[isSome_map]at q;rw[<-q,<-l];exact h _ (I.tok _)
theorem Ah(n:A.units+1<cLine)(I:Inv X pins σ H s)(g:qL H a y o)(j:RelV y u)(h:∀m,Inv X pins σ H m->Q (.bool (!o.isSome)) m):wpAny (model X.prog X.w) A (compareOp .NotIn u (.ref a)) Q E s:=by
 rcases g with⟨kvs,k,e,f,l⟩|⟨kvs,k,b,e,f,p,l⟩;.subst f;obtain⟨z,hd,vs,c,i⟩:=wX I.hok e;refine wpAny_notIn_of (sJ j) hd i.mapOf ?_;rw[<-(c.val k).ir,<-l];exact h _ (I.tok _)
 .subst f;cases(show u=Value.ref b from j);obtain⟨z,hd,xs,c,i⟩:=wj I.hok e;refine wpAny_notIn_heap (tupleKind_room_in1 n) (qX I.hok p) hd i ?_;have q:=(c.val k).ir;rw[isSome_map]at q;rw[<-q,<-l];exact h _ (I.tok _)
theorem uZ{h':Heap}{t':Nat}{c:HO}(I:Inv X pins σ H s)(g:Wu (H a))(hs:SameBut a s.heap h')(he:∃q,h'.get? a=some q)(f:cz X.prog X.w (upd H a c) h' a c):Inv X pins σ (upd H a c) {s with heap:=h',toks:=t'}:=I.write (x:=a) (e:=a) g (.inl rfl) (λb q h z=>(hs.2 b h).trans z) he f
theorem Gy{P:Program}{c:Hp}{h':Heap}{kvs:List (Key×V)}{vs:List (Key×Value)}(z:kvs.length<=sizeLine)(hd:(a==sysModules)=false)(b:KV kvs vs)(e:h'.DictOf (bY P w) a vs):cz P w c h' a (.dK kvs):=⟨z,hd,vs,b,e⟩
theorem Dk{x:Hp}{Q:Unit->Shared->Prop}(M:A.units+1<cLine)(I:Inv X pins σ H s)(g:Xi H a y v x)(B:RelV y u)(C:RelV v r)(h:∀G,Inv X pins σ x G->Q () G):wpAny (model X.prog X.w) A (setItem (.ref a) u r) Q E s:=by
 rcases g with⟨kvs,k,e,m,l,n⟩|⟨kvs,k,b,e,m,J,l,n⟩
 . subst m n;obtain⟨z,hd,vs,f,p⟩:=Nb I.hok e;have hz:vs.length<=sizeLine:=by rw[<-f.length];exact z
   have t:(putK kvs k v).length<=sizeLine:=by have:=jH kvs k v;omega
   refine wpAny_setItem_pairs (hsz:=hz) (sJ B) p λh' i hs=>h _ ?_;have he:∃q,h'.get? a=some q:=let⟨q,_,_,j,_⟩:=i;⟨q,j⟩;exact uZ I (by rw[e];exact True.intro) hs he (Gy t hd (f.put k C) i)
 . subst m n;cases(show u=Value.ref b from B);obtain⟨z,hd,xs,f,p⟩:=Xr I.hok e;have hz:xs.length<=sizeLine:=by rw[<-Paired.length f];exact z
   have t:(putK kvs k v).length<=sizeLine:=by have:=jH kvs k v;omega
   refine wpAny_setItem_heap (hsz:=hz) (tupleKind_room_in1 M) (qX I.hok J) p λh' i hs=>h _ ?_;obtain⟨q,es,ep,j,N,O,U,_,W⟩:=i;refine uZ I (by rw[e];exact True.intro) hs ⟨q,j⟩ ⟨t,hd,_,(f.put k J C).keeps λc ys L=>?_,q,es,ep,j,N,O,U,W⟩;rw[aD (WN L e (λz=>nomatch z))];exact L
end
def Ky(i:Expr):Prop:=∀ov iv,subscripted i false ov iv=operate [ov,iv] (getItem ov iv)
theorem Ba{prog:Program}{A:Around}{E:Value->Shared->Prop}{s:Shared}{env:Env}{a slice:Expr}{T id:String}(l:typeLookup (.type T) "__getitem__"=pure (some (.builtin id)))(hs:Ky slice)(h:wpAny (model prog w) A (eval a env) (λo e=>wpAny (model prog w) A (eval slice env) (λi b=>b.TypeIs o T/\wpAny (model prog w) A (getItem o i) Q E b) E e) E s):wpAny (model prog w) A (eval (.Subscript a slice pos) env) Q E s:=by
 refine Subscript_ (wpAny_mono h (λo e g=>wpAny_mono g (λi b c=>?_) λ_ _ x=>x) λ_ _ x=>x);obtain⟨k,c⟩:=c;unfold subscriptTail;refine wpAny_bind ?_;rw[getitemInPython_of_ne k.not_modules];refine wpAny_bind (wpAny_specialOf k l ?_);have fin:wpAny (model prog w) A (subscripted slice false o i) (λr f=>wpAny (model prog w) A (letTemporaryGo a o r>>=λ_=>pure r) Q E f) E b:=by rw[hs o i];exact wpAny_operating (wpAny_mono c (λr f j=>wpAny_bind (wpAny_letTemporaryGo (wpAny_pure j))) λ_ _ x=>x)
 first|exact wpAny_pure (wpAny_bind fin)|exact wpAny_bind (wpAny_pure (wpAny_bind fin))|exact wpAny_bind fin
theorem jO{c:List (Addr×Obj)}{σ:St}{s:Shared}{a:Addr}{o:Option V}(I:Inv X c σ H s)(g:qL H a y o):s.TypeIs (.ref a) "dict":=by
 rcases g with⟨kvs,k,e,_,_⟩|⟨kvs,k,b,e,_,_,_⟩;.obtain⟨_,_,vs,_,f⟩:=wX I.hok e;exact f.typeIs
 .obtain⟨_,_,xs,_,f⟩:=wj I.hok e;exact f.typeIs
def Xj(c ty:TE):TE:=λσ H Q=>c σ H λx e=>ty σ e λy b=>∃a v,x=.ref a/\qL b a y (some v)/\Q v b
def abl(ty c:TE):TE:=λσ H Q=>ty σ H λy e=>c σ e λx b=>∃a o,x=.ref a/\qL b a y o/\Q (.bl o.isSome) b
def Lh(ty c:TE):TE:=λσ H Q=>ty σ H λy e=>c σ e λx b=>∃a o,x=.ref a/\qL b a y o/\Q (.bl (!o.isSome)) b
def Wa(c ty e:TE):TS:=λD σ H=>e σ H λv f=>c σ f λx g=>ty σ g λy h=>∃a b,x=.ref a/\Xi h a y v b/\D.nx σ b
section
variable{X:Cx}{o i e value:Expr}{pos pos' tpos:Pos}{td ty tv:TE}
theorem JM(c:X.A.units+1<cLine)(ho:PE X o td)(hi:PE X i ty)(hs:Ky i):PE X (.Subscript o i pos) (Xj td ty):=by intro b s σ H Q I h;refine Ba PySem.F.slot_dict_getitem.lookup hs (cB (ho b s σ H _ I h) λu s1⟨x,H1,I1,rx,q1⟩=>cB (hi b s1 σ H1 _ I1 q1) λiv s2⟨y,H2,I2,ry,a,v,ex,g,q2⟩=>?_);subst ex;obtain rfl:u=Value.ref a:=rx;exact⟨jO I2 g,nF c I2 g ry λk s3 f j=>⟨v,H2,f,j,q2⟩⟩
theorem S5(c:X.A.units+1<cLine)(hi:PE X i ty)(ho:PE X o td):PC X .In i o (abl ty td):=by intro b s σ H Q I h;refine cB (hi b s σ H _ I h) λiv s1⟨y,H1,I1,ry,q1⟩=>cB (ho b s1 σ H1 _ I1 q1) λu s2⟨x,H2,I2,rx,a,ov,ex,g,q2⟩=>?_;subst ex;obtain rfl:u=Value.ref a:=rx;exact Yk c I2 g ry λs3 f=>⟨.bl ov.isSome,H2,f,rfl,q2⟩
theorem Cy(c:X.A.units+1<cLine)(hi:PE X i ty)(ho:PE X o td):PC X .NotIn i o (Lh ty td):=by intro b s σ H Q I h;refine cB (hi b s σ H _ I h) λiv s1⟨y,H1,I1,ry,q1⟩=>cB (ho b s1 σ H1 _ I1 q1) λu s2⟨x,H2,I2,rx,a,ov,ex,g,q2⟩=>?_;subst ex;obtain rfl:u=Value.ref a:=rx;exact Ah c I2 g ry λs3 f=>⟨.bl (!ov.isSome),H2,f,rfl,q2⟩
theorem K8(c:X.A.units+1<cLine)(ho:PE X o td)(hi:PE X i ty)(f:PE X value tv)(hs:swapsWith value (some (.Subscript o i pos')) pos.line X.env=pure false):PS X (.Assign [.Subscript o i pos'] value pos) (Wa td ty tv):=by intro b s σ H D I h;refine wpAny_Assign_Subscript (cB (f b s σ H _ I h) λr s1⟨v,H1,I1,rv,q1⟩=>cB (ho b s1 σ H1 _ I1 q1) λu s2⟨x,H2,I2,rx,q2⟩=>cB (hi b s2 σ H2 _ I2 q2) λiv s3⟨y,H3,I3,ry,a,H4,ex,g,q3⟩=>?_) hs;subst ex;obtain rfl:u=Value.ref a:=rx;exact Dk c I3 g ry rv λs4 j=>⟨σ,H4,j,q3⟩
end
theorem vM{P:Program}(h:Heap)(a:sysModules<h.objs.size):cz P w H (h.push {cls:=.type "dict",data:=.dict #[]}) h.objs.size (.dK []):=⟨BZ,beq_eq_false_iff_ne.mpr (Ne.symm (ne_of_lt a)),[],.nil,Heap.DictOf.new h⟩
def Pa:TE:=λ_ H Q=>∀p,H p=none->Q (.ref p) (upd H p (.dK []))
section
variable{X:Cx}{pos:Pos}
theorem Fj:PE X (.Dict [] [] pos) Pa:=λb s σ H Q I h=>wpAny_Dict_empty ⟨.ref s.heap.objs.size,_,I.laid (a:=s.heap.objs.size) (o:=.dK []) (t':=s.toks) (λ_ _ q=>dR q) (dm) (vM s.heap I.big),rfl,h _ (I.hok.fresh (dm))⟩
end
def zJ:List (TE×TE)->St->Hp->(List (V×V)->Hp->Prop)->Prop|[],_,H,Q=>Q [] H|(a,b)::r,σ,H,Q=>a σ H λx c=>b σ c λy e=>zJ r σ e λps f=>Q ((x,y)::ps) f
abbrev VV:List (V×V)->List (Value×Value)->Prop:=Paired λp q=>RelV p.1 q.1/\RelV p.2 q.2
def ZM(X:Cx)(pos:Pos)(keys:List (Option Expr))(a:List Expr)(e:List (TE×TE)):Prop:=∀(b:List (Addr × Obj))(s:Shared)(σ:St)(H:Hp)(Q:List (V × V)->Hp->Prop),Inv X b σ H s->zJ e σ H Q->wpAny (model X.prog X.w) X.A (evalPairs (pairTrees keys a X.env pos)) (λvs f=>∃ps c,Inv X b σ c f/\VV ps vs/\Q ps c) X.xe s
theorem Bw:ZM X pos [] [] []:=λa s σ H Q I h=>pairTrees_nil_walk ⟨[],H,I,.nil,h⟩
theorem wU{k v:Expr}{ks:List (Option Expr)}{vs:List Expr}{b c:TE}{e:List (TE×TE)}(f:PE X k b)(g:PE X v c)(hr:ZM X pos ks vs e):ZM X pos (some k::ks) (v::vs) ((b,c)::e):=λa s σ H Q I h=>pairTrees_cons_walk (cB (f a s σ H _ I h) λu s1⟨x,H1,I1,rx,q1⟩=>cB (g a s1 σ H1 _ I1 q1) λi s2⟨y,H2,I2,ry,q2⟩=>cB (hr a s2 σ H2 _ I2 q2) λws s3⟨ps,H3,I3,rel,q3⟩=>⟨(x,y)::ps,H3,I3,.cons ⟨rx,ry⟩ rel,q3⟩)
noncomputable def m6(kvs more:List (Key×V)):List (Key×V):=more.foldl (λa b=>putK a b.1 b.2) kvs
theorem KV.merge:∀{more:List (Key×V)}{a:List (Key×Value)}{kvs:List (Key×V)}{vs:List (Key×Value)},KV more a->KV kvs vs->KV (m6 kvs more) (merged vs a):=by intro more a kvs vs r;unfold KV at r;induction r generalizing kvs vs with|nil=>intro q;exact q|@cons p q ps c h t b=>
   intro r0;have e:KV (putK kvs p.1 p.2) (stored vs q.1 q.2):=by have:=r0.put p.1 h.2;rw[<-h.1];exact this
   exact b e
theorem kI:∀(more kvs:List (Key×V)),(m6 kvs more).length<=kvs.length+more.length|[],kvs=>by show kvs.length<=kvs.length+0;omega|p::r,kvs=>by have h1:=kI r (putK kvs p.1 p.2);have a:=jH kvs p.1 p.2;show(m6 (putK kvs p.1 p.2) r).length<=_;rw[length_cons];omega
theorem qK{P:Program}{w:World}:∀{kvs:List (Key×V)}{ws:List (Value×Value)},VV (kvs.map λf=>(kV f.1,f.2)) ws->∃e,Carries (bY P w) ws e/\KV kvs e|[],_,r=>by rw[map_nil]at r;cases r;exact⟨[],True.intro,.nil⟩|p::kvs,_,r=>by rw[map_cons]at r;cases r with|@cons a b as bs h t=>obtain⟨e,c,q⟩:=qK (P:=P) (w:=w) t;obtain⟨b1,b2⟩:=b;exact⟨(p.1,b2)::e,⟨sJ h.1,rfl,c⟩,.cons ⟨rfl,h.2⟩ q⟩
def Yn(c:List (TE×TE)):TE:=λσ H Q=>∀p,H p=none->zJ c σ (upd H p (.dK [])) λps a=>a p=some (.dK [])/\∃kvs:List (Key×V),ps=kvs.map (λb=>(kV b.1,b.2))/\kvs.length<=15/\Q (.ref p) (upd a p (.dK (m6 [] kvs)))
theorem Ae{keys:List (Option Expr)}{b:List Expr}{i:List (TE×TE)}(h:ZM X pos keys b i)(hall:keys.all (·.isSome)=true)(k:keys.length=b.length)(h0:keys≠[])(g:keys.length<=15):PE X (.Dict keys b pos) (Yn i):=by
 intro f s σ H Q I q;have l:=I.hok.fresh (le_refl s.heap.objs.size);have m:=I.laid (a:=s.heap.objs.size) (o:=.dK []) (h':=s.heap.push {cls:=.type "dict",data:=.dict #[]}) (t':=s.toks) (λ_ _ q=>dR q) (dm) (vM s.heap I.big);refine wpAny_Dict_walk (knd:=bY X.prog X.w) hall k h0 g (cB (h f _ σ _ _ m (q _ l)) λws s2⟨ps,H2,I2,rel,e,kvs,ep,lk,q2⟩=>?_);subst ep;obtain⟨n,c,p⟩:=qK (P:=X.prog) (w:=X.w) rel;obtain⟨z,hd,r,r0,t⟩:=Nb I2.hok e;cases r0;refine⟨n,c,t,λh' j hs=>⟨.ref s.heap.objs.size,_,?_,rfl,q2⟩⟩;have hz:(m6 [] kvs).length<=sizeLine:=by have h1:=kI kvs [];rw[length_nil]at h1;rw[sizeLine_eq];omega
 have he:∃q,h'.get? s.heap.objs.size=some q:=let⟨q,_,_,hq,_⟩:=j;⟨q,hq⟩;exact uZ I2 (by rw[e];exact True.intro) hs he (Gy hz hd (p.merge .nil) j)
end L2
namespace Att
open PySem PySem.W PySem.Calls PyProof.Rows
end Att
namespace L2
open PySem PySem.Spec PyProof.Rows
end L2
end
section
namespace HH
open PySem L2 PySem.Spec PyProof.Rows
variable{kvs:List (Int×D)}{es:List (Key×V)}{k:Int}
inductive KR(K:PySem.W.Frag)(F:Hp):List (Int×D)->List (Key×V)->Prop where|nil:KR K F [] []|cons{k:Int}{d:D}{v:V}{kvs:List (Int×D)}{es:List (Key×V)}(h:Rep K F v d)(t:KR K F kvs es):KR K F ((k,d)::kvs) ((Sum.inl k,v)::es)
section
variable{K:PySem.W.Frag}{F F':Hp}
noncomputable def ent(ks:List Int)(vs:List V):List (Key×V):=(ks.zip vs).map λp=>(Sum.inl p.1,p.2)
theorem KR.of:∀{kvs:List (Int×D)}{vs:List V},aF K F vs (kvs.map (·.2))->KR K F kvs (ent (kvs.map (·.1)) vs)|[],vs,h=>by rw[map_nil]at h;rw[h.eZ];exact .nil|(k,d)::kvs,vs,h=>by obtain⟨v,r,rfl,h1,a⟩:=h.cC;exact .cons h1 (KR.of a)
theorem KR.to(h:KR K F kvs es):∃vs,es=ent (kvs.map (·.1)) vs/\aF K F vs (kvs.map (·.2)):=by induction h with|nil=>exact⟨[],rfl,.nil⟩|@cons k d v kvs es h t a=>obtain⟨vs,rfl,r⟩:=a;exact⟨v::vs,rfl,.cons h r⟩
theorem KR.oc(h:KR K F kvs es):kE K F (.dK es) (.v kvs):=by obtain⟨vs,rfl,r⟩:=h.to;exact⟨vs,rfl,r⟩
theorem KR.Qg{o:HO}(h:kE K F o (.v kvs)):∃es,o=.dK es/\KR K F kvs es:=by obtain⟨vs,rfl,r⟩:=h;exact⟨_,rfl,.of r⟩
theorem KR.len(h:KR K F kvs es):es.length=kvs.length:=by induction h with|nil=>rfl|cons h t a=>simp[a]
theorem KR.get{d:D}(h:KR K F kvs es)(e:lD kvs k=some d):∃v,jl es (Sum.inl k:Key)=some v/\Rep K F v d:=by induction h with|nil=>cases e|@cons j d' v kvs es h t a=>
   unfold lD at e a;rw[find?_cons]at e;by_cases c:j=k;.simp[c]at e;subst e;exact⟨v,lW (by rw[c]),h⟩
   .simp[c]at e;obtain⟨b,h1,f⟩:=a (by simpa using e);exact⟨b,by rw[lR (by simpa using c)];exact h1,f⟩
theorem KR.any{kvs:List (Int×D)}{es:List (Key×V)}(k:Int)(h:KR K F kvs es):(es.any λa=>decide (a.1=(Sum.inl k:Key)))=kvs.any λp=>decide (p.1=k):=by induction h with|nil=>rfl|cons h t b=>simp[b]
theorem KR.has(k:Int)(h:KR K F kvs es):(jl es (Sum.inl k:Key)).isSome=(kvs.map (·.1)).contains k:=by rw[<-qx,h.any k];induction h with|nil=>rfl|@cons j d v kvs es h t a=>rw[any_cons,a,map_cons,List.contains_cons];congr 1;exact Bool.eq_iff_iff.mpr ⟨λz=>by simp at z ⊢;exact z.symm,λz=>by simp at z ⊢;exact z.symm⟩
theorem KR.repl{d:D}{v:V}(r:Rep K F v d)(h:KR K F kvs es):KR K F (kvs.map λp=>if p.1=k then(p.1,d)else p) (es.map λa=>if a.1=(Sum.inl k:Key)then(a.1,v)else a):=by induction h with|nil=>exact .nil|@cons j d' e kvs es h t b=>
   by_cases c:j=k;.subst c;simp;exact .cons r b
   . have:¬(Sum.inl j:Key)=Sum.inl k:=by simpa using c
     simp[c,this];exact .cons h b
theorem KR.snoc{d:D}{v:V}(r:Rep K F v d)(h:KR K F kvs es):KR K F (kvs++[(k,d)]) (es++[(Sum.inl k,v)]):=by induction h with|nil=>exact .cons r .nil|cons h t a=>exact .cons h a
theorem KR.put{d:D}{v:V}(r:Rep K F v d)(h:KR K F kvs es):KR K F (gf kvs k d) (putK es (Sum.inl k:Key) v):=by
 unfold gf putK;rw[h.any k];split;.exact h.repl r
 .exact h.snoc r
theorem KR.zip{ks:List Int}{ds:List D}{vs:List V}(h:aF K F vs ds)(a:ks.length=ds.length):KR K F (ks.zip ds) (ent ks vs):=by induction ds generalizing ks vs with
 |nil=>rw[h.eZ];cases ks with|nil=>exact .nil|cons _ _=>simp at a
 |cons d ds b=>obtain⟨v,r,rfl,h1,c⟩:=h.cC;cases ks with|nil=>simp at a|cons k ks=>exact .cons h1 (b c (by simpa using a))
end
noncomputable def Nz(p:Int×Int):Key×V:=(Sum.inl p.1,V.int p.2)
theorem Gu(i:Int):∀kvs:List (Int×Int),jl (kvs.map Nz) (Sum.inl i:Key)=((kvs.find? λb=>decide (b.1=i)).map (·.2)).map V.int
 |[]=>rfl|p::kvs=>by
   have a:=Gu i kvs;unfold jl at a ⊢;rw[map_cons,find?_cons,find?_cons];by_cases h:p.1=i
   . have e:decide ((Nz p).1=(Sum.inl i:Key))=true:=by simp[Nz,h]
     rw[e];simp[h,Nz]
   . have e:decide ((Nz p).1=(Sum.inl i:Key))=false:=by simp[Nz,h]
     rw[e];simp only[h,decide_false];exact a
section
variable{X:Cx}{c:Call}{n:Nat}{a b e:Expr}{pa pb p:P}{pos:Pos}
theorem O5{H:Hp}{q:Addr}{m:Dc}{i:Int}{o:Option Int}(h:Rd H q m.ho)(e:m.get (.int i)=some o):qL H q (.int i) (o.map V.int):=by cases m with|k kvs=>cases e;exact .inl ⟨kvs.map Nz,Sum.inl i,h,rfl,(Gu i kvs).symm⟩|t kvs=>cases e
theorem o4(hu:X.A.units+8<cLine)(N:SX X c a pa)(O:SX X c b pb)(hs:Ky b):SX X c (.Subscript a b pos) (.bin .zM pa pb):=by refine ug (f:=BP) (λh1 U=>?_) N O (λρ=>rfl) rfl;intro l s σ H Q I h;refine Ba PySem.F.slot_dict_getitem.lookup hs (cB (h1 l s σ H _ I h) λu s1⟨x,H1,I1,rx,q1⟩=>cB (U l s1 σ H1 _ I1 q1) λiv s2⟨y,H2,I2,ry,q2⟩=>?_);obtain⟨F,d,e,r,w,J,L,he,k⟩:=q2;cases d with
 |dH m=>have W:=bZ (show(m.get e).bind (λo=>o.map λv=>R.val (.int v))=some r from he);clear he;obtain⟨o,z,he⟩:=W;cases o with|none=>cases he|some v=>
     cases he;obtain⟨i,rfl⟩:∃i,e=.int i:=by cases m with|t kvs=>cases e<;>cases z|k kvs=>cases e<;>first|exact⟨_,rfl⟩|cases z
     obtain⟨q,B,rfl,C⟩:=J.dH w;rw[L.int]at ry;obtain rfl:u=Value.ref q:=rx;have g:=O5 (.inr ⟨B,C⟩) z;exact⟨jO I2 g,nF (by omega) I2 g ry λY s3 E G=>⟨.int v,H2,E,G,cF.cX w (bC _) k⟩⟩
 |dv ks ds=>cases e with|int j=>obtain⟨d',Z,he⟩:=map_some (show(lD (ks.zip ds) j).map R.val=some r from he);subst he;obtain⟨q,B,vs,rfl,C,rs,hl⟩:=J.dv w;obtain⟨M,g1,g2⟩:=(KR.zip rs hl).get Z;rw[L.int]at ry;obtain rfl:u=Value.ref q:=rx;have g:qL H2 q (.int j) (some M):=.inl ⟨_,Sum.inl j,.inr ⟨B,C⟩,rfl,g1.symm⟩;exact⟨jO I2 g,nF (by omega) I2 g ry λY s3 E G=>⟨M,H2,E,G,cF.cX w g2 k⟩⟩|_=>cases he
 |_=>cases he
end
end HH
end
section
namespace L2
open PySem PySem.Spec PyProof.Rows
noncomputable def Itk(a:Addr)(b:Obj)(kvs:List (Key×V)):It:=⟨λi H=>H a=some (.cM b (.dK kvs))/\i<kvs.length,λi H x c=>c=H/\∃p,kvs[i]?=some p/\x=kV p.1,λi H=>H a=some (.cM b (.dK kvs))/\kvs.length<=i⟩
theorem KV.get:∀{a:Type}{kvs:List (a×V)}{vs:List (a×Value)}{i:Nat}{p:a×V},KV kvs vs->kvs[i]?=some p->∃v,vs[i]?=some (p.1,v)|_,_,_,_,_,.nil,e=>by simp at e|_,_,_,0,_,.cons r _,e=>by simp at e;subst e;exact⟨_,by rw[List.getElem?_cons_zero,r.1]⟩|_,_,_,i+1,p,.cons _ t,e=>by obtain⟨v,h⟩:=KV.get (i:=i) (p:=p) t (by simpa using e);exact⟨v,by simpa using h⟩
theorem tV{X:Cx}{b:List (Addr×Obj)}{σ:St}{H:Hp}{s:Shared}{a:Addr}{c:Obj}{kvs:List (Key×V)}{es:Array DictEntry}{ep:Nat}(I:Inv X b σ H s)(h:H a=some (.cM c (.dK kvs)))(hd:c.data=.dict es ep):(a==sysModules)=false/\∃vs,KV kvs vs/\s.heap.DictAt (bY X.prog X.w) a vs ep:=by obtain⟨ho,hz,f,vs,r,g⟩:=(show cz X.prog X.w H s.heap a (.cM c (.dK kvs))from I.hok a _ h);obtain⟨o,i,j,h1,k,e,l⟩:=g;rw[ho]at h1;cases h1;rw[hd]at e;cases e;exact⟨f,vs,r,⟨c,es,ho,k,hd,l⟩⟩
theorem O3{P:Program}{w:World}{k:Key}{u:Value}(h:(bY P w).is k u=true):RelV (kV k) u:=by
 rcases bT h with⟨i,t,rfl,rfl⟩|⟨x,t,rfl,rfl⟩;.exact⟨t,rfl⟩
 .exact⟨t,rfl⟩
theorem DY{P:Program}{w:World}{K:PySem.W.Frag}{G:Expr}(a g:Addr)(C:Obj)(kvs:List (Key×V))(es:Array DictEntry)(ep:Nat)(hd:C.data=.dict es ep):Turn P w K G (Itk a C kvs) [g] g (λi h=>h.IsKeyIter g a i kvs.length ep)where
 mem:=by simp
 obj:=λi h st b j=>by
  have e:b=g:=by simpa using j
  subst e;obtain⟨o,e,c,d⟩:=st;exact⟨o,e,λv z=>by rw[d]at z;cases z⟩
 keep:=λi h h' st k=>st.at λo e=>k g (by simp) o e;item:=by intro X p q t hc i f s σ H E I n st x;subst p q t;obtain⟨y,hi⟩:=x;obtain⟨J,vs,r,B⟩:=tV I y hd;have m:vs.length=kvs.length:=(Paired.length r).symm;obtain⟨v,L⟩:=KV.get r (show kvs[i]?=some kvs[i]by simp[hi]);obtain⟨f0,f1,f2,f3,f4,f5⟩:=n g (by simp);refine wpAny_pyNext_dict_item (by rw[m];exact st) B L λu h' M l N=>?_;have O:Inv X f σ H {s with heap:=h'}:=I.turned (t':=s.toks) (λb o j e=>(N.2 b j).trans e) f0 f1 f3 f4 f5;rw[m]at l;obtain⟨o,e,c,d⟩:=id l;exact⟨u,rfl,Bt (s:={s with heap:=h'}) e c d (by decide) ⟨_,H,O,O3 M,⟨rfl,_,by simp[hi],rfl⟩,l,λb j=>(n b j).1⟩⟩
 done:=by intro X p q t hc i f s σ H E I n st x;subst p q t;obtain⟨y,hi⟩:=x;obtain⟨J,vs,r,B⟩:=tV I y hd;have m:vs.length=kvs.length:=(Paired.length r).symm;obtain⟨f0,f1,f2,f3,f4,f5⟩:=n g (by simp);refine wpAny_pyNext_dict_end (I.ok.hd hc) (by rw[m];exact st) B (by simp[m,hi]) λh' he=>⟨rfl,?_⟩;exact I.turned (t':=s.toks) (λb o j e=>he b o j e) f0 f1 f3 f4 f5
 self:=λA i s Q E st U=>wpAny_pyIter_keyiter st U
section
variable{X:Cx}{tg:Expr}
theorem Mi{l:Expr}{k:TE}(n:PE X l k):PI X tg l (λσ H R=>k σ H λx f=>∃a c kvs,x=.ref a/\f a=some (.cM c (.dK kvs))/\R (Itk a c kvs) f):=by
 intro g s σ H R I h;refine cB (n g s σ H _ I h) ?_;rintro v s1⟨x,f,j,r1,a,c,kvs,e,p,q⟩;subst e;cases r1;obtain⟨ho,hz,t,vs,r,u⟩:=(show cz X.prog X.w f s1.heap a (.cM c (.dK kvs))from j.hok a _ p);obtain⟨o,es,ep,h1,y,m,z⟩:=id u;rw[ho]at h1;cases h1;have i:vs.length=kvs.length:=(Paired.length r).symm;refine wpAny_pyIter_dict (knd:=bY X.prog X.w) (kvs:=vs) (ep:=ep) t ⟨c,es,ho,y,m,z⟩ ?_;refine⟨s1.heap.objs.size,[s1.heap.objs.size],_,_,f,rfl,j.kept (t':=s1.toks) λb o e=>dR e,DY a _ c kvs es ep m,⟨_,get?_push_size _ rfl,rfl,by rw[i];rfl⟩,λb A=>?_,q⟩;have e:b=s1.heap.objs.size:=by simpa using A
 subst e;exact j.yG (dm) (j.hok.fresh (dm))
end
end L2
namespace HH
open PySem L2 PySem.Spec PyProof.Rows
section
variable{X:Cx}{c:Call}{tg e:Expr}{p:P}
theorem K7{ks:List Int}{es:List (Key×V)}{j:Nat}{p:Key×V}{i:Int}(h:es.map (·.1)=ks.map (Sum.inl:Int->Key))(a:es[j]?=some p)(b:ks[j]?=some i):p.1=Sum.inl i:=by
 have:(es.map (·.1))[j]?=(ks.map (Sum.inl:Int->Key))[j]?:=by rw[h]
 rw[getElem?_map,getElem?_map,a,b]at this;exact Option.some.inj this
theorem pK:∀{ks:List Int}{vs:List V},ks.length=vs.length->(ent ks vs).map (·.1)=ks.map (Sum.inl:Int->Key)|[],[],_=>rfl|k::ks,v::vs,h=>by have:=pK (ks:=ks) (vs:=vs) (by simpa using h);unfold ent at this ⊢;simpa using this|[],_::_,h=>by simp at h|_::_,[],h=>by simp at h
theorem JX(h:SX X c e p):SI X c tg e (.blt .keys [p]):=by
 unfold SI;obtain⟨ta,h1,Q⟩:=h.cW;refine kJ (Mi h1) ?_;rintro σ H R⟨F,ρ,ds,A,g,U,k⟩;obtain⟨r,o,G,W⟩:=aj (show((HH.ev c (.blt .keys [p]) ρ).bind λr ρ=>lift (items r.d) ρ)=.ok ds A from U);obtain⟨I,Y⟩:=aB W;subst Y;rw[HH.E16]at G;obtain⟨d,Z,e1,eE⟩:=aj G;obtain⟨y,e4⟩:=aB eE;subst e4;refine Q g e1 λv F' J s L=>?_;have hd:∃(ks:List Int)(es:List (Key×V))(a:Addr)(b:Obj),ds=ks.map D.int/\v=.ref a/\J a=some (.cM b (.dK es))/\es.map (·.1)=ks.map (Sum.inl:Int->Key):=by cases d with
  |dH m=>cases m with|k kvs=>cases y;cases I;obtain⟨a,b,rfl,f⟩:=L.dH s.gs.sub;exact⟨kvs.map (·.1),kvs.map Nz,a,b,by rw[map_map];rfl,rfl,f,by rw[map_map,map_map];rfl⟩|t kvs=>cases y
  |dv ks ac=>cases y;cases I;obtain⟨a,b,vs,rfl,f,rs,hl⟩:=L.dv s.gs.sub;exact⟨ks,ent ks vs,a,b,rfl,rfl,f,pK (by rw[rs.length];exact hl)⟩|_=>cases y
 obtain⟨ks,es,a,b,rfl,rfl,f,u⟩:=hd;have B:es.length=ks.length:=by have:=congrArg List.length u;simpa using this
 refine⟨a,b,es,rfl,f,k _ F' J ⟨s.gs,λn j F2 o C H2 s2=>?_,λF2 o C H2 s2=>⟨s.trans s2,λv r rr=>rr.later s⟩⟩⟩;have gm:=s.gs.more (n:=n) (τ:=replicate n none) (by simp);have w:=s2.keep a _ f λ⟨j,⟨t,dt,q1,q2⟩,q3⟩=>by obtain⟨a',o',M,N,z3,E⟩:=gm.own j t dt q1 q2;rw[q3]at M;cases M;rw[f]at N;cases N;cases dt with|l ds=>obtain⟨xs,z,_⟩:=E;cases z|d m=>cases m<;>cases E|v kvs=>obtain⟨xs,z,_⟩:=E;cases z
 refine⟨λd hd=>?_,λO=>⟨w,by rw[B];simpa using O⟩⟩;have O:j<ks.length:=by have:=(eX hd).1;simpa using this
 refine⟨⟨w,by omega⟩,λx j7⟨e5,q,e6,e7⟩=>?_⟩;subst e5;refine⟨F2,.refl s2.gs.sub,?_⟩;rw[getElem?_map]at hd;obtain⟨i,e8,e9⟩:=map_some hd;rw[e7,K7 u e6 e8,<-e9];exact bC _
end
end HH
end
section
namespace HH
open PySem L2 PySem.Spec PyProof.Rows PySem.Calls PySem.W
section
variable{X:Cx}{c:Call}{a:Expr}{pa:P}{pos:Pos}
theorem lL:∀{ns:List Int}{b:List Value},IntsAre b ns->Vals (ns.map V.int) b|_,_,.nil=>.nil|_,_,.cons n t r=>.cons ⟨t,rfl⟩ (lL r)
theorem sV{K:PySem.W.Frag}{F:Hp}:∀ns:List Int,aF K F (ns.map V.int) (ns.map D.int)|[]=>.nil|n::ns=>.cons (bC n) (sV ns)
end
end HH
end
section
namespace HH
open PySem L2 PySem.Spec PyProof.Rows
theorem Inv.acA{X:Cx}{c:List (Addr×Obj)}{σ:L2.St}{H:Hp}{s:Shared}{a:Addr}{kvs:List (List Key×V)}(I:L2.Inv X c σ H s)(h:H a=some (.dT kvs)):∃o,L2.Inv X c σ (upd H a (.cM o (.dT kvs))) s:=by obtain⟨z,y,xs,r,o,es,ep,h1,f,g,i,j⟩:=(show cz X.prog X.w H s.heap a (.dT kvs)from I.hok a _ h);refine⟨o,I.write (h':=s.heap) (t':=s.toks) (by rw[h];exact trivial) (.inl rfl) (λb u _ e=>e) ⟨o,h1⟩ ⟨h1,z,y,xs,KT.keeps r λb ys q=>?_,o,es,ep,h1,f,g,i,j⟩⟩;rw[aD (by rintro rfl;rw[h]at q;cases q)];exact q
section
variable{X:Cx}{c:Call}{n:Nat}{a b e:Expr}{p pa pb:P}{pos:Pos}{es:List Expr}{ps:List P}{x1:Nat}{tpos:Pos}
theorem Ny{i:Nat}{x:Str}{A:Pos}(B:X.N[i]?=some x)(C:xQ X.env.scope x)(hd:(x==("__debug__":Str))=false:=by decide)(w:(x==("__classdict__":Str))=false:=by decide):SX X c (.Name x A) (.vw i):=by
 have h:=gH (X:=X) (pos:=A) B C hd w;refine⟨?_,λi h=>by cases h⟩;rintro f s σ H Q I⟨F,ρ,r,E,g,e,k⟩;rw[HH.E23]at e;split at e
 . rename_i m q;cases e;obtain⟨a,h1,j,l⟩:=g.Bd q;refine cB (h f s σ H (λv y=>v=.ref a/\y=H) I ⟨.ref a,h1,rfl,rfl⟩) λu s1⟨v,H1,I1,r1,e1,e2⟩=>?_;subst e1 e2;have G:∃o,L2.Inv X f σ (upd H1 a (.cM o m.ho)) s1:=by cases m with|k kvs=>exact Inv.Hy I1 j|t kvs=>exact Inv.acA I1 j
   obtain⟨o,z⟩:=G;exact⟨.ref a,_,z,r1,k _ _ _ (l o).1 (l o).2⟩
 .rename_i kvs q;cases e;obtain⟨a,vs,h1,j,l⟩:=g.Av q;refine cB (h f s σ H (λv y=>v=.ref a/\y=H) I ⟨.ref a,h1,rfl,rfl⟩) λu s1⟨v,H1,I1,r1,e1,e2⟩=>?_;subst e1 e2;obtain⟨o,z⟩:=Inv.Hy I1 j;exact⟨.ref a,_,z,r1,k _ _ _ (l o).1 (l o).2⟩
 .rename_i b ds q;cases e;obtain⟨v,J,h1,j,l⟩:=g.freeze q;exact h f s σ H Q I ⟨v,h1,k v J H j l⟩
 .rename_i b d q;cases e;obtain⟨v,h1,j⟩:=g.val i b d q;exact h f s σ H Q I ⟨v,h1,k v F H (.refl g) j⟩
 .cases e
end
end HH
end
section
namespace HH
open PySem L2 PySem.Spec PyProof.Rows
section
variable{K:PySem.W.Frag}{F H F' H':Hp}{ρ ρ':List Sl}{σ σ':L2.St}
def Kp(ρ:List Sl)(σ:L2.St)(H:Hp)(a:Addr)(o:HO):Prop:=H a=some o/\¬ Own ρ σ a
theorem Kp.stp{a:Addr}{o:HO}(h:Kp ρ σ H a o)(s:aC K F ρ σ H F' ρ' σ' H'):Kp ρ' σ' H' a o:=⟨s.keep a o h.1 h.2,λz=>(s.vB a z).elim h.2 λe=>by rw[h.1]at e;cases e⟩
structure Wt(K:PySem.W.Frag)(F:Hp)(ρ:List Sl)(σ:L2.St)(H:Hp)(a:Addr)(ds:List D):Prop where
 ex:∃xs,Kp ρ σ H a (.lst xs)/\aF K F xs ds
 fr:F a=none
theorem Wt.stp{a:Addr}{ds:List D}(h:Wt K F ρ σ H a ds)(s:aC K F ρ σ H F' ρ' σ' H'):Wt K F' ρ' σ' H' a ds:=by obtain⟨⟨xs,h1,b⟩,c⟩:=h;refine⟨⟨xs,h1.stp s,b.mono s.bU⟩,?_⟩;cases q:F' a with|none=>rfl|some o=>
   rcases s.xK a c (by rw[q];simp)with z|z;.exact absurd z h1.2
   .rw[h1.1]at z;cases z
end
end HH
end
section
namespace HH
open PySem L2 PySem.Spec PyProof.Rows
theorem Cr(x dv:Value):argsOk "max" ⟨[x],[("default",dv)]⟩:=by unfold argsOk;kernel_rfl
theorem oV:(toString "max"++toString ".loop":String)="max.loop":=by decide
section
variable{prog:Program}{w:World}{A:Around}{R:Result->Shared->Prop}{I:Addr}{fp wr:List Addr}{m:Nat}{P:Nat->Value->Prop}{Sx:Nat->Heap->Prop}{dv:Value}
theorem Ck(W:Walks prog w A.in1 I fp wr m P Sx)(g:Nat->Nat->Bool)(cmp:CmpOf prog w A.in1 .Gt P g)(B:Addr)(M:B∉fp):∀(u j:Nat)(s:Shared)(a:Value)(q:Nat),m-(j+1)=u->j+1<=m->Sx (j+1) s.heap->P (argBest g j) a->s.heap.get? B=some ⟨.type "list",none,.seq #[a,a] q,#[]⟩->(∀v h' E,P (argBest g (m-1)) v->(∀b o,b∉wr->b≠B->s.heap.get? b=some o->h'.get? b=some o)->R (.ok (.ret v)) {s with heap:=h',toks:=E})->codeAny (model prog w) A (.builtin "max.loop" ⟨[.ref I,.none,.ref B],[("default",dv)]⟩) R s:=by have n:B∉wr:=λz=>M (W.sub _ z);intro u;induction u with|zero=>
   intro j s a q Q U st G p k;have r:j+1=m:=by omega
   refine codeAny_builtin F.entry_max_loop ?_;rw[Around.under_plainId F.plain_max_loop _];show wpAny _ A.in1 (seqItems? (.ref B)>>=_) _ _ s;refine wpAny_bind (wpAny_seqItems p rfl ?_);show wpAny _ A.in1 (tryCatch (pyNext (.ref I)) _>>=_) _ _ s;refine wpAny_bind (wpAny_tryCatch (W.done s _ _ (r▸st) λh' E i=>?_));have t:=i B _ n p;show wpAny _ A.in1 (updateSeq B (λ_=>#[])>>=_) _ _ _;refine wpAny_bind (wpAny_updateSeq t rfl (wpAny_bind (wpAny_letGo (wpAny_pure ?_))));exact k a _ E (by rw[<-r];exact G) λb o c l x=>(get?_update_other _ _ (Ne.symm l)).trans (i b o c x)|succ u N=>
   intro j s a q Q U st G p k;have f:j+1<m:=by omega
   refine codeAny_builtin F.entry_max_loop ?_;rw[Around.under_plainId F.plain_max_loop _];show wpAny _ A.in1 (seqItems? (.ref B)>>=_) _ _ s;refine wpAny_bind (wpAny_seqItems p rfl ?_);show wpAny _ A.in1 (tryCatch (pyNext (.ref I)) _>>=_) _ _ s;refine wpAny_bind (wpAny_tryCatch (W.item (j+1) s _ _ f st λv h' E O C i=>?_));have t:=i B _ n p;show wpAny _ A.in1 (tryCatch (holding [v,v] (richCompare .Gt v a>>=_)) _>>=_) _ _ _;refine wpAny_bind (wpAny_tryCatch (wpAny_holding (wpAny_bind (cmp (j+1) (argBest g j) v a _ _ _ O G (wpAny_bind (wpAny_holding (wpAny_truthy_bool (wpAny_bind (wpAny_letGo (wpAny_pure ?_))))))))));cases e:g (j+1) (argBest g j)with|true=>simp only[if_true];refine wpAny_bind (wpAny_updateSeq t rfl (wpAny_bind (wpAny_letGo ?_)));rw[oV];refine wpAny_pure ⟨plainId_quiet F.plain_max_loop _,N (j+1) _ v _ (by omega) f (W.frame _ _ _ C λb z o y=>(get?_update_other _ _ (λh:B=b=>M (by rw[h];exact z))).trans y) (by simp only[argBest,e,if_true];exact O) (get?_update_self _ t rfl) λH J t2 p2 L=>?_⟩;exact k H J t2 p2 λb o c l x=>L b o c l ((get?_update_other _ _ (Ne.symm l)).trans (i b o c x))|false=>simp only[false_eq_true,if_false];refine wpAny_bind (wpAny_letGo ?_);rw[oV];refine wpAny_pure ⟨plainId_quiet F.plain_max_loop _,N (j+1) _ a q (by omega) f C (by simp only[argBest,e,false_eq_true,if_false];exact G) t λH J t2 p2 L=>k H J t2 p2 λb o c l x=>L b o c l (i b o c x)⟩
theorem zy(W:Walks prog w A.in1 I fp wr m P Sx)(g:Nat->Nat->Bool)(cmp:CmpOf prog w A.in1 .Gt P g)(B:Addr)(i:B∉fp){s:Shared}{q:Nat}(st:Sx 0 s.heap)(t:s.heap.get? B=some ⟨.type "list",none,.seq #[] q,#[]⟩)(k:0<m->∀v h' a,P (argBest g (m-1)) v->(∀b o,b∉wr->b≠B->s.heap.get? b=some o->h'.get? b=some o)->R (.ok (.ret v)) {s with heap:=h',toks:=a})(x:m=0->∀h' a,(∀b o,b∉wr->b≠B->s.heap.get? b=some o->h'.get? b=some o)->R (.ok (.ret dv)) {s with heap:=h',toks:=a}):codeAny (model prog w) A (.builtin "max.loop" ⟨[.ref I,.none,.ref B],[("default",dv)]⟩) R s:=by
 have j:B∉wr:=λz=>i (W.sub _ z);refine codeAny_builtin F.entry_max_loop ?_;rw[Around.under_plainId F.plain_max_loop _];show wpAny _ A.in1 (seqItems? (.ref B)>>=_) _ _ s;refine wpAny_bind (wpAny_seqItems t rfl ?_);show wpAny _ A.in1 (tryCatch (pyNext (.ref I)) _>>=_) _ _ s;by_cases l:0<m;.refine wpAny_bind (wpAny_tryCatch (W.item 0 s _ _ l st λv h' a C n e=>?_));have u:=e B _ j t;show wpAny _ A.in1 (updateSeq B (λ_=>#[v,v])>>=_) _ _ _;refine wpAny_bind (wpAny_updateSeq u rfl ?_);rw[oV];refine wpAny_pure ⟨plainId_quiet F.plain_max_loop _,Ck W g cmp B i _ 0 _ v _ rfl l (W.frame _ _ _ n λb z o y=>(get?_update_other _ _ (λh:B=b=>i (by rw[h];exact z))).trans y) C (get?_update_self _ u rfl) λE G t2 p2 H=>?_⟩;exact k l E G t2 p2 λb o f p r=>H b o f p ((get?_update_other _ _ (Ne.symm p)).trans (e b o f r))
 . have c:m=0:=by omega
   refine wpAny_bind (wpAny_tryCatch (W.done s _ _ (by rw[c];exact st) λh' a e=>?_));show wpAny _ A.in1 (rule _>>=_) _ _ _;refine wpAny_bind (wpAny_rule (wpAny_pure ?_));exact x c h' a λb o f p r=>e b o f r
end
section
variable{prog:Program}{w:World}{A:Around}{E:Value->Shared->Prop}{s:Shared}
theorem Ds{x dv:Value}{Q:Value->Shared->Prop}(h:wpAny (model prog w) A.in1 (pyIter x) (λp a=>∃ I e f m P i g,p=.ref I/\Walks prog w A.in1 I e f m P i/\i 0 a.heap/\(∀ b ∈ e,b<a.heap.objs.size)/\CmpOf prog w A.in1 .Gt P g/\(0<m->∀v h' c,P (argBest g (m-1)) v->(∀b o,b∉f->a.heap.get? b=some o->h'.get? b=some o)->Q v {a with heap:=h',toks:=c})/\(m=0->∀h' c,(∀b o,b∉f->a.heap.get? b=some o->h'.get? b=some o)->Q dv {a with heap:=h',toks:=c})) E s):wpAny (model prog w) A (call (.builtin "max") [x] [("default",dv)]) Q E s:=by
 refine yV F.kind_max F.plain_max F.entry_max (Cr _ _) ?_;show wpAny _ A.in1 (Builtin.Builtins.bindParams "max" ["key","default"] 0 ⟨[],[("default",dv)]⟩>>=_) _ _ s;refine wpAny_bind (wpAny_of_eq (show Builtin.Builtins.bindParams "max" ["key","default"] 0 ⟨[],[("default",dv)]⟩=pure [none,some dv]from rfl) (wpAny_bind (wpAny_pure ?_)));refine wpAny_bind (wpAny_mono h (?_) λ_ _ z=>z);rintro p a⟨I,e,f,m,P,i,g,q,W,st,j,cmp,k,r⟩;subst q;refine wpAny_bind (wpAny_newObj_type ?_);have t:a.heap.objs.size∉e:=λz=>lt_irrefl _ (j _ z);rw[oV];refine wpAny_pure ⟨plainId_quiet F.plain_max_loop _,zy W g cmp a.heap.objs.size t (W.frame _ _ _ st λb _ o z=>dR z) (get?_push_size _ rfl) (λl v h' c u n=>?_) λl h' c n=>?_⟩;.exact k l v h' c u λb o z y=>n b o z (ne_of_lt (lt_size y)) (dR y)
 .exact r l h' c λb o z y=>n b o z (ne_of_lt (lt_size y)) (dR y)
end
section
variable{X:Cx}{c:Call}{n:Nat}{e a b d elt tg:Expr}{p pa pb pe:P}{pos:Pos}{elts:List Expr}{x1:Nat}{tp:Pos}
def Xg(K:PySem.W.Frag)(i:Nat)(f:Ev):TI:=λσ H R=>∃F ρ ds g h,GS K F ρ σ H/\Fv i f ρ=.ok (ds,g) h/\∀J F1 j,Walk K F ρ σ H (aU g (some i)) J ds F1 h j->R J j
theorem Kz{x:Str}{p':Pos}{i:Nat}(hx:x="zip")(hg:Gl X x)(hm:X.mg x=none)(hv:isVar pb=some i)(ha:SX X c a pa)(hb:SX X c b pb)(hs:starEach [a,b] X.env=[(false,eval a X.env),(false,eval b X.env)]:=by rfl)(j:starEach [b] X.env=[(false,eval b X.env)]:=by rfl):PI X (.Tuple elts x1 tp) (.Call (.Name x p') [a,b] [] pos) (Xg X.K i (HH.ev c pa)):=by
 subst hx;refine kJ (Im hg hm (bW ha.ev (bW (hb.var i hv) eU j) (by rw[hs,j])) hs j) ?_;rintro σ H R⟨F,ρ,ds,l,ac,g,e,k⟩;obtain⟨r,M,e1,e⟩:=aj e;obtain⟨es,m,J,e⟩:=aj e;have N:=aB J;clear J;obtain⟨J,e3⟩:=N;subst e3;refine⟨F,ρ,r,M,g,e1,λu O A s o=>?_⟩;obtain⟨F2,s2,_,ru⟩:=s.cM o;obtain⟨t2,Q,ys,rfl,z,U⟩:=uX ru J;split at e;.rename_i bb d' q;obtain⟨f,ae,L,e⟩:=aj e;have N:=aB L;clear L;obtain⟨L,e5⟩:=N;subst e5;cases e;obtain⟨v',h1,rv⟩:=s2.gs.val i bb d' q;obtain⟨t1,w,xs,rfl,q1,r1⟩:=uX rv L;refine⟨_,h1,t2,t1,Q,w,rfl,⟨ys,aG.sq s2.gs.sub z⟩,⟨xs,aG.sq s2.gs.sub q1⟩,k _ _ _ ⟨s2.gs,λn k O B C A h=>pD (aG.sq h.gs.sub (aG.sq h.bU z)) (aG.sq h.gs.sub (aG.sq h.bU q1)) (U.mono h.bU) (r1.mono h.bU) h.gs.sub k,λF3 m E H3 s3=>?_⟩⟩;unfold aU;dsimp only;rw[q];exact⟨s2.trans s3,λv r o=>o.later s2⟩
 . rename_i bb f q;cases e;have hi:i<l.length:=(eX q).1;have W:=s2.gs.lend q;have ql:(l.set i (.lent f))[i]?=some (.lent f):=getElem?_set_self hi;obtain⟨w,xs,h1,Y,w3,w4⟩:=W.lB i _ f ql rfl;refine⟨_,h1,t2,false,Q,w,rfl,⟨ys,aG.sq s2.gs.sub z⟩,⟨xs,dN.of Y⟩,k _ _ _ ⟨W,λn k O B C A h=>?_,λF3 m E H3 s3=>?_⟩⟩;.obtain⟨G,t,Z,z3⟩:=h.lk i _ (by rw[getElem?_append_left (by simpa using hi)];exact ql) rfl;cases(show t=.lent f from z3);rw[getElem?_append_left (by rw[<-W.len];simpa using hi),h1]at G;obtain⟨a',y,I,u2,u3,u4⟩:=h.gs.lB i _ f Z rfl;rw[G]at I;cases I;exact pD (aG.sq h.gs.sub (aG.sq h.bU z)) (show Sq false X.K A w y from dN.of u2) (U.mono h.bU) u4 h.gs.sub k
   .unfold aU;dsimp only;rw[q];obtain⟨y1,y2⟩:=aC.aU s2.gs q s3;exact⟨s2.trans y1,λv r o=>(y2 v r o).later s2⟩
 . rename_i f q;cases e;have hi:i<l.length:=(eX q).1;obtain⟨w,xs,h1,Y,w3,w4⟩:=s2.gs.lB i _ f q rfl;refine⟨_,h1,t2,false,Q,w,rfl,⟨ys,aG.sq s2.gs.sub z⟩,⟨xs,dN.of Y⟩,k _ _ _ ⟨s2.gs,λn k O B C A h=>?_,λF3 m E H3 s3=>?_⟩⟩;.obtain⟨G,t,Z,z3⟩:=h.lk i _ (by rw[getElem?_append_left hi];exact q) rfl;cases(show t=.lent f from z3);rw[getElem?_append_left (by rw[<-s2.gs.len];exact hi),h1]at G;obtain⟨a',y,I,u2,u3,u4⟩:=h.gs.lB i _ f Z rfl;rw[G]at I;cases I;exact pD (aG.sq h.gs.sub (aG.sq h.bU z)) (show Sq false X.K A w y from dN.of u2) (U.mono h.bU) u4 h.gs.sub k
   .unfold aU;dsimp only;rw[q];exact⟨s2.trans s3,λv r o=>o.later s2⟩
 .cases e
variable{scope:Scope}{N':List Str}{ifs:List Expr}{iter:Expr}
theorem Ja{g:TG}{i:Nat}{o:List Nat}{one:Bool}{t:Option P}(hc:X.calm=true)(ok:fu X scope N' n)(hi:PI X tg iter (Xg X.K i (HH.ev c pb)))(q:∀cl C s₀ H₀ ex,PG (pI X scope N' cl C s₀ H₀ ex) tg g)(j:mq X.K X.N.length o one g)(ht:∀cl C s₀ H₀ ex,SQ (pI X scope N' cl C s₀ H₀ ex) c ifs t)(he:∀cl C s₀ H₀ ex,SX (pI X scope N' cl C s₀ H₀ ex) c elt pe)(hs:∀x,foldedSetIterable iter X.env x=pure x:=by intro _;rfl):SX X c (.ListComp elt [⟨tg,iter,ifs,0⟩] scope pos) (.tZ i pb n o one t pe):=by
 refine⟨GK (BJ (tt:=Eo X.K (ou c t)) (te:=sU X.K (HH.ev c pe)) hc ok hi q ht (λcl C s₀ H₀ ex=>(he cl C s₀ H₀ ex).ev) hs) ?_,λi h=>by cases h⟩;rintro σ H Q s⟨F,ρ,r,u,v,e,k⟩;rw[HH.E27]at e;obtain⟨⟨ds,l⟩,m,w,e⟩:=aj e;dsimp only at e;split at e;.rename_i f;obtain⟨xs,y,z,e⟩:=aj e;cases e;exact xf s j (λR h=>⟨F,ρ,ds,l,m,v,w,h⟩) f z k
 .cases e
end
end HH
end
section
namespace HH
open PySem L2 PySem.Spec PyProof.Rows
variable{o:Option V}{rows:List (List D)}
section
variable{K:PySem.W.Frag}{F F' F1 H H' H1 F0 H0:Hp}{ρ ρ' ρ1 ρ0:List Sl}{σ σ' σ1 σ0:L2.St}{x:Nat}{q:Addr}{as:List Addr}{rows n6:List (List D)}
noncomputable def Ga:Sl->Bool|.aQ=>true|.hold _=>true|_=>false
theorem gq{s:Sl}{i:Nat}{b:Addr}(g:Ga s=true)(h:bz (ρ.set x s) (σ.set x o) i b):bz ρ σ i b/\i≠x:=by
 obtain⟨⟨t,ds,e,a⟩,f⟩:=h;by_cases c:x=i
 . subst c;rw[getElem?_set]at e;rw[if_pos rfl]at e;split at e;.cases e;cases s<;>first|(cases a;done)|(cases g;done)
   .cases e
 .rw[getElem?_set_ne c]at e f;exact⟨⟨⟨t,ds,e,a⟩,f⟩,λz=>c z.symm⟩
theorem GS.Af{s:Sl}(f:Ga s=true)(g:GS K F ρ σ H):GS K F (ρ.set x s) (σ.set x o) H:=by
 refine⟨g.sub,by simp[g.len],λi b d e=>?_,λi t ds e h=>?_,λi j a h1 k=>g.dis i j a (gq f h1).1 (gq f k).1⟩
 . by_cases c:x=i
   . subst c;rw[getElem?_set,if_pos rfl]at e;split at e;.cases e;cases f
     .cases e
   .rw[getElem?_set_ne c]at e ⊢;exact g.val i b d e
 . by_cases c:x=i
   . subst c;rw[getElem?_set,if_pos rfl]at e;split at e;.cases e;cases s<;>first|(cases h;done)|(cases f;done)
     .cases e
   .rw[getElem?_set_ne c]at e ⊢;exact g.own i t ds e h
theorem aC.Af{s:Sl}{o:Option V}(a:Ga s=true)(t:aC K F ρ σ H F1 ρ1 σ1 H1)(f:∀s0,ρ[x]?=some s0->sO s0=false):aC K F ρ σ H F1 (ρ1.set x s) (σ1.set x o) H1:=by
 refine⟨t.gs.Af a,t.bU,t.xK,t.keep,λb⟨i,h⟩=>t.vB b ⟨i,(gq a h).1⟩,by simp[t.len],λi g e l=>?_⟩;have c:x≠i:=by rintro rfl;rw[f _ e]at l;cases l
 obtain⟨j,s2,k,m⟩:=t.lk i g e l;exact⟨by rw[getElem?_set_ne c];exact j,s2,by rw[getElem?_set_ne c];exact k,m⟩
theorem aC.free{i:Nat}{s1:Sl}(t:aC K F ρ σ H F1 ρ1 σ1 H1)(h:ρ1[i]?=some s1)(a:sO s1=false):∀s0,ρ[i]?=some s0->sO s0=false:=λs0 e=>by cases z:sO s0 with|false=>rfl|true=>obtain⟨_,s2,b,c⟩:=t.lk i s0 e z;rw[h]at b;cases b;rw[c.sO z]at a;cases a
structure Qd(F:Hp)(ρ:List Sl)(σ:L2.St)(H:Hp)(a:Addr)(xs:List V):Prop where kp:Kp ρ σ H a (.lst xs)fr:F a=none
theorem Qd.stp{a:Addr}{xs:List V}(h:Qd F ρ σ H a xs)(s:aC K F ρ σ H F' ρ' σ' H'):Qd F' ρ' σ' H' a xs:=by refine⟨h.kp.stp s,?_⟩;cases z:F' a with|none=>rfl|some o=>
   rcases s.xK a h.fr (by rw[z];simp)with y|y;.exact absurd y h.kp.2
   .rw[h.kp.1]at y;cases y
structure Nw(K:PySem.W.Frag)(x:Nat)(q:Addr)(as:List Addr)(F:Hp)(ρ:List Sl)(σ:L2.St)(H:Hp)(rows:List (List D)):Prop where
 slot:ρ[x]?=some (.hold rows)val:σ[x]?=some (some (.ref q))out:Qd F ρ σ H q (as.map V.ref)nd:(q::as).Nodup
 len:as.length=rows.length
 row:∀(k:Nat)(a:Addr)(ds:List D),as[k]?=some a->rows[k]?=some ds->Wt K F ρ σ H a ds
theorem Nw.stp(w:Nw K x q as F ρ σ H rows)(s:aC K F ρ σ H F' ρ' σ' H'):Nw K x q as F' ρ' σ' H' rows:=by obtain⟨b,s2,c,e⟩:=s.lk x _ w.slot rfl;cases(show s2=.hold rows from e);exact⟨c,b.trans w.val,w.out.stp s,w.nd,w.len,λk a ds h1 f=>(w.row k a ds h1 f).stp s⟩
structure NB(K:PySem.W.Frag)(x:Nat)(q:Addr)(as:List Addr)(F0:Hp)(ρ0:List Sl)(σ0:L2.St)(H0:Hp)(F:Hp)(ρ:List Sl)(σ:L2.St)(H:Hp)(rows:List (List D)):Prop where
 stp:aC K F0 ρ0 σ0 H0 F ρ σ H
 fresh:∀b,b∈q::as->Own ρ0 σ0 b\/H0 b=none
 free:∀s0,ρ0[x]?=some s0->sO s0=false
 nw:Nw K x q as F ρ σ H rows
theorem NB.step(b:NB K x q as F0 ρ0 σ0 H0 F ρ σ H rows)(s:aC K F ρ σ H F' ρ' σ' H'):NB K x q as F0 ρ0 σ0 H0 F' ρ' σ' H' rows:=⟨b.stp.trans s,b.fresh,b.free,b.nw.stp s⟩
theorem Ax{s:Sl}{a:Addr}{b:HO}(c:Ga s=true)(h:Kp ρ σ H a b):Kp (ρ.set x s) (σ.set x o) H a b:=⟨h.1,λ⟨i,z⟩=>h.2 ⟨i,(gq c z).1⟩⟩
theorem Lk{s:Sl}{a:Addr}{ds:List D}(b:Ga s=true)(h:Wt K F ρ σ H a ds):Wt K F (ρ.set x s) (σ.set x o) H a ds:=by obtain⟨⟨xs,h1,c⟩,e⟩:=h;exact⟨⟨xs,Ax b h1,c⟩,e⟩
theorem aC.abd{Da:Addr}{o:HO}(s:aC K F ρ σ H F1 ρ1 σ1 H1)(h:Own ρ σ Da\/H Da=none)(g:F1 Da=none)(ho:¬ Own ρ1 σ1 Da):aC K F ρ σ H F1 ρ1 σ1 (upd H1 Da o):=by
 refine⟨⟨λb u e=>?_,s.gs.len,s.gs.val,λi t ds e c=>?_,s.gs.dis⟩,s.bU,s.xK,λb u e n=>?_,s.vB,s.len,s.lk⟩
 . have:b≠Da:=by rintro rfl;rw[g]at e;cases e
   rw[aD this];exact s.gs.sub b u e
 . obtain⟨a,xs,f,j,k,l⟩:=s.gs.own i t ds e c;have:a≠Da:=by rintro rfl;exact ho ⟨i,⟨t,ds,e,c⟩,f⟩
   exact⟨a,xs,f,by rw[aD this];exact j,k,l⟩
 . have:b≠Da:=by
    rintro rfl;rcases h with h|h;.exact n h
    .rw[h]at e;cases e
   rw[aD this];exact s.keep b u e n
theorem NB.mut{r:Nat}{a:Addr}{row e:List D}{ys:List V}(b:NB K x q as F0 ρ0 σ0 H0 F ρ σ H rows)(g:as[r]?=some a)(hr:rows[r]?=some row)(p:aF K F ys e):NB K x q as F0 ρ0 σ0 H0 F (ρ.set x (.hold (rows.set r e))) σ (upd H a (.lst ys)) (rows.set r e):=by
 have w:=b.nw.row r a row g hr;obtain⟨⟨xs,l,r1⟩,f1⟩:=w;have t:x<ρ.length:=(eX b.nw.slot).1;have m:σ.set x (some (.ref q))=σ:=by have:=b.nw.val;obtain⟨h1,f⟩:=eX this;rw[<-f];simp
 have mem:a∈q::as:=mem_cons_of_mem _ (mem_of_getElem? g);have s1:=(b.stp.abd (o:=.lst ys) (b.fresh a mem) f1 l.2).Af (x:=x) (s:=.hold (rows.set r e)) (o:=some (.ref q)) rfl b.free;rw[m]at s1;have u:q≠a:=by have:=(nodup_cons.mp b.nw.nd).1;rintro rfl;exact this (mem_of_getElem? g)
 have own:∀{c:Addr},¬ Own ρ σ c->¬ Own (ρ.set x (.hold (rows.set r e))) σ c:=λ{c}h⟨i,z⟩=>h ⟨i,by have:=gq (x:=x) (s:=.hold (rows.set r e)) (o:=some (.ref q)) (σ:=σ) (ρ:=ρ) rfl (b:=c) (i:=i) (by rw[m];exact z);exact this.1⟩;refine⟨s1,b.fresh,b.free,⟨getElem?_set_self t,b.nw.val,⟨⟨by rw[aD u];exact b.nw.out.kp.1,own b.nw.out.kp.2⟩,b.nw.out.fr⟩,b.nw.nd,by simp[b.nw.len],λk c ds h1 f=>?_⟩⟩;by_cases j:k=r;.subst j;rw[g]at h1;cases h1;have v:k<rows.length:=(eX hr).1;rw[getElem?_set_self v]at f;cases f;exact⟨⟨ys,⟨aM,own l.2⟩,p⟩,f1⟩
 . rw[getElem?_set_ne (λz=>j z.symm)]at f;obtain⟨⟨y,n,A⟩,f2⟩:=b.nw.row k c ds h1 f;have nc:c≠a:=by rintro rfl;have nd:=(nodup_cons.mp b.nw.nd).2;obtain⟨E,B⟩:=eX h1;obtain⟨l2,C⟩:=eX g;exact j ((List.getElem_inj nd).mp (B.trans C.symm))
   exact⟨⟨y,⟨by rw[aD nc];exact n.1,own n.2⟩,A⟩,f2⟩
noncomputable def Fz(F H:Hp)(bs:List Addr):Hp:=λb=>if b∈bs then H b else F b
theorem sZ{G:Hp}:∀{as:List Addr}{rows:List (List D)},as.length=rows.length->(∀(k:Nat)(a:Addr)(ds:List D),as[k]?=some a->rows[k]?=some ds->Rep K G (.ref a) (.lst ds))->aF K G (as.map V.ref) (rows.map D.lst)|[],[],_,_=>.nil|a::as,ds::rows,h,k=>.cons (k 0 a ds rfl rfl) (sZ (by simpa using h) λj b es h1 c=>k (j+1) b es (by simpa using h1) (by simpa using c))|[],_::_,h,_=>by simp at h|_::_,[],h,_=>by simp at h
theorem Nw.Ni(w:Nw K x q as F ρ σ H rows){b:Addr}(hb:b∈q::as):F b=none/\¬ Own ρ σ b:=by
 rcases mem_cons.mp hb with rfl|hb;.exact⟨w.out.fr,w.out.kp.2⟩
 . obtain⟨k,a⟩:=getElem?_of_mem hb;have c:k<rows.length:=by rw[<-w.len];exact(eX a).1
   obtain⟨⟨xs,e,_⟩,f1⟩:=w.row k b rows[k] a (by simp[c]);exact⟨f1,e.2⟩
theorem Nw.fz(w:Nw K x q as F ρ σ H rows)(c:aG F H):aG F (Fz F H (q::as))/\aG (Fz F H (q::as)) H/\Rep K (Fz F H (q::as)) (.ref q) (.lst (rows.map D.lst)):=by
 have s1:aG F (Fz F H (q::as)):=λb o e=>by unfold Fz;rw[if_neg λf=>by rw[(w.Ni f).1]at e;cases e];exact e
 refine⟨s1,λb o e=>?_,?_⟩
 . unfold Fz at e;split at e;.exact e
   .exact c b o e
 .rw[Rep];refine⟨q,as.map V.ref,rfl,dN.of (by unfold Fz;rw[if_pos mem_cons_self];exact w.out.kp.1),sZ w.len λk a ds h1 g=>?_⟩;obtain⟨⟨xs,h,r1⟩,f1⟩:=w.row k a ds h1 g;rw[Rep];exact⟨a,xs,rfl,dN.of (by unfold Fz;rw[if_pos (mem_cons_of_mem _ (mem_of_getElem? h1))];exact h.1),r1.mono s1⟩
theorem NB.cM(b:NB K x q as F0 ρ0 σ0 H0 F ρ σ H rows):aC K F0 ρ0 σ0 H0 (Fz F H (q::as)) (ρ.set x (.val false (.lst (rows.map D.lst)))) σ H:=by
 obtain⟨s1,s2,u⟩:=b.nw.fz b.stp.gs.sub;have g:=b.stp.gs;have r:x<ρ.length:=(eX b.nw.slot).1;have k:∀{j:Nat}{c:Addr},bz (ρ.set x (.val false (.lst (rows.map D.lst)))) σ j c->bz ρ σ j c/\x≠j:=λ{j c}⟨⟨t,ds,e,m⟩,e1⟩=>by
  by_cases f:x=j;.subst f;rw[getElem?_set_self r]at e;cases e;cases m
  .rw[getElem?_set_ne f]at e;exact⟨⟨⟨t,ds,e,m⟩,e1⟩,f⟩
 refine⟨⟨s2,by simp[g.len],λi w d e=>?_,λi t ds e m=>?_,λi j c h1 p=>g.dis i j c (k h1).1 (k p).1⟩,b.stp.bU.trans s1,λc n s=>?_,b.stp.keep,λc⟨j,h⟩=>b.stp.vB c ⟨j,(k h).1⟩,by simp[b.stp.len],λi t e l=>?_⟩
 . by_cases f:x=i;.subst f;rw[getElem?_set_self r]at e;cases e;exact⟨_,b.nw.val,u⟩
   .rw[getElem?_set_ne f]at e;obtain⟨v,h1,p⟩:=g.val i w d e;exact⟨v,h1,p.mono s1⟩
 . by_cases f:x=i;.subst f;rw[getElem?_set_self r]at e;cases e;cases m
   .rw[getElem?_set_ne f]at e;obtain⟨a,o,h1,p,y,z⟩:=g.own i t ds e m;refine⟨a,o,h1,p,?_,z.mono s1⟩;unfold Fz;rw[if_neg λA=>(b.nw.Ni A).2 ⟨i,⟨t,ds,e,m⟩,h1⟩];exact y
 . by_cases hc:c∈q::as;.exact(b.fresh c hc).imp id jY
   . have:Fz F H (q::as) c=F c:=by unfold Fz;rw[if_neg hc]
     rw[this]at s;exact b.stp.xK c n s
 . have c:x≠i:=by rintro rfl;rw[b.free _ e]at l;cases l
   obtain⟨B,s3,C,E⟩:=b.stp.lk i t e l;exact⟨B,s3,by rw[getElem?_set_ne c];exact C,E⟩
end
inductive QB(K:PySem.W.Frag)(x:Nat)(f:List Sl->Res Fl)(E:Ends)(σ:L2.St)(H:Hp):Prop where|mk(F0:Hp)(ρ0:List Sl)(σ0:L2.St)(H0 F:Hp)(ρ:List Sl)(q:Addr)(as:List Addr)(rows:List (List D))(fl:Fl)(ρ':List Sl)(b:NB K x q as F0 ρ0 σ0 H0 F ρ σ H rows)(e:f ρ=.ok fl ρ')(k:∀F' σ' H',aC K F0 ρ0 σ0 H0 F' ρ' σ' H'->aG F F'->((∀r,fl≠.ret r)->∃n6,NB K x q as F0 ρ0 σ0 H0 F' ρ' σ' H' n6)->Fb K E F' ρ' σ' H' ρ0 σ0 H0 fl)
inductive W5(K:PySem.W.Frag)(x:Nat)(f:List Sl->Res Fl)(E:Ends)(σ:L2.St)(H:Hp):Prop where|mk(F0:Hp)(ρ0:List Sl)(σ0:L2.St)(H0 F:Hp)(ρ:List Sl)(q:Addr)(as:List Addr)(rows:List (List D))(fl:Fl)(ρ':List Sl)(b:NB K x q as F0 ρ0 σ0 H0 F ρ σ H rows)(e:f ρ=.ok fl ρ')(k:∀F' σ' H',aC K F0 ρ0 σ0 H0 F' ρ' σ' H'->Fb K E F' ρ' σ' H' ρ0 σ0 H0 fl)
structure WY(X:Cx)(c:Call)(n x:Nat)(st:Stmt)(s:S):Prop where p:PS X st (QB X.K x (ex c n s))
structure Vn(X:Cx)(c:Call)(n x:Nat)(st:List Stmt)(s:List S):Prop where p:wB X st (QB X.K x (iJ c n s))
structure Zc(X:Cx)(c:Call)(n x:Nat)(st:List Stmt)(s:List S):Prop where p:wB X st (W5 X.K x (iJ c n s))
section
variable{X:Cx}{c:Call}{n x:Nat}{e a b d tg iter:Expr}{p pa pb pd:P}{pos:Pos}{body:List Stmt}{ss:List S}{st:Stmt}{s:S}{sts:List Stmt}
theorem pB:Vn X c n x [] []:=⟨nH Br λD σ H⟨f,ρ0,σ0,H0,F,ρ,q,as,rows,fl,ρ',nb,e,k⟩=>by rw[xs0]at e;cases e;exact k F σ H nb.stp (.refl _) λ_=>⟨rows,nb⟩⟩
theorem pW(h1:WY X c n x st s)(w:Vn X c n x sts ss):Vn X c n x (st::sts) (s::ss):=by refine⟨nH (lX h1.p w.p) ?_⟩;rintro D σ H⟨h,f,g,i,F,ρ,q,as,rows,fl,t,l,e,k⟩;rw[Rk]at e;obtain⟨f1,j,m,e⟩:=aj e;cases f1 with|next=>refine⟨h,f,g,i,F,ρ,q,as,rows,.next,j,l,m,λF1 y I s1 A nn=>?_⟩;obtain⟨B,C⟩:=nn (λr z=>by cases z);exact⟨h,f,g,i,F1,j,q,as,B,fl,t,C,e,λF2 u E s2 G v=>k F2 u E s2 (A.trans G) v⟩|brk=>cases e;exact⟨h,f,g,i,F,ρ,q,as,rows,.brk,_,l,m,k⟩|cont=>cases e;exact⟨h,f,g,i,F,ρ,q,as,rows,.cont,_,l,m,k⟩|ret r=>cases e;exact⟨h,f,g,i,F,ρ,q,as,rows,.ret r,_,l,m,k⟩
theorem Gw(h1:WY X c n x st s)(w:Zc X c n x sts ss):Zc X c n x (st::sts) (s::ss):=by refine⟨nH (lX h1.p w.p) ?_⟩;rintro D σ H⟨j,g,h,l,F,ρ,q,as,rows,fl,v,t,e,k⟩;rw[Rk]at e;obtain⟨f1,m,u,e⟩:=aj e;cases f1 with|next=>refine⟨j,g,h,l,F,ρ,q,as,rows,.next,m,t,u,λF1 f i s1 B nn=>?_⟩;obtain⟨y,A⟩:=nn (λr z=>by cases z);exact⟨j,g,h,l,F1,m,q,as,y,fl,v,A,e,k⟩|brk=>cases e;exact⟨j,g,h,l,F,ρ,q,as,rows,.brk,_,t,u,λF1 f i s1 _ _=>k F1 f i s1⟩|cont=>cases e;exact⟨j,g,h,l,F,ρ,q,as,rows,.cont,_,t,u,λF1 f i s1 _ _=>k F1 f i s1⟩|ret r=>cases e;exact⟨j,g,h,l,F,ρ,q,as,rows,.ret r,_,t,u,λF1 f i s1 _ _=>k F1 f i s1⟩
theorem Kg(h:SB X c n sts ss):Zc X c n x sts (.cM x::ss):=by refine⟨nH h ?_⟩;rintro D σ H⟨B,l,m,C,F,ρ,q,as,rows,fl,f,i,e,k⟩;rw[Rk]at e;obtain⟨f1,u,j,e⟩:=aj e;rw[HH.X22,i.nw.slot]at j;cases j;have t:=i.cM;refine⟨_,_,fl,f,t.gs,e,λw g y s=>?_⟩;have z:=k w g y (t.trans s);cases fl with|next=>exact z|brk=>exact z|cont=>exact z|ret r=>exact λv A=>z v (A.later t)
theorem QX{r u:List Stmt}{v w:List S}(hc:ST X c e p)(z:Vn X c n x r v)(A:Vn X c n x u w):WY X c n x (.If e r u pos) (.ifs p v w):=by refine⟨dU (N7 hc z.p A.p) ?_⟩;rintro D σ H⟨B,j,l,C,F,ρ,q,as,rows,fl,i,y,e,k⟩;rw[HH.X13]at e;obtain⟨t,g,E,e⟩:=aj e;refine⟨F,ρ,t,g,y.stp.gs,E,λF1 G s1=>?_⟩;have go:∀{f:List Sl->Res Fl},f g=.ok fl i->QB X.K x f D σ G:=λ{f}h=>⟨B,j,l,C,F1,g,q,as,rows,fl,i,y.step s1,h,λF2 m I s2 J nn=>k F2 m I s2 (s1.bU.trans J) nn⟩;cases t with|true=>rw[if_pos rfl]at e;exact go e|false=>rw[if_neg Bool.false_ne_true]at e;exact go e
theorem FP{ρ:List Sl}(h:ji ρ x=some rows):ρ[x]?=some (.hold rows):=by
 unfold ji at h;split at h;.rename_i z;cases h;exact z
 .cases h
def WalkN(K:PySem.W.Frag)(J:It)(ds:List D)(F1:Hp):Prop:=∀(k:Nat)(h f:Hp),aG F1 h->aG h f->(∀d,ds[k]?=some d->J.go k f/\∀x i,J.Jf k f x i->∃g,Ext h f g i/\Rep K g x d)/\(ds.length<=k->J.stop k f)
inductive abo(K:PySem.W.Frag)(f:Ev)(σ:L2.St)(H:Hp)(R:It->Hp->Prop):Prop where|mk(F:Hp)(ρ:List Sl)(r:HH.R)(ρ1:List Sl)(ds:List D)(g:GS K F ρ σ H)(e:f ρ=.ok r ρ1)(e2:items r.d=some ds)(k:∀J F1 H1,aC K F ρ σ H F1 ρ1 σ H1->WalkN K J ds F1->R J H1)
structure SIN(X:Cx)(c:Call)(tg e:Expr)(p:P):Prop where p:PI X tg e (abo X.K (HH.ev c p))
theorem J5(h:SX X c e p):SIN X c tg e p:=by refine⟨kJ (xV h.ev) ?_⟩;rintro σ H R⟨F,ρ,r,m,ds,g,e,f,k⟩;refine⟨F,ρ,r,m,g,e,λv y z s t=>?_⟩;obtain⟨F2,s2,_,i⟩:=s.cM t;cases hd:r.d with|tup es=>rw[hd]at i f;cases f;rw[Rep]at i;obtain⟨a,xs,rfl,h1,q⟩:=i;exact⟨a,rfl,.inr ⟨⟨xs,aG.gF s2.gs.sub h1⟩,k _ _ _ s2 λk u w j l=>Bu (aG.gF l (aG.gF j h1)) (q.mono j) l k⟩⟩|lst es=>rw[hd]at i f;cases f;rw[Rep]at i;obtain⟨a,xs,rfl,h1,q⟩:=i;exact⟨a,rfl,.inl ⟨⟨xs,s2.gs.sub.seq h1⟩,k _ _ _ s2 λk u w j l=>pN (l.seq (j.seq h1)) (q.mono j) l k⟩⟩|_=>rw[hd]at f;cases f
theorem Cv{K:PySem.W.Frag}{F1:Hp}(i j:Int):WalkN K (T5 i (j-i).toNat) ((List.range (j-i).toNat).map λ(k:Nat)=>D.int (i+(k:Int))) F1:=by
 refine λk g v _ l=>⟨λd hd=>?_,λh=>?_⟩;.rw[getElem?_map]at hd;obtain⟨m,q,r⟩:=map_some hd;obtain⟨h1,f⟩:=eX q;rw[List.getElem_range]at f;subst f;subst r;rw[length_range]at h1;refine⟨h1,?_⟩;rintro x w⟨t,u⟩;subst t;subst u;exact⟨g,.refl l,bC _⟩
 .rw[length_map,length_range]at h;exact h
theorem Gv{x:Str}{q:Pos}(t:x="range")(u:Gl X x)(w:X.mg x=none)(y:SX X c a pa)(hs:starEach [a] X.env=[(false,eval a X.env)]:=by rfl):SIN X c tg (.Call (.Name x q) [a] [] pos) (.rO (.con (.int 0)) pa):=by
 subst t;obtain⟨O,h1,z⟩:=y.cW;refine⟨kJ (tH u w (bW h1 eU hs) hs) ?_⟩;rintro σ H R⟨F,ρ,r,A,ds,g,l,B,k⟩;rw[HH.E20]at l;obtain⟨Q,C,E,f⟩:=aj l;have G:=aB f;clear f;obtain⟨f,I⟩:=G;subst I;obtain⟨U,J,L,h⟩:=aj E;cases h;obtain⟨i,f1,f⟩:=bZ f;obtain⟨j,f2,f⟩:=bZ f;obtain⟨⟨b1,b2,b3,b4⟩,f⟩:=bB f;have f1:i=0:=by cases f1;rfl
 subst f1;subst f;cases B;cases di f2;refine z g L λv m M s N=>⟨j,by rw[N.int],by omega,by omega,?_⟩;have:=Cv (K:=X.K) (F1:=m) 0 j;rw[sub_zero]at this;refine k _ m M s ?_;rw[sub_zero];exact this
theorem zY{g:TG}{O:List Nat}{one:Bool}(hp:PassesOwn (model X.prog X.w) X.A X.env X.xe)(hc:X.calm=true)(hi:SIN X c tg iter p)(hg:PG X tg g)(ag:Ez X.K (λρ d=>cI ρ O one d) g)(hb:Vn X c n x body ss)(hs:∀x,foldedSetIterable iter X.env x=pure x:=by intro _;rfl):WY X c n x (.For tg iter body [] pos) (.Eg p O one ss):=by
 refine⟨dU (Fq hp hc hi.p hg hb.p hs) ?_⟩;rintro D σ H⟨F0,C,E,H0,F,ρ,q,as,rows,fl,Q,nb,e,k⟩;rw[HH.X21]at e;obtain⟨r,U,e1,e⟩:=aj e;obtain⟨ds,am,e9,e2⟩:=aj e;have zz:=aB e9;clear e9;obtain⟨e9,ah⟩:=zz;subst ah;refine⟨F,ρ,r,U,ds,nb.stp.gs,e1,e9,λJ F1 H1 s1 w=>?_⟩;refine⟨λi m l Hi=>∃B f N,NB X.K x q as F0 C E H0 B f l Hi N/\aG F1 B/\m=ds.length-i/\i<=ds.length/\iZ O one (iJ c n ss) (ds.drop i) f=.ok fl Q,⟨_,F1,U,rows,nb.step s1,.refl _,rfl,BZ,e2⟩,?_⟩;rintro i m l Hi⟨B,f,N,W,G,rfl,ap,j⟩;obtain⟨w1,w2⟩:=w i B Hi G W.stp.gs.sub;by_cases t:i<ds.length
 . right;have hd:ds[i]?=some ds[i]:=by simp[t]
   obtain⟨go,step⟩:=w1 _ hd;refine⟨go,λY Z=>∃m',m'<ds.length-i/\∃B f N,NB X.K x q as F0 C E H0 B f Y Z N/\aG F1 B/\m'=ds.length-(i+1)/\i+1<=ds.length/\iZ O one (iJ c n ss) (ds.drop (i+1)) f=.ok fl Q,λY Z z=>z,λy Z yy=>?_⟩;obtain⟨F2,ext,rx⟩:=step y Z yy;have t2:=ext.stp W.stp.gs;rw[drop_eq_getElem_cons t,yh]at j;cases hbd:cI f O one ds[i]with|none=>rw[hbd]at j;cases j|some ac=>rw[hbd]at j;obtain⟨ae,I,eb,j⟩:=aj j;refine ag y _ F2 f ac l Z _ t2.gs rx hbd λar sb=>?_;have t3:=t2.trans sb;refine⟨F0,C,E,H0,F2,ac,q,as,N,ae,I,W.step t3,eb,λF4 af H4 s4 ai L=>?_⟩;have u:aG F1 F4:=G.trans (ext.fs.trans ai);cases ae with|next=>obtain⟨Jp,M⟩:=L (λr z=>by cases z);exact⟨_,by omega,F4,I,Jp,M,u,rfl,t,j⟩|cont=>obtain⟨Jp,M⟩:=L (λr z=>by cases z);exact⟨_,by omega,F4,I,Jp,M,u,rfl,t,j⟩|brk=>cases j;exact k F4 af H4 s4 (s1.bU.trans u) λ_=>L (λr z=>by cases z)|ret r=>cases j;exact λv rr=>k F4 af H4 s4 (s1.bU.trans u) (λh=>(h r rfl).elim) v rr
 . left;have al:ds.drop i=[]:=by rw[drop_eq_nil_iff];omega
   rw[al,Io]at j;cases j;exact⟨w2 (by omega),k B l Hi W.stp (s1.bU.trans G) λ_=>⟨N,W⟩⟩
end
section
variable{X:Cx}{c:Call}{n:Nat}{e a b d i j:Expr}{p pa pb pd pi pj:P}{pos:Pos}
theorem K1{ρ f:List Sl}{x:Nat}{o:Option (List (List D))}{fl:Fl}(h:Cw ρ x o=.ok fl f):∃rows,o=some rows/\fl=.next/\f=ρ.set x (.hold rows):=by cases o with|none=>cases h|some rows=>cases h;exact⟨rows,rfl,rfl,rfl⟩
section
variable{K:PySem.W.Frag}{F H F0 H0:Hp}{ρ ρ0:List Sl}{σ σ0:L2.St}{x:Nat}{q:Addr}{as:List Addr}{rows n6:List (List D)}
theorem NB.hold(f:NB K x q as F0 ρ0 σ0 H0 F ρ σ H rows)(h:ji ρ x=some n6):n6=rows:=by have:=FP h;rw[f.nw.slot]at this;cases this;rfl
theorem NB.at{k:Int}{r:Nat}{row:List D}(f:NB K x q as F0 ρ0 σ0 H0 F ρ σ H rows)(h1:HH.iy rows.length k=some r)(h:rows[r]?=some row):∃a ys,as[r]?=some a/\Hv (as.map V.ref) k=some (.ref a)/\H a=some (.lst ys)/\aF K F ys row:=by
 have g:r<as.length:=by rw[f.nw.len];exact(eX h).1
 obtain⟨⟨ys,l,r1⟩,_⟩:=f.nw.row r as[r] row (by simp[g]) h;refine⟨as[r],ys,by simp[g],?_,l.1,r1⟩;unfold Hv;rw[length_map,f.nw.len];rw[show L2.iy rows.length k=some r from h1];simp[g]
theorem NB.um{g:D}{row:List D}(l:NB K x q as F0 ρ0 σ0 H0 F ρ σ H rows)(h:HH.um ρ x g=some row):∃k a,(∃r:Nat,as[r]?=some a)/\Hv (as.map V.ref) k=some (.ref a)/\g=.int k/\∃ys,H a=some (.lst ys)/\aF K F ys row:=by unfold HH.um at h;obtain⟨f,h1,h⟩:=bZ h;cases l.hold h1;obtain⟨k,m,h⟩:=bZ h;obtain⟨r,s,t⟩:=bZ h;obtain⟨a,ys,u,v,w,y⟩:=l.at s t;exact⟨k,a,⟨r,u⟩,v,di m,ys,w,y⟩
end
theorem De{l:List (List D)}{k:Int}{f:List D->Option (List D)}(h:jr rows k f=some l):∃r row g,HH.iy rows.length k=some r/\rows[r]?=some row/\f row=some g/\l=rows.set r g:=by unfold jr at h;obtain⟨r,h1,h⟩:=bZ h;obtain⟨row,m,h⟩:=bZ h;obtain⟨g,q,h⟩:=map_some h;exact⟨r,row,g,h1,m,q,h.symm⟩
theorem G5{x:Str}{k:Nat}{u f h g:Pos}(hN:X.N[k]?=some x)(hv:xQ X.env.scope x)(hi:SX X c i pi)(he:SX X c e p)(I:u9 i:=by intro _ _;rfl)(l:(h.endLine==g.line)=true:=by rfl)(hs:starEach [e] X.env=(false,eval e X.env)::starEach [] X.env:=by rfl)(s:attributeBase (.Subscript (.Name x u) i f) "append" X.env (eval (.Subscript (.Name x u) i f) X.env)=eval (.Subscript (.Name x u) i f) X.env:=by rfl)(w:((backTo g (starEach [e] X.env)).all (λx=>!x.1)&&(backToKw g (keywordEach [] X.env)).all (λx=>x.1.isSome)&&decide ([e].length+([]:List Keyword).length+(if([]:List Keyword).isEmpty then 0 else 1)<30))=true:=by rfl)(J:swapsWith (.Call (.Attribute (.Subscript (.Name x u) i f) "append" h) [e] [] g) none pos.line X.env=pure false:=by rfl)(hd:(x==("__debug__":Str))=false:=by decide)(L:(x==("__classdict__":Str))=false:=by decide):WY X c n k (.Expr (.Call (.Attribute (.Subscript (.Name x u) i f) "append" h) [e] [] g) pos) (.Jk k pi p):=by obtain⟨ti,M,O⟩:=hi.cW;refine⟨dU (uK (Es plainAttrs_list PySem.F.slot_list_append PySem.F.type_list_append m5 (Mw Aw (gH hN hv hd L) M I) (bW he.ev eU hs) s w l hs) J) ?_⟩;rintro E σ H⟨F0,al,am,H0,F,ρ,q,as,rows,fl,ap,Q,e,kk⟩;rw[HH.X20]at e;obtain⟨dk,U,e2,e⟩:=aj e;obtain⟨ah,ai,C,e⟩:=aj e;have zz:=aB C;clear C;obtain⟨C,W⟩:=zz;subst W;obtain⟨r,Y,e3,e⟩:=aj e;obtain⟨rs,y,rfl,rfl⟩:=K1 e;refine⟨.ref q,Q.nw.val,O Q.stp.gs e2 λvi F1 H1 s1 pi=>?_⟩;have G:=Q.step s1;obtain⟨k0,a,g1,g2,g0,ys,g3,g4⟩:=G.um C;rw[g0]at pi;refine⟨q,_,k0,_,rfl,pi.int,dN.of G.nw.out.kp.1,g2,.inl ⟨rfl,ys,dN.of g3⟩,F1,U,r,Y,G.stp.gs,e3,λv F2 H2 s2 rr=>?_⟩;obtain⟨F3,s3,_,rp⟩:=s2.cM rr;have t:=G.step s3;obtain⟨Z,e5,y⟩:=bZ y;cases t.hold e5;obtain⟨k1,e6,y⟩:=bZ y;obtain⟨m,row,j8,f1,f2,f3,rfl⟩:=De y;obtain⟨ac,rfl⟩:=bB f3;have:=di e6;rw[g0]at this;cases this;obtain⟨a',ae,af,z,ag,A⟩:=t.at f1 f2;rw[g2]at z;cases z;have B:=t.mut af f2 (A.append (.cons rp .nil));exact⟨a,ae,v,rfl,rfl,ag,by rw[A.length];exact ac,kk F3 σ _ B.stp (s1.bU.trans s3.bU) λ_=>⟨_,B⟩⟩
end
section
variable{K:PySem.W.Frag}{F H F1 H1:Hp}{ρ ρ1:List Sl}{σ σ1:L2.St}
theorem aC.since{b:Addr}(s:aC K F ρ σ H F1 ρ1 σ1 H1)(h:H1 b=none):Own ρ σ b\/H b=none:=by
 by_cases ho:Own ρ σ b;.exact .inl ho
 .right;cases e:H b with|none=>rfl|some o=>rw[s.keep b o e ho]at h;cases h
theorem NB.mk'{x:Nat}{q:Addr}{as:List Addr}{s1:Sl}(s:aC K F ρ σ H F1 ρ1 σ1 H1)(c:ρ1[x]?=some s1)(f:sO s1=false)(g:Qd F1 ρ1 σ1 H1 q (as.map V.ref))(nd:(q::as).Nodup)(len:as.length=rows.length)(row:∀(k:Nat)(a:Addr)(ds:List D),as[k]?=some a->rows[k]?=some ds->Wt K F1 ρ1 σ1 H1 a ds)(fr:∀b,b∈q::as->Own ρ σ b\/H b=none):NB K x q as F ρ σ H F1 (ρ1.set x (.hold rows)) (σ1.set x (some (.ref q))) H1 rows:=by
 have hi:x<ρ1.length:=(eX c).1;have e:x<σ1.length:=by rw[<-s.gs.len];exact hi
 exact⟨s.Af rfl (s.free c f),fr,s.free c f,⟨getElem?_set_self hi,getElem?_set_self e,⟨Ax rfl g.kp,g.fr⟩,nd,len,λk a ds h1 h=>Lk rfl (row k a ds h1 h)⟩⟩
end
theorem Hl{K:PySem.W.Frag}{F H:Hp}{ρ e j:List Sl}{σ:L2.St}{ul:List Sl->List Sl}{ti:TI}{is:List Nat}{one:Bool}{c:Call}{el:Ev}{g:TG}{Q:VK}{ds:List D}{m n:Nat}(hm:σ.length=m)(ax:mq K m is one g)(ay:∀R:It->Hp->Prop,(∀J F1 X,Walk K F ρ σ H ul J ds F1 e X->R J X)->ti σ H R)(bi:ds.length<=lim)(e2:gw is one el ds [] (e++replicate n .aQ)=.ok rows j)(k:∀ q as F' H',aC K F ρ σ H F' (ul (j.take e.length)) σ H'->Qd F' (ul (j.take e.length)) σ H' q (as.map V.ref)->(q::as).Nodup->as.length=rows.length->(∀(k:Nat)(a:Addr)(ds:List D),as[k]?=some a->rows[k]?=some ds->Wt K F' (ul (j.take e.length)) σ H' a ds)->(∀b,b∈q::as->Own ρ σ b\/H b=none)->Q (.ref q) H'):tM n ti g (Eo K (ou c none)) (sU K el) σ H Q:=by
 refine ay _ λJ F1 X w Da Z=>?_;have aE:e.length=σ.length:=w.gs.len;have gm:=w.gs.more (n:=n) (τ:=replicate n none) (by simp);have fD:F1 Da=none:=by cases q:F1 Da with|none=>rfl|some o=>rw[w.gs.sub Da o q]at Z;cases Z
 have nO:¬ Own (e++replicate n .aQ) (σ++replicate n none) Da:=λ⟨i,⟨t,dt,q1,q2⟩,q3⟩=>by obtain⟨a,ys,z1,z2,_⟩:=gm.own i t dt q1 q2;rw[q3]at z1;cases z1;rw[Z]at z2;cases z2
 refine⟨λi mm ys f M=>∃N l u as,aC K F1 (e++replicate n .aQ) (σ++replicate n none) X N l f M/\f.take m=σ/\ys=as.map V.ref/\M Da=some (.lst ys)/\N Da=none/\¬ Own l f Da/\(Da::as).Nodup/\as.length=u.length/\(∀(k:Nat)(a:Addr)(ds:List D),as[k]?=some a->u[k]?=some ds->Wt K N l f M a ds/\(Own (e++replicate n .aQ) (σ++replicate n none) a\/X a=none))/\u.length<=i/\mm=ds.length-i/\i<=ds.length/\gw is one el (ds.drop i) u l=.ok rows j,⟨_,F1,_,[],[],(aC.refl gm).Fo Z fD nO,by rw[List.take_append_of_le_length (by omega),List.take_of_length_le (by omega)],rfl,aM,fD,nO,by simp,rfl,λk a ds h=>by simp at h,BZ,rfl,BZ,e2⟩,?_⟩;rintro i mm ys f M⟨N,l,u,as,si,ap,ac,hD,hF,hO,ae,B,G,bm,rfl,bn,E⟩;refine⟨hD,?_⟩;have stay:∀{F2 H2:Hp}{af:List Sl}{I:L2.St},aC K N l f M F2 af I H2->H2 Da=some (.lst ys)/\F2 Da=none/\¬ Own af I Da:=λ{F2 H2 af I}s=>by have:=(Qd.stp (xs:=ys) ⟨⟨hD,hO⟩,hF⟩ s);exact⟨this.kp.1,this.fr,this.kp.2⟩
 obtain⟨s1,s2⟩:=w.src n i N l f M si;by_cases ag:i<ds.length
 . right;have hd:ds[i]?=some ds[i]:=by simp[ag]
   obtain⟨go,step⟩:=s1 _ hd;refine⟨go,λx H2 y=>?_⟩;obtain⟨F2,ext,rx⟩:=step x H2 y;have t2:=ext.stp si.gs;rw[drop_eq_getElem_cons ag,G9]at E;cases hbd:cI l is one ds[i]with|none=>rw[hbd]at E;cases E|some U=>rw[hbd]at E;obtain⟨re,ah,ee,E⟩:=aj E;cases re with|val _=>cases E|own ai=>
     replace E:gw is one el (ds.drop (i+1)) (u++[ai]) ah=.ok rows j:=E;refine ax x _ F2 l U f H2 _ t2.gs rx hbd λI sb aI=>?_;have t3:=t2.trans sb;refine⟨F2,U,true,U,t3.gs,by rw[ou],λF4 H4 s4=>?_⟩;have t4:=t3.trans s4;refine(show sU K el I H4 _ from⟨F4,U,.own ai,ah,t4.gs,ee,λv F5 H5 s5 rr=>?_⟩);have t6:=t4.trans s5;obtain⟨y1,y2,y3⟩:=stay t6;obtain⟨z1,z2,z3⟩:=stay t4;have al:ys.length<sizeLine:=by have O:lim=sizeLine:=rfl;rw[ac,length_map];omega
     obtain⟨A,xs,rfl,a1,a2,a3,a4,a5⟩:=rr;have ar:A≠Da:=by
      rintro rfl;rcases a5 with z|z;.exact z3 z
      .rw[z1]at z;cases z
     have nA:A∉as:=λhA=>by
      obtain⟨L,C⟩:=getElem?_of_mem hA;have am:L<u.length:=by rw[<-B];exact(eX C).1
      obtain⟨⟨zs,Y,_⟩,_⟩:=(G L A u[L] C (by simp[am])).1.stp t4;rcases a5 with z|z;.exact Y.2 z
      .rw[Y.1]at z;cases z
     have fA:Own (e++replicate n .aQ) (σ++replicate n none) A\/X A=none:=by
      have t:=si.trans t4;rcases a5 with z|z;.exact t.vB A z
      .exact t.since z
     refine⟨y1,al,_,by omega,F5,ah,u++[ai],as++[A],(si.trans t6).Fo Z y2 y3,aI.trans ap,by rw[ac];simp,aM,y2,y3,?_,by simp[B],λL a0 aS h1 O=>?_,by simp;omega,rfl,ag,E⟩
     . rw[<-cons_append,nodup_append];refine⟨ae,by simp,λp hp r hr=>?_⟩;simp at hr;subst hr;rcases mem_cons.mp hp with rfl|hp;.exact λz=>ar z.symm
       .rintro rfl;exact nA hp
     . by_cases C:L<as.length
       . rw[getElem?_append_left C]at h1;rw[getElem?_append_left (by omega)]at O;obtain⟨w0,f0⟩:=G L a0 aS h1 O;obtain⟨⟨zs,Y,r1⟩,g1⟩:=w0.stp t6;have na:a0≠Da:=by rintro rfl;exact(nodup_cons.mp ae).1 (mem_of_getElem? h1)
         exact⟨⟨⟨zs,⟨by rw[aD na];exact Y.1,Y.2⟩,r1⟩,g1⟩,f0⟩
       . rw[getElem?_append_right (by omega)]at h1;rw[getElem?_append_right (by omega)]at O;have:L-as.length=0:=by have:=(eX h1).1;simp at this;exact this
         rw[this]at h1;rw[<-B,this]at O;cases h1;cases O;exact⟨⟨⟨xs,⟨by rw[aD ar];exact a1,a4⟩,a3⟩,a2⟩,fA⟩
 . left;have aT:ds.drop i=[]:=by rw[drop_eq_nil_iff];omega
   rw[aT,IV]at E;cases E;refine⟨s2 (by omega),?_⟩;have hst:f.take e.length=σ:=by rw[aE,hm];exact ap
   obtain⟨l1,l2⟩:=aC.less (m:=e.length) rfl w.gs (by simp) si;rw[hst]at l1;obtain⟨z1,z2⟩:=w.fin _ _ _ _ l1--the outer list:with nothing in it,it is like any new one
   have a8:=si.Fo (o:=.lst []) Z hF hO;obtain⟨av,Vu⟩:=aC.less (m:=e.length) rfl w.gs (by simp) a8;rw[hst]at av;obtain⟨bo,a9⟩:=w.fin _ _ _ _ av;have rr:cT K N j f (upd M Da (.lst [])) (e++replicate n .aQ) (σ++replicate n none) X (.ref Da) (.own []):=⟨Da,[],rfl,aM,hF,.nil,hO,.inr Z⟩;have Ox:=Vu _ _ rr;rw[hst]at Ox;obtain⟨_,_,q0,_,q3,_,q5,q6⟩:=a9 _ _ Ox;cases q0;have aw:∀(k:Nat)(a:Addr)(ds:List D),as[k]?=some a->rows[k]?=some ds->Wt K N (ul (j.take e.length)) σ M a ds/\(Own ρ σ a\/H a=none):=λk a ds h1 O=>by obtain⟨⟨⟨xs,Y,r1⟩,f1⟩,f2⟩:=G k a ds h1 O;have rr:cT K N j f M (e++replicate n .aQ) (σ++replicate n none) X (.ref a) (.own ds):=⟨a,xs,rfl,Y.1,f1,r1,Y.2,f2⟩;have Ox:=l2 _ _ rr;rw[hst]at Ox;obtain⟨a',ba,q0,q2,q3,q4,q5,q6⟩:=z2 _ _ Ox;cases q0;exact⟨⟨⟨ba,⟨q2,q5⟩,q4⟩,q3⟩,q6⟩
   refine k Da as N M z1 ⟨⟨by rw[hD,ac],q5⟩,q3⟩ ae B (λk a ds h1 O=>(aw k a ds h1 O).1) λb hb=>?_;rcases mem_cons.mp hb with rfl|hb;.exact q6
   . obtain⟨L,C⟩:=getElem?_of_mem hb;have am:L<rows.length:=by rw[<-B];exact(eX C).1
     exact(aw L b rows[L] C (by simp[am])).2
section
variable{X:Cx}{c:Call}{nn n:Nat}{tg iter elt:Expr}{ps pe:P}{pos:Pos}{sts:List Stmt}{ss:List S}{scope:Scope}{N':List Str}
theorem JP{i:Nat}{x:Str}{b f:Pos}{g:TG}{z:List Nat}{one:Bool}(hc:X.calm=true)(B:X.N.Nodup)(m:X.N[i]?=some x)(E:Loc X.env.scope x)(ok:fu X scope N' n)(hi:SI X c tg iter ps)(G:∀cl C s₀ H₀ ex,PG (pI X scope N' cl C s₀ H₀ ex) tg g)(r:mq X.K X.N.length z one g)(ht:∀cl C s₀ H₀ ex,SQ (pI X scope N' cl C s₀ H₀ ex) c [] none)(he:∀cl C s₀ H₀ ex,SX (pI X scope N' cl C s₀ H₀ ex) c elt pe)(J:Zc X c nn i sts ss)(t:swapsWith (.ListComp elt [⟨tg,iter,[],0⟩] scope pos) (some (.Name x b)) f.line X.env=pure true:=by rfl)(hs:∀x,foldedSetIterable iter X.env x=pure x:=by intro _;rfl)(L:X.fn x=true\/X.env.scope.names.lookup x=some .local:=by first|exact .inl rfl|exact .inr rfl|assumption):SB X c nn (.Assign [.Name x b] (.ListComp elt [⟨tg,iter,[],0⟩] scope pos) f::sts) (.Jj i ps n z one pe::ss):=by
 have h0:=Be (tt:=Eo X.K (ou c none)) (te:=sU X.K (HH.ev c pe)) hc B m E ok hi G ht (λcl C s₀ H₀ ex=>(he cl C s₀ H₀ ex).ev) t hs L;refine λj s σ H D I q=>lX h0 J.p j s σ H D I ?_;have M:σ.length=X.N.length:=I.len;obtain⟨F,ρ,fl,u,O,e,Q⟩:=q;rw[Rk]at e;obtain⟨f1,U,a,e⟩:=aj e;rw[HH.X19]at a;obtain⟨ds,w,W,a⟩:=aj a;split at a;.rename_i k;obtain⟨rows,Y,Z,a⟩:=aj a;obtain⟨ac,A,l,a⟩:=aj a;cases a;have zz:=aB l;clear l;obtain⟨l,_⟩:=zz;obtain⟨s1,h1,h2,rfl⟩:=Il l;refine(show tM n (tIt X.K (isVar ps) (HH.ev c ps)) g (Eo X.K (ou c none)) (sU X.K (HH.ev c pe)) σ H (λv H1=>jx i v σ H1 (W5 X.K i (iJ c nn ss) D))from Hl (c:=c) (ul:=aU ρ (isVar ps)) M r (λR h=>⟨F,ρ,ds,w,O,W,h⟩) k Z λq as F' H' s wq nd len row fr=>?_);exact⟨F,ρ,σ,H,F',_,q,as,rows,fl,u,NB.mk' s h1 h2 wq nd len row fr,e,λF2 y H2 s2=>Q F2 y H2 s2⟩
 .cases a
end
end HH
end
section
namespace HH
open PySem L2 PySem.Spec PyProof.Rows PySem.Calls PySem.W
variable{i:Nat}{x:Str}
section
variable{K:PySem.W.Frag}{F F1 H H1:Hp}{ρ ρ1 ρ2:List Sl}{σ σ1:L2.St}
theorem GS.acv{x:Nat}{kvs f:List (Int×D)}{a:Addr}{w:HO}(g:GS K F ρ σ H)(e:ρ[x]?=some (.cN kvs))(p:σ[x]?=some (some (.ref a)))(r:kE K F w (.v f)):aC K F ρ σ H F (ρ.set x (.cN f)) σ (upd H a w):=by
 have hi:x<ρ.length:=(eX e).1;have y:bz ρ σ x a:=⟨⟨_,_,e,rfl⟩,p⟩;obtain⟨L,M,h1,N,z,O⟩:=g.own x _ _ e rfl;rw[p]at h1;cases h1;have h:∀{j:Nat}{c:Addr},bz (ρ.set x (.cN f)) σ j c->bz ρ σ j c:=λ{j c}⟨⟨t,dt,m,s⟩,q3⟩=>by
  by_cases b:j=x;.subst b;exact⟨⟨_,_,e,rfl⟩,q3⟩
  .rw[gO b]at m;exact⟨⟨t,dt,m,s⟩,q3⟩
 refine⟨⟨λc o q=>?_,by simp[g.len],λj B d q=>?_,λj t dt q u=>?_,λj k c m s=>g.dis j k c (h m) (h s)⟩,.refl _,λc n C=>absurd n C,λc o q n=>?_,λc⟨j,q⟩=>.inl ⟨j,h q⟩,by simp,λj t q l=>⟨rfl,?_⟩⟩
 . have:c≠a:=by rintro rfl;rw[z]at q;cases q
   rw[aD this];exact g.sub c o q
 . by_cases b:j=x;.subst b;rw[getElem?_set_self hi]at q;cases q
   .rw[gO b]at q;exact g.val j B d q
 . by_cases b:j=x;.subst b;rw[getElem?_set_self hi]at q;cases q;cases u;exact⟨a,_,p,aM,z,r⟩
   . rw[gO b]at q;obtain⟨c,E,A,G,I,J⟩:=g.own j t dt q u;have:c≠a:=by rintro rfl;exact b (g.dis j x c ⟨⟨t,dt,q,u⟩,A⟩ y)
     exact⟨c,E,A,by rw[aD this];exact G,I,J⟩
 . have:c≠a:=by rintro rfl;exact n ⟨x,y⟩
   rw[aD this];exact q
 . by_cases b:j=x;.subst b;rw[e]at q;cases q;cases l
   .exact⟨t,by rw[gO b];exact q,.refl t⟩
theorem GS.newV{kvs:List (Int×D)}{a:Addr}{A:HO}{s0:Sl}(g:GS K F ρ σ H)(e:ρ[i]?=some s0)(y:sO s0=false)(r:kE K F A (.v kvs))(s:H a=none):aC K F ρ σ H F (ρ.set i (.cN kvs)) (σ.set i (some (.ref a))) (upd H a A):=by
 have hi:i<ρ.length:=(eX e).1;have u:i<σ.length:=by rw[<-g.len];exact hi
 have B:F a=none:=by cases q:F a with|none=>rfl|some o=>rw[g.sub a o q]at s;cases s
 have f:∀{j:Nat}{c:Addr},j≠i->bz (ρ.set i (.cN kvs)) (σ.set i (some (.ref a))) j c->bz ρ σ j c:=λ{j c}b⟨⟨t,ds,e1,e2⟩,e3⟩=>by rw[gO b]at e1 e3;exact⟨⟨t,ds,e1,e2⟩,e3⟩
 have h:∀{c:Addr},bz (ρ.set i (.cN kvs)) (σ.set i (some (.ref a))) i c->c=a:=λ{c}⟨_,e3⟩=>by rw[getElem?_set_self u]at e3;cases e3;rfl
 have no:∀{j:Nat},¬ bz ρ σ j a:=λ{j}⟨⟨t,ds,e1,e2⟩,e3⟩=>by obtain⟨c,o,m,p,_⟩:=g.own j t ds e1 e2;rw[e3]at m;cases m;rw[s]at p;cases p
 refine⟨⟨λc o q=>?_,by simp[g.len],λj E d q=>?_,λj t dt q C=>?_,λj k c m p=>?_⟩,.refl _,λc n G=>absurd n G,λc o q n=>?_,λc⟨j,q⟩=>?_,by simp,λj t q l=>?_⟩
 . have:c≠a:=by rintro rfl;rw[B]at q;cases q
   rw[aD this];exact g.sub c o q
 . by_cases b:j=i;.subst b;rw[getElem?_set_self hi]at q;cases q
   .rw[gO b]at q ⊢;exact g.val j E d q
 . by_cases b:j=i;.subst b;rw[getElem?_set_self hi]at q;cases q;cases C;exact⟨a,_,getElem?_set_self u,aM,B,r⟩
   . rw[gO b]at q ⊢;obtain⟨c,o,I,z,J,L⟩:=g.own j t dt q C;have:c≠a:=by rintro rfl;rw[s]at z;cases z
     exact⟨c,o,I,by rw[aD this];exact z,J,L⟩
 . by_cases b:j=i
   . by_cases w:k=i;.rw[b,w]
     .subst b;rw[h m]at p;exact absurd (f w p) no
   . by_cases w:k=i;.subst w;rw[h p]at m;exact absurd (f b m) no
     .exact g.dis j k c (f b m) (f w p)
 . have:c≠a:=by rintro rfl;rw[s]at q;cases q
   rw[aD this];exact q
 . by_cases b:j=i;.subst b;rw[h q];exact .inr s
   .exact .inl ⟨j,f b q⟩
 . have b:j≠i:=by rintro rfl;rw[e]at q;cases q;rw[y]at l;cases l
   exact⟨by rw[gO b],t,by rw[gO b];exact q,.refl t⟩
end
section
variable{X:Cx}{c:Call}{n:Nat}{a b e:Expr}{pa pb p:P}{pos:Pos}
theorem Ag{f p2:Pos}(m:X.N.Nodup)(hi:X.N[i]?=some x)(o:Loc X.env.scope x)(hs:swapsWith (.Dict [] [] p2) (some (.Name x f)) pos.line X.env=pure false:=by rfl)(r:X.fn x=true\/X.env.scope.names.lookup x=some .local:=by first|exact .inl rfl|exact .inr rfl|assumption):SS X c n (.Assign [.Name x f] (.Dict [] [] p2) pos) (.Eh i):=by
 refine dU (yJ m hi o Fj hs r) ?_;rintro D σ H⟨F,ρ,fl,h,g,e,k⟩;rw[HH.X23]at e;have go:∀s0,ρ[i]?=some s0->sO s0=false->fl=.next->h=ρ.set i (.cN [])->∀a,H a=none->D.nx (σ.set i (some (.ref a))) (upd H a (.dK [])):=λs0 q s j l a t=>by subst j l;exact k F _ _ (g.newV (kvs:=[]) q s (KR.oc .nil) t)
 split at e;.rename_i q;cases e;exact go _ q rfl rfl rfl
 .rename_i q;cases e;exact go _ q rfl rfl rfl
 .rename_i q;cases e;exact go _ q rfl rfl rfl
 .cases e
theorem oW{w f:Pos}{pk:P}(hu:X.A.units+8<cLine)(C:X.N[i]?=some x)(E:xQ X.env.scope x)(G:SX X c a pk)(he:SX X c e p)(hs:swapsWith e (some (.Subscript (.Name x w) a f)) pos.line X.env=pure false:=by rfl)(hd:(x==("__debug__":Str))=false:=by decide)(m:(x==("__classdict__":Str))=false:=by decide):SS X c n (.Assign [.Subscript (.Name x w) a f] e pos) (.gf i pk p):=by
 obtain⟨ta,h1,I⟩:=G.cW;refine dU (K8 (by omega) (gH C E hd m) h1 he.ev hs) ?_;rintro D σ H⟨F,ρ,fl,J,g,e,k⟩;rw[HH.X25]at e;obtain⟨r,o,L,l⟩:=aj e;clear e;refine⟨F,ρ,r,o,g,L,λv F1 H1 s1 M=>?_⟩;obtain⟨F2,s2,_,O⟩:=s1.cM M;split at l
 . rename_i Q U;obtain⟨kd,W,Y,h⟩:=aj l;clear l;obtain⟨s,o0,t,w2,w3,w4⟩:=s2.gs.own i _ _ U rfl;refine⟨.ref s,t,I s2.gs Y λy Z H3 s3 py=>?_⟩;split at h
   . rename_i kvs j q;split at h;.rename_i hl;cases h;obtain⟨a1,o1,z,y2,y3,y4⟩:=s3.gs.own i _ _ q rfl;rw[t]at z;cases z;obtain⟨es,rfl,B⟩:=KR.Qg y4;have u:=B.put (k:=j) (O.mono s3.bU);refine⟨s,upd H3 s (.dK (putK es (Sum.inl j:Key) v)),rfl,?_,k Z σ _ ((s2.trans s3).trans (s3.gs.acv q t u.oc))⟩;rw[py.int];exact .inl ⟨es,Sum.inl j,y2,rfl,by rw[B.len,sizeLine_eq];exact hl,rfl⟩
     .cases h
   .cases h
 .cases l
theorem yE{y:Pos}{pk:P}(hu:X.A.units+8<cLine)(z:X.N[i]?=some x)(B:xQ X.env.scope x)(C:SX X c a pk)(hs:Ky a)(hd:(x==("__debug__":Str))=false:=by decide)(l:(x==("__classdict__":Str))=false:=by decide):SX X c (.Subscript (.Name x y) a pos) (.Ot i pk):=by
 obtain⟨ta,h1,E⟩:=C.cW;refine⟨eY (JM (by omega) (gH z B hd l) h1 hs) ?_,λi h=>by cases h⟩;rintro σ H Q⟨F,ρ,r,G,g,e,k⟩;rw[HH.E24]at e;split at e
 . rename_i I q;obtain⟨kd,J,L,f⟩:=aj e;clear e;obtain⟨m,o0,o,w2,w3,w4⟩:=g.own i _ _ q rfl;refine⟨.ref m,o,E g L λv F1 M s1 s=>?_⟩;split at f;.rename_i kvs O;obtain⟨t,U⟩:=aB f;clear f;subst U;obtain⟨j,W,Y⟩:=bZ t;clear t;obtain⟨d,Z,e6⟩:=map_some Y;subst e6;rw[di W]at s;obtain⟨a1,o1,u,y2,y3,y4⟩:=s1.gs.own i _ _ O rfl;rw[o]at u;cases u;obtain⟨es,rfl,kr⟩:=KR.Qg y4;obtain⟨w,g1,g2⟩:=kr.get Z;rw[s.int];exact⟨m,w,rfl,.inl ⟨es,Sum.inl j,.inl y2,rfl,g1.symm⟩,k w F1 M s1 (show Rep X.K F1 _ _ from g2)⟩
   .cases f
 .cases e
theorem Rb{G:Pos}{pk:P}{neg:Bool}{op:CmpOp}(t:(op=.In/\neg=false)\/(op=.NotIn/\neg=true))(hu:X.A.units+8<cLine)(w:X.N[i]?=some x)(z:xQ X.env.scope x)(J:SX X c a pk)(hd:(x==("__debug__":Str))=false:=by decide)(m:(x==("__classdict__":Str))=false:=by decide):PC X op a (.Name x G) (sU X.K (HH.ev c (.Ou i pk neg))):=by
 obtain⟨L,h1,M⟩:=J.cW;have l:∀{σ:L2.St}{H:Hp}{Q:VK},sU X.K (HH.ev c (.Ou i pk neg)) σ H Q->L σ H λy u=>Ro i σ u λx B=>∃a o,x=.ref a/\qL B a y o/\Q (.bl (if neg then !o.isSome else o.isSome)) B:=λ{σ H Q}⟨F,ρ,r,ρ',g,e,k⟩=>by
  rw[HH.E25]at e;obtain⟨kd,O,U,q⟩:=aj e;clear e;refine M g U λv F1 u s1 C=>?_;split at q;.rename_i kvs W;obtain⟨Y,Z⟩:=aB q;clear q;subst Z;obtain⟨j,e4,e5⟩:=map_some Y;subst e5;rw[di e4]at C;obtain⟨E,o1,y1,y2,y3,y4⟩:=s1.gs.own i _ _ W rfl;obtain⟨es,rfl,kr⟩:=KR.Qg y4;rw[C.int];refine⟨.ref E,y1,E,_,rfl,.inl ⟨es,Sum.inl j,.inl y2,rfl,rfl⟩,?_⟩;rw[kr.has j];exact k _ F1 u s1 (show Rep X.K F1 _ _ from fO _)
  .cases q
 rcases t with⟨rfl,rfl⟩|⟨rfl,rfl⟩;.exact λf s σ H Q I h=>S5 (by omega) h1 (gH w z hd m) f s σ H Q I (l h)
 .exact λf s σ H Q I h=>Cy (by omega) h1 (gH w z hd m) f s σ H Q I (l h)
end
theorem nU{P:Program}{w:World}:∀{ks:List Int}{es:List (Key×V)}{vs:List (Key×Value)}{a:List Value},es.map (·.1)=ks.map (Sum.inl:Int->Key)->KV es vs->a.length=vs.length->(∀(j:Nat)(v:Value),a[j]?=some v->∃(k:Key)(x:Value),vs[j]?=some (k,x)/\(bY P w).is k v=true)->IntsAre a ks
 |[],es,_,a,he,r,h,_=>by cases es with
   |nil=>cases r;cases a with|nil=>exact .nil|cons _ _=>simp at h
   |cons _ _=>simp at he
 |i::ks,es,_,a,he,r,h,k=>by cases es with|nil=>simp at he|cons p es=>cases r with|@cons _ q _ _ r t=>rw[map_cons,map_cons]at he;cases a with|nil=>simp at h|cons v a=>
         obtain⟨f,x,c,g⟩:=k 0 v rfl;simp at c;have l:f=Sum.inl i:=by have z:=r.1;rw[c]at z;rw[<-(List.cons.inj he).1];exact z.symm
         subst l;obtain⟨n,m,b,rfl⟩|⟨_,_,b,_⟩:=bT (show qG (Sum.inl i) v=true from g);.cases b;exact .cons _ m (nU (List.cons.inj he).2 t (by simpa using h) λj v e=>k (j+1) v (by simpa using e))
         .cases b
section
variable{X:Cx}{c:Call}{n:Nat}{a b e:Expr}{pa pb p:P}{pos:Pos}
theorem Xu(hc:X.calm=true):dC X (.type "list") (Ht X.K λx=>blt .Vs [x]):=by rintro t s σ H xs us Q I r⟨x,B,F,d,C,y,E,he,k⟩;cases d with|dv ks ds=>
   obtain⟨G,he⟩:=bB (show(if ks.length<=16777216 then some (R.own (ks.map D.int))else none)=some C from he);subst he;obtain⟨q,J,g,rfl,L,M,N⟩:=E.dv y;subst B;obtain⟨u,rfl,O⟩:=r.one;cases O;obtain⟨ho,hz,U,vs,z,l⟩:=(show cz X.prog X.w H s.heap q (.cM J (.dK (ent ks g)))from I.hok q _ L);obtain⟨ep,l⟩:=l.dictAt;have A:=pK (ks:=ks) (vs:=g) (by rw[M.length];exact N);have m:vs.length=ks.length:=by rw[<-Paired.length z];have:=congrArg List.length A;simpa using this
   refine kdl_call (kdl_dict (knd:=bY X.prog X.w) (kvs:=vs) (ep:=ep) U) (I.ok.hd hc) l (by rw[m,sizeLine_eq];omega) λh' W h Y kp Z f=>?_;have ia:IntsAre h.toList ks:=nU (P:=X.prog) (w:=X.w) A z (by rw[length_toList];exact f.1) λj v e=>f.2 j v (by rw[<-Array.getElem?_toList];exact e);refine⟨.ref s.heap.objs.size,_,I.laid (t':=W) (o:=.lst (ks.map V.int)) (h':=h') kp (dm) ⟨by rw[length_map,sizeLine_eq];omega,h.toList,Y,lL ia,by rw[Array.toArray_toList];exact Z⟩,rfl,?_⟩;exact Dy y (sV ks) (I.hok.fresh (dm)) k|_=>cases he
theorem Hj{f:Pos}(g:x="list")(hc:X.calm=true)(j:Gl X x)(k:X.mg x=none)(l:SX X c a pa)(hs:starEach [a] X.env=(false,eval a X.env)::starEach [] X.env:=by rfl):SX X c (.Call (.Name x f) [a] [] pos) (.blt .Vs [pa]):=by subst g;exact km (λh=>jV (Xu hc) j k (by decide+kernel) h (he:=hs)) l (λρ=>rfl) rfl hs
theorem J9{neg:Bool}{op:CmpOp}(f:(op=.In/\neg=false)\/(op=.NotIn/\neg=true))(M:X.A.units+8<cLine):fW X (compareOp op) (rD X.K (v9 neg)):=by rintro o s σ H x y v u Q I h w⟨F,d,e,r,l,z,B,he,k⟩;cases d with
 |int j=>cases e with|dv ks ds=>
     cases he;obtain⟨q,C,vs,rfl,E,G,J⟩:=B.dv l;have L:=KR.zip G J;rw[z.int]at h;obtain rfl:u=Value.ref q:=w;have g:qL H q (.int j) (jl (ent ks vs) (Sum.inl j:Key)):=.inl ⟨_,Sum.inl j,.inr ⟨C,E⟩,rfl,rfl⟩;have t:(jl (ent ks vs) (Sum.inl j:Key)).isSome=ks.contains j:=by rw[L.has j];congr 1;rw[List.map_fst_zip (by omega)]
     rcases f with⟨rfl,rfl⟩|⟨rfl,rfl⟩;.refine Yk (by omega) I g h λs3 m=>⟨.bl (jl (ent ks vs) (Sum.inl j:Key)).isSome,H,m,rfl,?_⟩;rw[t];exact cF.cX l (fO _) k
     .refine Ah (by omega) I g h λs3 m=>⟨.bl (!(jl (ent ks vs) (Sum.inl j:Key)).isSome),H,m,rfl,?_⟩;rw[t];exact cF.cX l (fO _) k|_=>cases he
 |_=>cases he
end
end HH
end
section
namespace PySem
section
variable{prog:Program}{w:World}{A:Around}{E:Value->Shared->Prop}{s:Shared}
theorem uU{Q:List Value->Shared->Prop}{I l:Addr}{items:Array Value}(u:A.handled=none)(f:s.heap.IsRevIter I l ((items.size:Int)-1))(p:s.heap.IsList l items)(k:l≠I)(g:items.size<=2^24)(x:∀h' m c,(∀b o,b≠I->s.heap.get? b=some o->h'.get? b=some o)->s.heap.objs.size<h'.objs.size->ItemsOf (λi v=>items[items.size-1-i]?=some v) c items.size->Q c.toList {s with heap:=h',toks:=m}):
 wpAny (model prog w) A (collect (.ref I)) Q E s:=by have h:I<s.heap.objs.size:=let⟨_,ho,_⟩:=f;lt_size ho;have n:l<s.heap.objs.size:=let⟨_,ho,_⟩:=p;lt_size ho;unfold collect;refine wpAny_bind (wpAny_runValue (codeAny_builtin F.entry_proto_collect ?_));rw[Around.under_plainId F.plain_proto_collect _];show wpAny _ A.in1 (newList []>>=λl=>again (.builtin "list.__iadd__" ⟨[l,.ref I],[]⟩)) _ _ s;refine wpAny_bind (wpAny_newObj_type ?_);refine wpAny_pure ⟨plainId_quiet F.plain_list_iadd _,codeAny_builtin F.entry_list_iadd ?_⟩;rw[Around.under_plainId F.plain_list_iadd _];show wpAny _ A.in1 (listExtendWith (.ref s.heap.objs.size) (.ref I) (.ref s.heap.objs.size)) _ _ _;refine mG (A:=A) (R:=λr q=>match r with
  |.ok (.ret v)=>wpAny (model prog w) A (match v with
   |.ref a=>do let o<-load a match o.data with|.seq xs _=>pure xs.toList|_=>unsupported "internal:collect"
   |_=>unsupported "internal:collect") Q E q|.ok _=>False|.error e=>E e q) (s:={s with heap:=s.heap.push {cls:=.type "list",data:=.seq #[]}}) u (f.at λo e=>dR e) (p.at λo e=>dR e) k g s.heap.objs.size (Ne.symm (ne_of_lt h)) (Ne.symm (ne_of_lt n)) _ 0 (get?_push_size _ rfl) λh' m c B y t j=>?_;refine wpAny_bind (wpAny_load t ?_);exact wpAny_pure (x h' m c (λb o z e=>y b o (ne_of_lt (lt_size e)) z (dR e)) (lt_size t) j)
end
theorem jK(I l:Addr)(items:Array Value)(i:l≠I)(hsz:items.size<=2^24):Meets (Builtin.«tuple.__new__» ⟨[.type "tuple",.ref I],[]⟩) (λA R s=>A.handled=none/\s.heap.IsRevIter I l ((items.size:Int)-1)/\s.heap.IsList l items/\∀(h':Heap)(p:Nat),(∀b o,b≠I->s.heap.get? b=some o->h'.get? b=some o)->s.heap.objs.size<h'.objs.size->∀a:Array Value,a=items.reverse->R (.ok (.ret (.ref h'.objs.size))) {s with heap:=h'.push {cls:=.type "tuple",data:=.seq a},toks:=p}):=.of_wp λprog w A R s h=>by
  obtain⟨r,f,t,h⟩:=h;have q:=sub_tuple_self;have k:=init_tuple_lookup;have u:=madeHere_tuple;have x:Shared.TypeIs s (.ref I) "list_reverseiterator":=f.typeIs;obtain⟨o,ho,hc,hd⟩:=id f;obtain⟨C,g,d,p,os⟩:=s;wp_walk using AutoSeq1.wpAny_loadPart' ho,wpAny_typeOf x,uU (A:=A.in1) r f t i hsz;intro h' m a y n c;show wpAny _ _ (tupleExact a.toList.toArray>>=λv=>ret v) _ _ _;have e:a.toList.toArray=a:=by simp
  have z:a=items.reverse:=by refine Array.ext (by rw[c.1,Array.size_reverse]) λj h1 E=>?_;have:=c.2 j _ (Array.getElem?_eq_getElem h1);rw[Array.getElem_reverse];have B:=Array.getElem?_eq_some_iff.mp this;exact B.2.symm
  rw[e];unfold tupleExact;refine wpAny_bind (wpAny_newObj_type ?_ (by show a.size<=sizeLine;rw[c.1,sizeLine_eq];omega));exact wpAny_pure ⟨_,rfl,h h' m y n a z⟩
section
variable{prog:Program}{w:World}{A:Around}{E:Value->Shared->Prop}{s:Shared}
theorem oG{I l:Addr}{items:Array Value}{Q:Value->Shared->Prop}(i:A.handled=none)(a:s.heap.IsRevIter I l ((items.size:Int)-1))(j:s.heap.IsList l items)(c:l≠I)(hsz:items.size<=2^24)(h:∀(h':Heap)(f:Nat),(∀b o,b≠I->s.heap.get? b=some o->h'.get? b=some o)->s.heap.objs.size<h'.objs.size->Q (.ref h'.objs.size) {s with heap:=h'.push {cls:=.type "tuple",data:=.seq items.reverse},toks:=f}):wpAny (model prog w) A (call (.type "tuple") [.ref I]) Q E s:=callType_new F.called_tuple (by decide) (F.typeCall_tuple_1 _) (F.newCall_tuple_1 _) (λobj=>F.args_object_init_2 obj _) F.entry_tuple_new (jK I l items c hsz) ⟨i,a,j,λh' f k g m e=>by subst e;exact⟨⟨_,get?_push_size _ rfl,rfl⟩,h h' f k g⟩⟩
end
end PySem
namespace L2
open PySem PySem.Spec PyProof.Rows
section
variable{X:Cx}{pins:List (Addr×Obj)}{σ:St}{H:Hp}{s:Shared}{E:Value->Shared->Prop}
theorem yq{a:Expr}{B:TE}{p pos p2 g:Pos}(hc:X.calm=true)(n:Gl X "tuple")(t:X.mg "tuple"=none)(J:Gl X "reversed")(L:X.mg "reversed"=none)(M:PE X a B)(hs:starEach [a] X.env=[(false,eval a X.env)]:=by rfl)(i:starEach [.Call (.Name "reversed" p) [a] [] pos] X.env=[(false,eval (.Call (.Name "reversed" p) [a] [] pos) X.env)]:=by rfl):PE X (.Call (.Name "tuple" p2) [.Call (.Name "reversed" p) [a] [] pos] [] g) (λσ H Q=>B σ H λx f=>∃ad xs,x=.ref ad/\dN X.K f ad xs/\∀l,f l=none->Q (.ref l) (upd f l (.tup xs.reverse))):=by
 intro pins s σ H Q I h;refine Call_ (gW I n t vL (PyProof.Rows.callWith_type1 ?_ i rfl));rw[i];show wpAny _ _ (spliced ((false,eval (.Call (.Name "reversed" p) [a] [] pos) X.env)::[])) _ _ _;refine Calls.spliced_cons (Call_ (gW I J L qN (PyProof.Rows.callWith_type1 (cB ((bW M eU hs) pos pins s σ H (λvs f=>match vs with|[x]=>∃ad xs,x=.ref ad/\dN X.K f ad xs/\∀l,f l=none->Q (.ref l) (upd f l (.tup xs.reverse))|_=>False) I h) ?_) hs rfl)));rintro Z s1⟨vs,f,m,r1,v⟩;obtain⟨ad,xs,N,q,w⟩:∃ad xs,dN X.K f ad xs/\(∀l,f l=none->Q (.ref l) (upd f l (.tup xs.reverse)))/\vs=[.ref ad]:=by cases vs with|nil=>cases v|cons x r=>cases r with|nil=>obtain⟨ad,xs,rfl,q,O⟩:=v;exact⟨ad,xs,q,O,rfl⟩|cons _ _=>cases v
 subst w;obtain⟨u,rfl,U⟩:=r1.one;cases U;obtain⟨c,C,y,hz⟩:=m.list N;have hsz:c.toArray.size=xs.length:=by rw[size_toArray,<-C.length]
 refine call_reversed_list y.isList (Calls.spliced_nil ?_);have z:ad≠s1.heap.objs.size:=ne_of_lt (let⟨_,ho,_⟩:=y.isList;lt_size ho);have A:(s1.heap.push (revObj ad ((c.toArray.size:Int)-1))).IsList ad c.toArray:=y.isList.at λo e=>dR e;refine oG (m.ok.hd hc) (I:=s1.heap.objs.size) (l:=ad) (items:=c.toArray) ⟨_,get?_push_size _ rfl,rfl,rfl⟩ A z (by rw[hsz];exact le_trans hz (by decide)) λh' W G j=>?_;have k:(s1.heap.push (revObj ad ((c.toArray.size:Int)-1))).objs.size=s1.heap.objs.size+1:=size_push ..;dsimp only at G j ⊢;rw[k]at j;have Y:c.toArray.reverse=c.reverse.toArray:=by simp
 rw[Y];refine⟨.ref h'.objs.size,_,m.laid (t':=W) (o:=.tup xs.reverse) (h':=h'.push {cls:=.type "tuple",data:=.seq c.reverse.toArray}) (λb o e=>dR (G b o (ne_of_lt (lt_size e)) (dR e))) (by omega) ?_,rfl,q _ (m.hok.fresh (by omega))⟩;exact⟨by rw[List.length_reverse];exact hz,_,C.reverse,IsTup.new _ _⟩
end
end L2
namespace HH
open PySem L2 PySem.Spec PyProof.Rows
section
variable{X:Cx}{c:Call}{a:Expr}{pa:P}{pos:Pos}
theorem xX{x y:Str}{j p b:Pos}(q:y="tuple")(t:x="reversed")(hc:X.calm=true)(m:Gl X y)(n:X.mg y=none)(u:Gl X x)(w:X.mg x=none)(z:SX X c a pa)(hs:starEach [a] X.env=[(false,eval a X.env)]:=by rfl)(o:starEach [.Call (.Name x j) [a] [] pos] X.env=[(false,eval (.Call (.Name x j) [a] [] pos) X.env)]:=by rfl):SX X c (.Call (.Name y p) [.Call (.Name x j) [a] [] pos] [] b) (.blt .rvT [pa]):=by subst t q;obtain⟨Y,h1,A⟩:=z.cW;refine⟨eY (yq hc m n u w h1 hs o) ?_,λi h=>by cases h⟩;rintro σ H Q⟨F,ρ,r,B,g,e,k⟩;rw[HH.E16]at e;obtain⟨d,C,E,f⟩:=aj e;have G:=aB f;clear f;obtain⟨f,I⟩:=G;subst I;cases d with|lst ds=>cases f;refine A g E ?_;rintro v Z H' s J;obtain⟨ad,xs,rfl,L,M⟩:=J.lst s.gs.sub;exact⟨ad,xs,rfl,L,λl N=>za s.gs.sub (aF.rev M) N λv F2 O U W=>k v F2 O (s.trans (U.stp s.gs)) (.later s (W.qp s.gs))⟩|_=>cases f
end
end HH
end
section
namespace L2
open PySem PySem.Spec PyProof.Rows PySem.Calls
section
variable{X:Cx}
theorem HX:VN X (VB X.K):=by
 intro a s σ H x y v u Q I g k h;obtain⟨p,xs,i,z,rfl,rfl,l,he,q⟩:=h;cases g;obtain⟨t,rfl⟩:=k;obtain⟨b,r,e,hz⟩:=I.list l;obtain⟨j,h1,m,C,n,o⟩:=uH he;obtain⟨w,f,A⟩:=r.get m;have B:=r.length;have E:=qw;have fin:EP X a σ Q w s:=⟨z,H,I,A,q⟩;by_cases h0:0<=i
 . have c:i.toNat=j:=by rw[seqIndex_of h0 o]at h1;exact Option.some.inj h1
   exact wpAny_getItem_list e.isList h0 (by omega) (by rw[c];simpa using f) fin
 . have c:(i+(b.toArray.size:Int)).toNat=j:=by rw[seqIndex_neg (by omega) n]at h1;rw[size_toArray,<-B];exact Option.some.inj h1
   exact wpAny_getItem_list_neg e.isList (by omega) (by rw[size_toArray]<;>omega) (by omega) (by rw[c];simpa using f) fin
end
end L2
namespace HH
open PySem L2 PySem.Spec PyProof.Rows PySem.Calls PySem.W
section
variable{X:Cx}{c:Call}{n:Nat}{a b e:Expr}{pa pb p:P}{pos:Pos}
set_option maxHeartbeats 800000 in
theorem Ad{k e:Int}{t1 t2 p1 p2 p3}:SX X c (.Dict [some (.Constant (.int k) t1 p1)] [.Constant (.int e) t2 p2] p3) (.zN k e):=by
 refine⟨?_,λi h=>by cases h⟩;intro f s σ H Q I h;obtain⟨F,ρ,r,x,g,m,y⟩:=h;rw[HH.E26]at m;cases m;have A:m6 [] [((Sum.inl k:Key),V.int e)]=ent [k] [.int e]:=rfl;have B:=Ae (X:=X) (pos:=p3) (wU (qO (i:=k) (j:=t1) (pos:=p1)) (qO (i:=e) (j:=t2) (pos:=p2)) Bw) rfl rfl (by simp) (by simp);refine cB (B f s σ H (λv C=>∃q,v=.ref q/\H q=none/\C=upd H q (BV [k] [.int e])) I ?_) λu s1⟨v,H1,I1,r1,q,e1,hn,e2⟩=>?_;.intro q E;refine⟨aM,[(Sum.inl k,.int e)],rfl,by simp,q,rfl,E,?_⟩;rw[uL,A];rfl
 subst e1 e2;obtain⟨o,t⟩:=Inv.Hy I1 (a:=q) (kvs:=ent [k] [.int e]) aM;rw[uL]at t;have G:F q=none:=by cases z:F q with|none=>rfl|some o=>rw[g.sub q o z]at hn;cases hn
 have J:aG F (upd F q (.cM o (BV [k] [.int e]))):=aG.dD G;refine⟨.ref q,_,t,r1,y _ (upd F q (.cM o (BV [k] [.int e]))) _ (Ext.stp g ⟨aG.dD hn,J,λb o e=>?_,λb n w=>?_⟩) ?_⟩
 . by_cases l:b=q;.subst l;rw[aM]at e ⊢;exact e
   .rw[aD l]at e ⊢;exact g.sub b o e
 . by_cases l:b=q;.subst l;exact jY hn
   .rw[aD l]at w;exact absurd n w
 .show Rep X.K _ _ (.dv [k] [.int e]);rw[Rep];exact⟨q,o,[.int e],rfl,aM,.cons (bC _) .nil,rfl⟩
theorem JS{x:Str}{k:Nat}{px o:Pos}{op:Operator}{sub:Bool}(ho:MJ X op (Vj λi j=>if sub then i-j else i+j))(hN:X.N[k]?=some x)(hv:xQ X.env.scope x)(hi:SX X c b pb)(he:SX X c e p)(ha:∀ov iv f,augStore b ov iv f=(do holding [f,ov,iv] (setItem ov iv f);release [f,ov,iv] [];pure .next):=by intros;rfl)(hd:(x==("__debug__":Str))=false:=by decide)(C:(x==("__classdict__":Str))=false:=by decide):SS X c n (.AugAssign (.Subscript (.Name x px) b o) op e pos) (.Ji k pb sub p):=by
 obtain⟨ti,E,G⟩:=hi.cW;obtain⟨te,I,J⟩:=he.cW;refine dU (K9 (gH hN hv hd C) E HX I ho set_list ha) ?_;rintro D σ H⟨F,ρ,fl,ac,g,e,kk⟩;rw[HH.X17]at e;obtain⟨x0,ae,r,Y⟩:=aj e;clear e;obtain⟨e0,zO⟩:=aB r;clear r;subst zO;obtain⟨dk,L,e1,Z⟩:=aj Y;clear Y;obtain⟨l,af,h,eC⟩:=aj Z;clear Z;obtain⟨A,M⟩:=aB h;clear h;subst M;obtain⟨ra,ag,s,eD⟩:=aj eC;clear eC;obtain⟨e3,O⟩:=aB s;clear s;subst O;obtain⟨db,ah,e4,t⟩:=aj eD;clear eD;obtain⟨Q,Rk,m,_⟩:=uq g e0;refine⟨.ref Q,m,G g e1 λvi F1 H1 s1 pi=>?_⟩;split at t
 . rename_i u v bb ds kz q;split at t
   . rename_i j hj;cases t;obtain⟨B,f3,f5⟩:=bZ e3;have U:B=kz:=by cases f3;rfl
     subst U;have h:pk L k=some (.lst l):=by
      unfold zx at A;split at A;.rename_i z;cases A;exact z
      .cases A
     obtain⟨o',y,po⟩:=s1.gs.pk h;rw[m]at y;cases y;obtain⟨ad,xs,hr,hL,rs⟩:=po.lst s1.gs.sub;cases hr;obtain⟨j0,h1,h2⟩:=HJ f5;obtain⟨w,h3,h4⟩:=rs.get h2;have W:Hv xs B=some w:=by unfold Hv;rw[rs.length,h1];exact h3
     have hw:w=.int u:=by rw[Rep]at h4;exact h4
     subst hw;refine⟨Q,xs,B,.int u,rfl,pi.int,hL,W,J s1.gs e4 λvb F2 H2 s2 pb=>⟨u,v,rfl,pb.int,?_⟩⟩;obtain⟨ai,zs,z1,z2,z3,z4⟩:=s2.gs.lB k _ ds q rfl;rw[m]at z1;cases z1;refine⟨Q,zs,B,j,rfl,pi.int,z2,by rw[z4.length];exact hj,?_⟩;exact kk F2 σ _ ((s1.trans s2).trans (s2.gs.mut q m (z4.set (bC _) j)))
   .cases t
 .cases t
end
section
variable{X:Cx}{c:Call}{n:Nat}{a b e:Expr}{pa pb p:P}{pos:Pos}
theorem Ly{neg:Bool}{o:Op}{op:CmpOp}(h:(op=.In/\neg=false)\/(op=.NotIn/\neg=true))(j:rJ o=v9 neg)(l:X.A.units+8<cLine)(m:SX X c a pa)(y:SX X c b pb)(B:behindInMarks op b=false):ST X c (.Compare a [op] [b] pos) (.bin o pa pb):=by obtain⟨C,E,h1,G,I⟩:=m.iu y;refine wW (Ab (J9 h l) h1 G B) λσ H Q q=>nu (t:=RJ (rD X.K (v9 neg)) C E) (λQ z=>?_) q;obtain⟨F,ρ,r,J,g,e,k⟩:=z;rw[HH.E3]at e;obtain⟨i,L,M,f⟩:=aj e;have N:=aB f;clear f;obtain⟨f,O⟩:=N;subst O;rw[j]at f;refine I g M λv u U H' s W Y=>⟨U,i.1,i.2,r,s.gs.sub,W,Y,f,λw F2 Z x rn=>?_⟩;exact k w F2 Z (s.trans (x.stp s.gs)) (.later s (rn.qp s.gs))
theorem Rn(f:X.A.units+8<cLine)(g:SX X c a pa)(h:SX X c b pb)(i:behindInMarks .In b=false):ST X c (.Compare a [.In] [b] pos) (.bin .din pa pb):=Ly (.inl ⟨rfl,rfl⟩) rfl f g h i
theorem Qw{i:Nat}{x:Str}{h:Pos}{pk:P}{neg:Bool}{op:CmpOp}(f:(op=.In/\neg=false)\/(op=.NotIn/\neg=true))(j:X.A.units+8<cLine)(k:X.N[i]?=some x)(l:xQ X.env.scope x)(m:SX X c a pk)(o:behindInMarks op (.Name x h)=false)(hd:(x==("__debug__":Str))=false:=by decide)(g:(x==("__classdict__":Str))=false:=by decide):ST X c (.Compare a [op] [.Name x h] pos) (.Ou i pk neg):=wW (Pk (Rb f j k l m hd g) o) λσ H Q q=>nu (λ_ z=>z) q
end
end HH
end
section
namespace HH
open PySem L2 PySem.Spec PyProof.Rows
section
variable{X:Cx}{c:Call}{n:Nat}{pos:Pos}
def abb(k e:Int):TE:=λ_ H Q=>∀p,H p=none->Q (.ref p) (upd H p (.dK [(Sum.inl k,.int e)]))
theorem Rt{k e:Int}{t1 t2 p1 p2 p3}:PE X (.Dict [some (.Constant (.int k) t1 p1)] [.Constant (.int e) t2 p2] p3) (abb k e):=by refine eY (Ae (X:=X) (pos:=p3) (wU (qO (i:=k) (j:=t1) (pos:=p1)) (qO (i:=e) (j:=t2) (pos:=p2)) Bw) rfl rfl (by simp) (by simp)) ?_;intro σ H Q h q a;refine⟨aM,[(Sum.inl k,.int e)],rfl,by simp,?_⟩;rw[uL];exact h q a
set_option maxHeartbeats 1000000 in
theorem Mh{i:Nat}{x:Str}{k e:Int}{t1 t2 p1 p2 p3}{b:Pos}(m:X.N.Nodup)(hi:X.N[i]?=some x)(o:Loc X.env.scope x)(hs:swapsWith (.Dict [some (.Constant (.int k) t1 p1)] [.Constant (.int e) t2 p2] p3) (some (.Name x b)) pos.line X.env=pure false:=by rfl)(p:X.fn x=true\/X.env.scope.names.lookup x=some .local:=by first|exact .inl rfl|exact .inr rfl|assumption):SS X c n (.Assign [.Name x b] (.Dict [some (.Constant (.int k) t1 p1)] [.Constant (.int e) t2 p2] p3) pos) (.Jl i k e):=by
 have h0:=yJ m hi o (Rt (X:=X) (k:=k) (e:=e) (t1:=t1) (t2:=t2) (p1:=p1) (p2:=p2) (p3:=p3)) hs p;show PS X _ _;refine dU h0 ?_;rintro D σ H⟨F,ρ,fl,h,g,f,r⟩;rw[HH.X24]at f;have go:∀s0,ρ[i]?=some s0->sO s0=false->fl=.next->h=ρ.set i (.cN [(k,.int e)])->∀a,H a=none->D.nx (σ.set i (some (.ref a))) (upd H a (.dK [(Sum.inl k,.int e)])):=λs0 q s j l a t=>by subst j l;exact r F _ _ (g.newV (kvs:=[(k,.int e)]) q s (KR.oc (.cons (bC _) .nil)) t)
 split at f;.rename_i q;cases f;exact go _ q rfl rfl rfl
 .rename_i q;cases f;exact go _ q rfl rfl rfl
 .rename_i q;cases f;exact go _ q rfl rfl rfl
 .cases f
end
end HH
end
section
namespace L2
open PySem PySem.Spec PyProof.Rows
section
variable{X:Cx}
def Ma:V->List V->Hp->VK->Prop:=λx vs H Q=>∃l xs j y,x=.ref l/\vs=[.int j,y]/\H l=some (.lst xs)/\0<=j/\j<=1000000/\xs.length<sizeLine/\Q .non (upd H l (.lst (xs.take j.toNat++y::xs.drop j.toNat)))
theorem Vals.rW:∀{xs:List V}{a:List Value}(k:Nat),Vals xs a->Vals (xs.take k) (a.take k)/\Vals (xs.drop k) (a.drop k)|_,_,0,r=>⟨by simp;exact .nil,by simpa using r⟩|[],_,k+1,r=>by cases r;exact⟨.nil,.nil⟩|x::xs,_,k+1,r=>by cases r with|cons h t=>have:=Vals.rW k t;exact⟨.cons h this.1,this.2⟩
theorem DN:MtM X "list.insert" Ma:=by
 intro g s σ H x vs v u Q I m o h;obtain⟨l,xs,j,y,rfl,rfl,i,p,w,hz,q⟩:=h;cases m;obtain⟨A,k,rfl,b,f⟩:=o.two;obtain⟨t,rfl⟩:=b;obtain⟨z,a,n,r,B,e⟩:=I.XM i;refine call_meets F.slot_list_insert ⟨_,e,rfl⟩ F.entry_list_insert (F.args_list_insert_3 _ _ _) (AutoListH.list_insert_list_int_val_1 l a.toArray n j t k (by rw[fitsIndex_of p (by omega)];decide) (by rw[size_toArray];omega)) ⟨e,?_⟩;refine⟨.non,_,I.VF (its':=a.take j.toNat++k::a.drop j.toNat) i e ?_ ((r.rW _).1.append (.cons f (r.rW _).2)) ?_,rfl,q⟩
 . rw[if_neg (by omega)];apply Array.toList_inj.mp;simp;by_cases c:j.toNat<=a.length;.rw[Nat.min_eq_left c,List.take_of_length_le (l:=a.drop j.toNat) (by simp)]
   .rw[Nat.min_eq_right (by omega)];simp;rw[List.take_of_length_le (by omega),List.drop_eq_nil_of_le (by omega)]
 .simp;omega
end
end L2
end
section
namespace HH
open PySem L2 PySem.Spec PyProof.Rows PySem.Calls PySem.W
section
variable{X:Cx}{c:Call}{n:Nat}{a b e:Expr}{pa pb p:P}{pos:Pos}
theorem aF.rW{K:PySem.W.Frag}{F:Hp}:∀{ds:List D}{vs:List V}(k:Nat),aF K F vs ds->aF K F (vs.take k) (ds.take k)/\aF K F (vs.drop k) (ds.drop k)|ds,vs,0,h=>⟨by simp;exact .nil,by simpa using h⟩|[],_,k+1,h=>by rw[h.eZ];exact⟨.nil,.nil⟩|_::_,_,k+1,h=>by obtain⟨w,r,rfl,h1,t⟩:=h.cC;have:=aF.rW k t;exact⟨.cons h1 this.1,this.2⟩
theorem Su{x:Str}{k:Nat}{o h f:Pos}(J:X.N[k]?=some x)(L:xQ X.env.scope x)(hi:SX X c b pb)(he:SX X c e p)(i:(h.endLine==f.line)=true:=by rfl)(hs:starEach [b,e] X.env=(false,eval b X.env)::starEach [e] X.env:=by rfl)(u:starEach [e] X.env=(false,eval e X.env)::starEach [] X.env:=by rfl)(l:attributeBase (.Name x o) "insert" X.env (eval (.Name x o) X.env)=eval (.Name x o) X.env:=by rfl)(s:((backTo f (starEach [b,e] X.env)).all (λx=>!x.1)&&(backToKw f (keywordEach [] X.env)).all (λx=>x.1.isSome)&&decide ([b,e].length+([]:List Keyword).length+(if([]:List Keyword).isEmpty then 0 else 1)<30))=true:=by rfl)(hpl:(backTo f (starEach [e] X.env)).any (·.1)=false:=by rfl)(w:swapsWith (.Call (.Attribute (.Name x o) "insert" h) [b,e] [] f) none pos.line X.env=pure false:=by rfl)(hd:(x==("__debug__":Str))=false:=by decide)(y:(x==("__classdict__":Str))=false:=by decide):SS X c n (.Expr (.Call (.Attribute (.Name x o) "insert" h) [b,e] [] f) pos) (.ins k pb p):=by
 obtain⟨ti,z,A⟩:=hi.cW;refine dU (uK (Es plainAttrs_list PySem.F.slot_list_insert PySem.F.type_list_insert DN (gH J L hd y) (bW z (bW he.ev eU u) hs) l s i hs hpl) w) ?_;rintro D σ H⟨F,ρ,fl,M,g,e,O⟩;rw[HH.X18]at e;obtain⟨d0,Q,t,e⟩:=aj e;have E:=aB t;clear t;obtain⟨t,U⟩:=E;subst U;obtain⟨dk,B,W,e⟩:=aj e;obtain⟨r,C,Y,e⟩:=aj e;obtain⟨a,xs,h1,Z⟩:=uq g t;refine⟨.ref a,h1,.inl ⟨rfl,xs,Z⟩,A g W λvi F1 H1 s1 pi=>⟨F1,B,r,C,s1.gs,Y,λv F2 H2 s2 rr=>?_⟩⟩;obtain⟨F3,s3,_,rp⟩:=s2.cM rr;split at e
 . rename_i bb ds j q E;split at e;.rename_i m;cases e;obtain⟨ad,ys,G,q2,q3,I⟩:=s3.gs.lB k _ ds q rfl;rw[h1]at G;cases G;have ht:=I.rW j.toNat;exact⟨_,ys,j,v,rfl,by rw[pi.int],q2,m.1,m.2.1,by rw[I.length];exact m.2.2,O F3 σ _ ((s1.trans s3).trans (s3.gs.mut q h1 (ht.1.append (.cons rp ht.2))))⟩
   .cases e
 .cases e
set_option maxHeartbeats 800000 in
end
end HH
end
section
namespace L2
open PySem PySem.Spec PyProof.Rows
end L2
namespace HH
open PySem L2 PySem.Spec PyProof.Rows
section
variable{X:Cx}{c:Call}{n:Nat}{e a b:Expr}{p pa pb:P}{pos:Pos}
def Mx(X:Cx)(id:String)(r:List V->Hp->VK->Prop):Prop:=∀(f:List (Addr×Obj))(s:Shared)(σ:L2.St)(H:Hp)(xs:List V)(g:List Value)(h:Nat)(Q:VK),L2.Inv X f σ H s->Vals xs g->r xs H Q->wpAny (model X.prog X.w) X.A (call (.builtin id) g [("default",.int 0 h)]) (EP X f σ Q) X.xe s
theorem Gg{x:Str}{id:String}{r:List V->Hp->VK->Prop}{t:TA}{j kp g:Pos}{ck}(hc:Mx X id r)(k:Gl X x)(l:X.mg x=none)(m:bootBuiltins x=some (.builtin id))(o:PA X [e] t)(q:x≠"__name__":=by decide)(i:(x==("__debug__":Str))=false:=by decide)(he:backTo pos (starEach [e] X.env)=(false,eval e X.env)::backTo pos (starEach [] X.env):=by rfl)(hpl:(backTo pos (starEach [e] X.env)).any (·.1)=false:=by rfl)(hall:(backToKw pos (keywordEach [⟨some "default",.Constant (.int 0) ck g,kp⟩] X.env)).all (·.1.isSome)=true:=by rfl)(hkw:(backToKw pos (keywordEach [⟨some "default",.Constant (.int 0) ck g,kp⟩] X.env)).any (·.1.isNone)=false:=by rfl):PE X (.Call (.Name x j) [e] [⟨some "default",.Constant (.int 0) ck g,kp⟩] pos) (We r t):=by intro f s σ H Q I h;refine wpAny_Call_Name_kw (gW I k l m (callWith_kw (cB (o pos f s σ H _ I h) ?_) he hpl hall hkw) q i);rintro u s1⟨vs,v,w,r1,y⟩;exact kws_cons (wpAny_Constant_int (kws_nil (hc f _ σ v vs u _ Q (w.tok _) r1 y)))
theorem Tn(hc:X.calm=true):Mx X "max" (Ht X.K λx=>blt .Jh [x]):=by
 rintro o s σ H xs q A Q I r⟨x,B,F,d,C,h,E,he,k⟩;obtain⟨ns,G,he⟩:=map_some (show((items d).bind λds=>ds.mapM gn).map _=some C from he);subst he;obtain⟨ds,J,L⟩:=bZ G;obtain⟨p,ys,rfl,M,w⟩:=E.items h J;rw[jA L]at w;have N:=gD w;subst B;obtain⟨u,rfl,O⟩:=r.one;cases O;refine Ds (walked I hc M λU q y Y j W h0 Z kp=>?_);subst N;have f:q.toArray.size=ns.length:=by rw[size_toArray,<-j.length,length_map]
 refine⟨U,_,_,_,_,Y,_,rfl,W,h0,Z,CmpOf.ints_gt (λi=>ns.getD i 0) (λi v e=>iW j e),λg v h' l z m=>?_,λg h' l m=>?_⟩
 . rw[f]at z g;obtain⟨t,rfl⟩:=iW j z;obtain⟨i,hi⟩:∃i,ns.max?=some i:=by cases e:ns.max? with|none=>rw[List.max?_eq_none_iff]at e;rw[e]at g;cases g|some i=>exact⟨i,rfl⟩
   rw[hi]at k;rw[wK hi];exact⟨.int _,H,kp h' l m,⟨t,rfl⟩,cF.cX h (bC _) k⟩
 .rw[f]at g;have e:ns=[]:=List.eq_nil_of_length_eq_zero g;subst e;exact⟨.int 0,H,kp h' l m,⟨_,rfl⟩,cF.cX h (bC _) k⟩
theorem Ka{x:Str}{g kp f:Pos}{ck}(i:x="max")(hc:X.calm=true)(j:Gl X x)(k:X.mg x=none)(l:SX X c a pa)(hs:starEach [a] X.env=(false,eval a X.env)::starEach [] X.env:=by rfl)(he:backTo pos (starEach [a] X.env)=(false,eval a X.env)::backTo pos (starEach [] X.env):=by rfl)(hpl:(backTo pos (starEach [a] X.env)).any (·.1)=false:=by rfl)(hall:(backToKw pos (keywordEach [⟨some "default",.Constant (.int 0) ck f,kp⟩] X.env)).all (·.1.isSome)=true:=by rfl)(hkw:(backToKw pos (keywordEach [⟨some "default",.Constant (.int 0) ck f,kp⟩] X.env)).any (·.1.isNone)=false:=by rfl):SX X c (.Call (.Name x g) [a] [⟨some "default",.Constant (.int 0) ck f,kp⟩] pos) (.blt .Jh [pa]):=by subst i;exact km (λh=>Gg (Tn hc) j k boot_max h (he:=he) (hpl:=hpl) (hall:=hall) (hkw:=hkw)) l (λρ=>rfl) rfl hs
end
end HH
end
noncomputable section
set_option maxHeartbeats 4000000
namespace T
open PySem L2 PySem.Spec PyProof.Rows HH
local macro_rules|`(term|⇑$n)=>`(P.con (.int $n))
local macro_rules|`(term|↑$n)=>`(P.var $n)
local macro_rules|`(tactic|ac_rfl)=>`(tactic|first|exact Or.inl rfl|exact Or.inr (Or.inl rfl))
set_option hygiene false
local macro_rules|`(term|↥($a,$b,$d))=>`(m9 Pg w K mg base Fw (k+1) f fd $a (JK K $b (λargs=>enter c n $d args)))
local macro_rules|`(term|↥($a,$b,$d,0))=>`(aW Pg w K mg base k c $a $b $d)
set_option hygiene true
local macro_rules|`(term|⇑($x))=>`(λ_ _ _ _ _=>$x)
local macro_rules|`(term|nofun)=>`(⟨rfl,rfl,rfl,by decide+kernel,rfl,by decide+kernel,by decide+kernel⟩)
local macro_rules|`(tactic|exists$e)=>`(tactic|with_reducible refine$e)
local macro_rules|`(tactic|lia)=>`(tactic|with_reducible refine aO ?_ ?_)
set_option hygiene false
local macro_rules|`(tactic|exists$i,$e)=>`(tactic|((with_reducible refine jw (i:=$i) ?_ ?_ ?_ ?_ ?_ ?_);exact nd;exact rfl;exact oi;rotate_left;rfl;exact oi;exact$e))
local macro_rules|`(tactic|exists$i,$e,0)=>`(tactic|((with_reducible refine uA (i:=$i) ?_ ?_ ?_ ?_ ?_ ?_ ?_ ?_ ?_);exact PassesOwn.never;exact hc;exact nd;exact rfl;exact oi;exact$e;rotate_left;(· intro _;rfl);exact oi))
local macro_rules|`(tactic|exists$a,$b,0,0)=>`(tactic|(refine XQ $a $b rfl rfl λcdv A outer s H E hr=>?_;have nd:=($b).nd))
local macro_rules|`(tactic|exists(),$e)=>`(tactic|((with_reducible refine Ra ?_);exact$e))
set_option hygiene true
local macro_rules|`(term|‹$l›)=>`((show(($l):List Str).Nodup by decide+kernel))
theorem hc:true=true:=rfl
theorem oi{b:Type}{a:b}{p:Prop}:a=a\/p:=.inl rfl
theorem aV{X:Cx}{c:Call}{a:Expr}{es:List Expr}{b:P}{ps:List P}(e:SX X c a b)(hr:SG X c es ps)(h:nst a=true):SG X c (a::es) (b::ps):=Ln e hr (jd h)
theorem cH{X:Cx}{c:Call}{a:Expr}{es:List Expr}{b:P}{ps:List P}(e:SX X c a b)(hr:SA X c es ps)(h:nst a=true):SA X c (a::es) (b::ps):=oY e hr (jd h)
variable{Pg:Program}{w:World}{K:PySem.W.Frag}{mg:Str->Option Value}{base:Heap}{f:Addr}{fd:FuncData}{k n:Nat}{c:Call}{cl:Nat->Addr}
noncomputable def top(i:Nat):Stmt:=PySem.Challenge.pw_hourhaul_k32_clocks_judged.main.body.getD i (.Pass ⟨0,0,0,0⟩)
abbrev s0:Stmt:=top 4
noncomputable def b0:List S:=[.asg 2 (.idx (.idx ↑0 ⇑1) (.idx ↑1 ⇑0)),.ret (.Oq (.idx ↑1 ⇑1) (.tup [.idx ↑2 ⇑0,.idx ↑2 ⇑1]) (.tup [.idx ↑2 ⇑1,.idx ↑2 ⇑0]))]
def f0:Fd:=⟨2,3,b0⟩
theorem sc0:aL ["net","step","way"] ["net","step"] (az s0):=nofun
include cl in
theorem d0(a:iD K "step_places" "step_places" s0 f fd):↥(["net","step"],2,f0):=by
 exists a,sc0,0,0;refine aO ?_ ?_;.exists 2,ao (ao (sv 0) aa) (ao (sv 1) aa)
 lia;.exists(),uT (dZ (ao (sv 1) aa)) (cO (cH (ao (sv 2) aa) (cH (ao (sv 2) aa) aH rfl) rfl)) (cO (cH (ao (sv 2) aa) (cH (ao (sv 2) aa) aH rfl) rfl))
 exact aq
abbrev s1:Stmt:=top 5
noncomputable def b1:List S:=[.asg 2 (.idx (.idx (.idx ↑0 ⇑1) (.idx ↑1 ⇑0)) ⇑3),.ret (.Oq (.idx ↑1 ⇑1) ↑2 (.neg ↑2))]
def f1:Fd:=⟨2,3,b1⟩
theorem sc1:aL ["net","step","hours"] ["net","step"] (az s1):=nofun
include cl in
theorem d1(a:iD K "step_hours" "step_hours" s1 f fd):↥(["net","step"],2,f1):=by
 exists a,sc1,0,0;refine aO ?_ ?_;.exists 2,ao (ao (ao (sv 0) aa) (ao (sv 1) aa)) aa
 lia;.exists(),uT (dZ (ao (sv 1) aa)) (sv 2) (iT (sv 2))
 exact aq
abbrev s2:Stmt:=top 6
noncomputable def b2:List S:=[.asg 3 (.idx ↑1 (.idx ↑2 ⇑0)),.ret (.Oq (.idx ↑2 ⇑1) (.bin .sub (.idx (.idx (.idx ↑0 ⇑1) (.idx ↑2 ⇑0)) ⇑2) ↑3) ↑3)]
def f2:Fd:=⟨3,4,b2⟩
theorem sc2:aL ["net","stream","step","loads"] ["net","stream","step"] (az s2):=nofun
include cl in
theorem d2(a:iD K "step_room" "step_room" s2 f fd):↥(["net","stream","step"],3,f2):=by
 exists a,sc2,0,0;refine aO ?_ ?_;.exists 3,ao (sv 1) (ao (sv 2) aa)
 lia;.exists(),uT (dZ (ao (sv 2) aa)) (au cR (ao (ao (ao (sv 0) aa) (ao (sv 2) aa)) aa) (sv 3)) (sv 3)
 exact aq
abbrev s3:Stmt:=top 7
noncomputable def b3:List S:=[.Jj 2 (.rO ⇑0 (.idx ↑0 ⇑0)) 1 [5] true (.lst []),.Eg (.rO ⇑0 (.blt .len [.idx ↑0 ⇑1])) [3] true [.Eg (.tup [.tup [↑3,.con (.bl true)],.tup [↑3,.con (.bl false)]]) [4] true [.ifs (.cmp .gt (.call 2 [↑0,↑1,↑4]) ⇑0) [.Jk 2 (.idx (.call 0 [↑0,↑4]) ⇑0) ↑4] []]],.cM 2,.ret ↑2]
def f3:Fd:=⟨2,5,b3⟩
theorem sc3:aL ["net","stream","steps","number","step"] ["net","stream"] (az s3):=nofun
include cl in
theorem d3(a:iD K "open_steps" "open_steps" s3 f fd)(bu:mg "len"=none)(aX:mg "range"=none)(b:↥(0,"step_places",2,0))(e:↥(2,"step_room",3,0)):↥(["net","stream"],2,f3):=by exists a,sc3,0,0;exact(by(refine JP (i:=2) (N':=["net","stream","steps","number","step","place"]) (g:=jx 5) ?_ ?_ ?_ ?_ ?_ ?_ ?_ ?_ ?_ ?_ ?_ ?_ ?_ ?_);exact hc;exact nd;exact rfl;exact oi;exact rE rfl (by rfl);exact iV rfl (by rfl) aX (ao (sv 0) aa);exact ⇑(aJ (i:=5) ‹["net","stream","steps","number","step","place"]› rfl (Or.inl rfl) (Or.inr rfl));exact bG (dm);exact ⇑(cG);exact ⇑((bA aH));(· exists Gw ?_ ?_;(· exists zY (g:=jx 3) ?_ ?_ ?_ ?_ ?_ ?_ ?_;exact PassesOwn.never;exact hc;(· exists Gv ?_ ?_ ?_ ?_ ?_;exact rfl;rfl;exact aX;exact dg rfl (by rfl) bu (ao (sv 0) aa);rfl);exact aJ (i:=3) nd rfl oi oi;(· rw[ni];exact uM 3);(· exists pW ?_ ?_;(· exists zY (g:=jx 4) ?_ ?_ ?_ ?_ ?_ ?_ ?_;exact PassesOwn.never;exact hc;exact J5 (cO (cH (cO (cH (sv 3) (cH fY aH rfl) rfl)) (cH (cO (cH (sv 3) (cH fY aH rfl) rfl)) aH rfl) rfl));exact aJ (i:=4) nd rfl oi oi;(· rw[ni];exact uM 4);(· exists pW ?_ ?_;(· exists QX ?_ ?_ ?_;exact bR jF (dz e hr (aV (sv 0) (aV (sv 1) (aV (sv 4) aA rfl) rfl) rfl)) aa (aZ _);(· exists pW ?_ ?_;(· exists G5 (k:=2) ?_ ?_ ?_ ?_ ?_ ?_ ?_ ?_ ?_ ?_ ?_ ?_;exact rfl;(· first|exact Or.inl rfl|exact Or.inr (Or.inl rfl));exact ao (dz b hr (aV (sv 0) (aV (sv 4) aA rfl) rfl)) aa;exact sv 4;(· intro _ _;rfl);rfl;rfl;rfl;rfl;rfl;rfl;rfl);exact pB);exact pB);exact pB);(· intro _;rfl));exact pB);(· intro _;rfl));(· exists Kg ?_;(· lia;(· exists(),sv 2);exact aq)));rfl;(· intro _;rfl);exact oi)
abbrev s4:Stmt:=top 8
noncomputable def b4:List S:=[.asg 3 (.call 3 [↑0,↑1]),.Eh 4,.iI (.blt .keys [↑2]) [5] true [.gf 4 ↑5 (.tup [.bin .zM ↑2 ↑5,⇑0,.con .non])],.asg 6 (.blt .Vs [↑2]),.whl (.cmp .gt (.blt .len [↑6]) ⇑0) [.Eh 7,.iI ↑6 [5] true [.iI (.idx ↑3 ↑5) [8] true [.asg 9 (.idx (.call 0 [↑0,↑8]) ⇑1),.asg 10 (.tup [.bin .add (.idx (.Ot 4 ↑5) ⇑0) (.call 1 [↑0,↑8]),.bin .add (.idx (.Ot 4 ↑5) ⇑1) ⇑1]),.ifs (.or (.Ou 4 ↑9 true) (.cmp .lt ↑10 (.slice (.Ot 4 ↑9) (.con .non) ⇑2))) [.gf 4 ↑9 (.bin .add ↑10 (.tup [↑8])),.gf 7 ↑9 (.con (.bl true))] []]],.asg 6 (.blt .Vs [.vw 7])],.ret ↑4]
def f4:Fd:=⟨3,11,b4⟩
theorem sc4:aL ["net","stream","begun","steps","come","place","row","changed","step","to","found"] ["net","stream","begun"] (az s4):=nofun
include cl in
theorem d4(a:iD K "shortest_come" "shortest_come" s4 f fd)(bu:mg "len"=none)(gK:mg "list"=none)(b:↥(3,"open_steps",2,0))(e:↥(1,"step_hours",2,0))(g:↥(0,"step_places",2,0)):↥(["net","stream","begun"],3,f4):=by
 exists a,sc4,0,0;refine aO ?_ ?_;.exists 3,dz b hr (aV (sv 0) (aV (sv 1) aA rfl) rfl)
 lia;.exact(Ag (i:=4) nd rfl oi (by rfl) (Or.inl rfl))
 lia;.exists 5,JX (sv 2),0;(· lia;exact oW (i:=4) (bj hr) rfl (by ac_rfl) (sv 5) (cO (cH (o4 (bj hr) (sv 2) (sv 5) (λ_ _=>rfl)) (cH aa (cH qF aH rfl) rfl) rfl)) (by rfl);exact aq)
 lia;.exists 6,Hj rfl hc (by rfl) gK (sv 2)
 lia;.exact(zA PassesOwn.never (bR jF (dg rfl (by rfl) bu (sv 6)) aa (aZ _)) (by lia;exact Ag (i:=7) nd rfl oi (by rfl) (Or.inl rfl);(· lia;(· exists 5,cP (sv 6),0;(· lia;(· exists 8,cP (ao (sv 3) (sv 5)),0;(· lia;(· exists 9,ao (dz g hr (aV (sv 0) (aV (sv 8) aA rfl) rfl)) aa);(· lia;(· exists 10,cO (cH (au aP (ao (yE (i:=4) (bj hr) rfl (by ac_rfl) (sv 5) (λ_ _=>rfl)) aa) (dz e hr (aV (sv 0) (aV (sv 8) aA rfl) rfl))) (cH (au aP (ao (yE (i:=4) (bj hr) rfl (by ac_rfl) (sv 5) (λ_ _=>rfl)) aa) aa) aH rfl) rfl));(· lia;(· exists fL ?_ ?_ ?_;exact SW.st (j9 (Qw (i:=4) (Or.inr ⟨rfl,rfl⟩) (bj hr) rfl (by ac_rfl) (sv 9) (by with_unfolding_all rfl)) (iR (bR (nJ (bj hr)) (sv 10) (dh (yE (i:=4) (bj hr) rfl (by ac_rfl) (sv 9) (λ_ _=>rfl)) fG (dG aa)) (aZ _))));(· lia;exact oW (i:=4) (bj hr) rfl (by ac_rfl) (sv 9) (au aP (sv 10) (cO (cH (sv 8) aH rfl))) (by rfl);(· lia;exact oW (i:=7) (bj hr) rfl (by ac_rfl) (sv 9) fY (by rfl);exact aq));exact aq);exact aq))));exact aq));(· lia;(· exists 6,Hj rfl hc (by rfl) gK (Ny (i:=7) rfl (by ac_rfl)));exact aq))))
 lia;.exists(),sv 4
 exact aq
abbrev s5:Stmt:=top 9
noncomputable def b5:List S:=[.asg 3 (.lst []),.asg 4 ↑2,.whl (.cmp .Jg (.idx (.bin .zM ↑1 ↑4) ⇑2) (.con .non)) [.asg 5 (.idx (.bin .zM ↑1 ↑4) ⇑2),.app 3 ↑5,.asg 4 (.idx (.call 0 [↑0,↑5]) ⇑0)],.ret (.blt .rvT [↑3])]
def f5:Fd:=⟨3,6,b5⟩
theorem sc5:aL ["net","come","place","steps","here","step"] ["net","come","place"] (az s5):=nofun
include cl in
theorem d5(a:iD K "steps_to" "steps_to" s5 f fd)(lH:mg "reversed"=none)(dI:mg "tuple"=none)(b:↥(0,"step_places",2,0)):↥(["net","come","place"],3,f5):=by
 exists a,sc5,0,0;refine aO ?_ ?_;.exists 3,bA aH
 lia;.exists 4,sv 2
 lia;.exact(zA PassesOwn.never (bR BR (ao (o4 (bj hr) (sv 1) (sv 4) (λ_ _=>rfl)) aa) qF (aZ _)) (by lia;(· exists 5,ao (o4 (bj hr) (sv 1) (sv 4) (λ_ _=>rfl)) aa);(· lia;exact dO (k:=3) rfl (by ac_rfl) (sv 5);(· lia;(· exists 4,ao (dz b hr (aV (sv 0) (aV (sv 5) aA rfl) rfl)) aa);exact aq))))
 lia;.exists(),xX rfl rfl hc (by rfl) dI (by rfl) lH (sv 3)
 exact aq
abbrev s6:Stmt:=top 10
noncomputable def b6:List S:=[.asg 3 (.blt .list [↑0]),.iI ↑1 [4,5] false [.Ji 3 ↑4 false (.Oq ↑5 ↑2 (.neg ↑2))],.ret ↑3]
def f6:Fd:=⟨3,6,b6⟩
theorem sc6:aL ["stream","steps","loads","changed","number","forth"] ["stream","steps","loads"] (az s6):=nofun
include cl in
theorem d6(a:iD K "stream_with" "stream_with" s6 f fd)(gK:mg "list"=none):↥(["stream","steps","loads"],3,f6):=by
 exists a,sc6,0,0;refine aO ?_ ?_;.exists 3,vh rfl (by rfl) gK (sv 0)
 lia;.exact(nC PassesOwn.never hc (cP (sv 1)) (gA hc (bh (aJ (i:=4) nd rfl oi oi) (bh (aJ (i:=5) nd rfl oi oi) eG))) (lG rfl (cY _ _ (cY _ _ iY 5) 4)) (by lia;exact JS (k:=3) (sub:=false) Kh rfl (by ac_rfl) (sv 4) (uT (dZ (sv 5)) (sv 2) (iT (sv 2)));exact aq))
 lia;.exists(),sv 3
 exact aq
abbrev s7:Stmt:=top 11
noncomputable def b7:List S:=[.asg 1 (.bin .sub (.idx ↑0 ⇑0) ⇑1),.asg 2 (.bin .mul (.lst [⇑0]) (.blt .len [.idx ↑0 ⇑1])),.asg 3 (.lst []),.asg 4 (.call 4 [↑0,↑2,.zN 0 0]),.whl (.bin .din ↑1 ↑4) [.asg 5 (.call 5 [↑0,↑4,↑1]),.asg 6 (.blt .xH [.comp ↑5 1 [7] true none (.call 2 [↑0,↑2,↑7])]),.app 3 (.tup [↑5,↑6]),.asg 2 (.call 6 [↑2,↑5,↑6]),.asg 4 (.call 4 [↑0,↑2,.zN 0 0])],.ret ↑3]
def f7:Fd:=⟨1,7,b7⟩
theorem sc7:aL ["net","end","stream","chains","come","steps","loads"] ["net"] (az s7):=nofun
include cl in
theorem d7(b:iD K "chains_to_end" "chains_to_end" s7 f fd)(bu:mg "len"=none)(fc:mg "min"=none)(a:↥(4,"shortest_come",3,0))(e:↥(2,"step_room",3,0))(g:↥(5,"steps_to",3,0))(h:↥(6,"stream_with",3,0)):↥(["net"],1,f7):=by
 exists b,sc7,0,0;refine aO ?_ ?_;.exists 1,au cR (ao (sv 0) aa) aa
 lia;.exists jw (i:=2) ?_ ?_ ?_ ?_ ?_ ?_;exact nd;exact rfl;exact Or.inr rfl;rotate_left;rfl;exact oi;exact au cV (bA (cH aa aH rfl)) (dg rfl (by rfl) bu (ao (sv 0) aa))
 lia;.exists 3,bA aH
 lia;.exists 4,dz a hr (aV (sv 0) (aV (sv 2) (aV Ad aA rfl) rfl) rfl)
 lia;.exact(zA PassesOwn.never (Rn (bj hr) (sv 1) (sv 4) (by with_unfolding_all rfl)) (by lia;(· exists 5,dz g hr (aV (sv 0) (aV (sv 4) (aV (sv 1) aA rfl) rfl) rfl));(· lia;(· exists 6,uY rfl hc (by rfl) fc (cJ (N':=["net","end","stream","chains","come","steps","loads","step"]) hc (rE rfl (by rfl)) (cP (sv 5)) ⇑(aJ (i:=7) ‹["net","end","stream","chains","come","steps","loads","step"]› rfl (Or.inl rfl) (Or.inr rfl)) (bG (dm)) ⇑(cG) ⇑((dz e hr (aV (sv 0) (aV (sv 2) (aV (sv 7) aA rfl) rfl) rfl)))));(· lia;exact dO (k:=3) rfl (by ac_rfl) (cO (cH (sv 5) (cH (sv 6) aH rfl) rfl));(· lia;(· exists jw (i:=2) ?_ ?_ ?_ ?_ ?_ ?_;exact nd;exact rfl;exact Or.inr rfl;rotate_left;rfl;exact oi;exact dz h hr (aV (sv 2) (aV (sv 5) (aV (sv 6) aA rfl) rfl) rfl));(· lia;(· exists 4,dz a hr (aV (sv 0) (aV (sv 2) (aV Ad aA rfl) rfl) rfl));exact aq))))))
 lia;.exists(),sv 3
 exact aq
abbrev s8:Stmt:=top 12
noncomputable def b8:List S:=[.asg 2 (.lst []),.asg 3 ↑1,.iI ↑0 [4,5] false [.asg 6 (.blt .min2 [↑3,↑5]),.app 2 (.tup [↑4,↑6]),.aug 3 true ↑6],.ifs (.cmp .gt ↑3 ⇑0) [.bad] [],.ret ↑2]
def f8:Fd:=⟨2,7,b8⟩
theorem sc8:aL ["pairs","rate","cut","left","first","loads","taken"] ["pairs","rate"] (az s8):=nofun
include cl in
theorem d8(a:iD K "cut_to_rate" "cut_to_rate" s8 f fd)(fc:mg "min"=none):↥(["pairs","rate"],2,f8):=by
 exists a,sc8,0,0;refine aO ?_ ?_;.exists 2,bA aH
 lia;.exists 3,sv 1
 lia;.exact(nC PassesOwn.never hc (cP (sv 0)) (gA hc (bh (aJ (i:=4) nd rfl oi oi) (bh (aJ (i:=5) nd rfl oi oi) eG))) (lG rfl (cY _ _ (cY _ _ iY 5) 4)) (by lia;(· exists 6,uC rfl hc (by rfl) fc (cH (sv 3) (cH (sv 5) aH rfl) rfl));(· lia;exact dO (k:=2) rfl (by ac_rfl) (cO (cH (sv 4) (cH (sv 6) aH rfl) rfl));(· lia;exact QT (i:=3) (sub:=true) J3 nd rfl oi (sv 6) (Or.inl rfl);exact aq))))
 lia;.exists fL ?_ ?_ ?_;exact bR jF (sv 3) aa (aZ _);(· lia;exact Q4;exact aq);exact aq
 lia;.exists(),sv 2
 exact aq
abbrev s9:Stmt:=top 14
noncomputable def b9:List S:=[.ret (.comp (.Vt (.idx ↑0 ⇑1)) 2 [2,3] false (some (.cmp .eq (.idx ↑3 ⇑0) ↑1)) ↑2)]
def f9:Fd:=⟨2,2,b9⟩
theorem sc9:aL ["net","place"] ["net","place"] (az s9):=nofun
include cl in
theorem d9(a:iD K "ways_out" "ways_out" s9 f fd)(dW:mg "enumerate"=none):↥(["net","place"],2,f9):=by
 exists a,sc9,0,0;refine aO ?_ ?_;.exists(),cJ (N':=["net","place","number","way"]) hc (rE rfl (by rfl)) (Ig rfl (by rfl) dW (ao (sv 0) aa)) ⇑(gA hc (bh (aJ (i:=2) ‹["net","place","number","way"]› rfl (Or.inl rfl) (Or.inr rfl)) (bh (aJ (i:=3) ‹["net","place","number","way"]› rfl (Or.inl rfl) (Or.inr rfl)) eG))) (pq rfl (fV (show 2<=2 by decide) (fV (show 2<=3 by decide) o7))) ⇑(o5 (bR (lF (bj hr)) (ao (sv 3) aa) (sv 1) (aZ _))) ⇑((sv 2))
 exact aq
abbrev rF:Stmt:=top 15
noncomputable def b10:List S:=[.ret (.comp (.Vt (.idx ↑0 ⇑1)) 2 [2,3] false (some (.cmp .eq (.idx ↑3 ⇑1) ↑1)) ↑2)]
def Y9:Fd:=⟨2,2,b10⟩
theorem ade:aL ["net","place"] ["net","place"] (az rF):=nofun
include cl in
theorem d10(a:iD K "ways_in" "ways_in" rF f fd)(dW:mg "enumerate"=none):↥(["net","place"],2,Y9):=by
 exists a,ade,0,0;refine aO ?_ ?_;.exists(),cJ (N':=["net","place","number","way"]) hc (rE rfl (by rfl)) (Ig rfl (by rfl) dW (ao (sv 0) aa)) ⇑(gA hc (bh (aJ (i:=2) ‹["net","place","number","way"]› rfl (Or.inl rfl) (Or.inr rfl)) (bh (aJ (i:=3) ‹["net","place","number","way"]› rfl (Or.inl rfl) (Or.inr rfl)) eG))) (pq rfl (fV (show 2<=2 by decide) (fV (show 2<=3 by decide) o7))) ⇑(o5 (bR (lF (bj hr)) (ao (sv 3) aa) (sv 1) (aZ _))) ⇑((sv 2))
 exact aq
abbrev YZ:Stmt:=top 17
noncomputable def b11:List S:=[.asg 3 (.blt .sum [.comp (.call 10 [↑0,↑2]) 1 [4] true none (.idx ↑1 ↑4)]),.ret (.bin .sub ↑3 (.blt .sum [.comp (.call 9 [↑0,↑2]) 1 [4] true none (.idx ↑1 ↑4)]))]
def f11:Fd:=⟨3,4,b11⟩
theorem aa0:aL ["net","stream","place","come"] ["net","stream","place"] (az YZ):=nofun
include cl in
theorem d11(a:iD K "stays_at" "stays_at" YZ f fd)(kW:mg "sum"=none)(b:↥(10,"ways_in",2,0))(e:↥(9,"ways_out",2,0)):↥(["net","stream","place"],3,f11):=by
 exists a,aa0,0,0;refine aO ?_ ?_;.exists 3,uW rfl hc (by rfl) kW (cJ (N':=["net","stream","place","come","number"]) hc (rE rfl (by rfl)) (cP (dz b hr (aV (sv 0) (aV (sv 2) aA rfl) rfl))) ⇑(aJ (i:=4) ‹["net","stream","place","come","number"]› rfl (Or.inl rfl) (Or.inr rfl)) (bG (dm)) ⇑(cG) ⇑((ao (sv 1) (sv 4))))
 lia;.exists(),au cR (sv 3) (uW rfl hc (by rfl) kW (cJ (N':=["net","stream","place","come","number"]) hc (rE rfl (by rfl)) (cP (dz e hr (aV (sv 0) (aV (sv 2) aA rfl) rfl))) ⇑(aJ (i:=4) ‹["net","stream","place","come","number"]› rfl (Or.inl rfl) (Or.inr rfl)) (bG (dm)) ⇑(cG) ⇑((ao (sv 1) (sv 4)))))
 exact aq
abbrev s12:Stmt:=top 18
noncomputable def b12:List S:=[.ret (.neg (.call 11 [↑0,↑1,⇑0]))]
def Z4:Fd:=⟨2,2,b12⟩
theorem adl:aL ["net","stream"] ["net","stream"] (az s12):=nofun
include cl in
theorem d12(a:iD K "stream_rate" "stream_rate" s12 f fd)(b:↥(11,"stays_at",3,0)):↥(["net","stream"],2,Z4):=by
 exists a,adl,0,0;refine aO ?_ ?_;.exists(),iT (dz b hr (aV (sv 0) (aV (sv 1) (aV aa aA rfl) rfl) rfl))
 exact aq
abbrev s13:Stmt:=top 19
noncomputable def b13:List S:=[.ret (.blt .all [.comp (.zip ↑1 (.idx ↑0 ⇑1)) 2 [2,3] false none (.chain .le .le ⇑0 ↑2 (.idx ↑3 ⇑2))])]
def Y6:Fd:=⟨2,2,b13⟩
theorem adh:aL ["net","stream"] ["net","stream"] (az s13):=nofun
include cl in
theorem d13(a:iD K "within_rooms" "within_rooms" s13 f fd)(gR:mg "all"=none)(jj:mg "zip"=none):↥(["net","stream"],2,Y6):=by
 exists a,adh,0,0;refine aO ?_ ?_;.exists(),pY rfl hc (by rfl) gR (cJ (N':=["net","stream","loads","way"]) hc (rE rfl (by rfl)) (yc rfl (by rfl) jj (sv 1) (ao (sv 0) aa)) ⇑(gA hc (bh (aJ (i:=2) ‹["net","stream","loads","way"]› rfl (Or.inl rfl) (Or.inr rfl)) (bh (aJ (i:=3) ‹["net","stream","loads","way"]› rfl (Or.inl rfl) (Or.inr rfl)) eG))) (pq rfl (fV (show 2<=2 by decide) (fV (show 2<=3 by decide) o7))) ⇑(cG) ⇑((Hx uz uz aa (sv 2) (ao (sv 3) aa))))
 exact aq
abbrev s14:Stmt:=top 20
noncomputable def b14:List S:=[.ifs (.or (.cmp .ne (.blt .len [↑1]) (.blt .len [.idx ↑0 ⇑1])) (.not (.call 13 [↑0,↑1]))) [.ret (.con (.bl false))] [],.ifs (.cmp .lt (.call 12 [↑0,↑1]) ⇑0) [.ret (.con (.bl false))] [],.ret (.blt .all [.comp (.rO ⇑1 (.bin .sub (.idx ↑0 ⇑0) ⇑1)) 1 [2] true none (.cmp .eq (.call 11 [↑0,↑1,↑2]) ⇑0)])]
def Vz:Fd:=⟨2,2,b14⟩
theorem abL:aL ["net","stream"] ["net","stream"] (az s14):=nofun
include cl in
theorem d14(a:iD K "stream_right" "stream_right" s14 f fd)(gR:mg "all"=none)(bu:mg "len"=none)(aX:mg "range"=none)(b:↥(11,"stays_at",3,0))(e:↥(12,"stream_rate",2,0))(g:↥(13,"within_rooms",2,0)):↥(["net","stream"],2,Vz):=by
 exists a,abL,0,0;refine aO ?_ ?_;.exists fL ?_ ?_ ?_;exact SW.st (j9 (bR (lz (bj hr)) (dg rfl (by rfl) bu (sv 1)) (dg rfl (by rfl) bu (ao (sv 0) aa)) (aZ _)) (iR (gZ (dZ (dz g hr (aV (sv 0) (aV (sv 1) aA rfl) rfl))))));(· lia;(· exists(),fY);exact aq);exact aq
 lia;.exists fL ?_ ?_ ?_;exact bR (nJ (bj hr)) (dz e hr (aV (sv 0) (aV (sv 1) aA rfl) rfl)) aa (aZ _);(· lia;(· exists(),fY);exact aq);exact aq
 lia;.exists(),pY rfl hc (by rfl) gR (cJ (N':=["net","stream","place"]) hc (rE rfl (by rfl)) (uR rfl (by rfl) aX aa (au cR (ao (sv 0) aa) aa)) ⇑(aJ (i:=2) ‹["net","stream","place"]› rfl (Or.inl rfl) (Or.inr rfl)) (bG (dm)) ⇑(cG) ⇑((gV (lF (bj hr)) (dz b hr (aV (sv 0) (aV (sv 1) (aV (sv 2) aA rfl) rfl) rfl)) aa (aZ _))))
 exact aq
abbrev s15:Stmt:=top 22
noncomputable def b15:List S:=[.asg 2 (.blt .sum [.comp (.idx ↑0 ⇑1) 1 [6] true none (.idx ↑6 ⇑3)]),.Jl 3 0 0,.iI (.rO ⇑1 (.idx ↑0 ⇑0)) [4] true [.gf 3 ↑4 ↑2],.asg 5 (.call 4 [↑0,↑1,.vw 3]),.ret (.comp (.rO ⇑0 (.idx ↑0 ⇑0)) 1 [6] true none (.idx (.bin .zM ↑5 ↑6) ⇑0))]
def f15:Fd:=⟨2,6,b15⟩
theorem acU:aL ["net","stream","late","begun","place","come"] ["net","stream"] (az s15):=nofun
include cl in
theorem d15(a:iD K "found_clocks" "found_clocks" s15 f fd)(aX:mg "range"=none)(kW:mg "sum"=none)(b:↥(4,"shortest_come",3,0)):↥(["net","stream"],2,f15):=by
 exists a,acU,0,0;refine aO ?_ ?_;.exists 2,uW rfl hc (by rfl) kW (cJ (N':=["net","stream","late","begun","place","come","way"]) hc (rE rfl (by rfl)) (cP (ao (sv 0) aa)) ⇑(aJ (i:=6) ‹["net","stream","late","begun","place","come","way"]› rfl (Or.inl rfl) (Or.inr rfl)) (bG (dm)) ⇑(cG) ⇑((ao (sv 6) aa)))
 lia;.exact(Mh (i:=3) nd rfl oi (by rfl) (Or.inl rfl))
 lia;.exists 4,uR rfl (by rfl) aX aa (ao (sv 0) aa),0;(· lia;exact oW (i:=3) (bj hr) rfl (by ac_rfl) (sv 4) (sv 2) (by rfl);exact aq)
 lia;.exists jw (i:=5) ?_ ?_ ?_ ?_ ?_ ?_;exact nd;exact rfl;exact Or.inr rfl;rotate_left;rfl;exact oi;exact dz b hr (aV (sv 0) (aV (sv 1) (aV (Ny (i:=3) rfl (by ac_rfl)) aA rfl) rfl) rfl)
 lia;.exists(),cJ (N':=["net","stream","late","begun","place#4","come","place"]) hc (rE rfl (by rfl)) (iV rfl (by rfl) aX (ao (sv 0) aa)) ⇑(aJ (i:=6) ‹["net","stream","late","begun","place#4","come","place"]› rfl (Or.inl rfl) (Or.inr rfl)) (bG (dm)) ⇑(cG) ⇑((ao (o4 (bj hr) (sv 5) (sv 6) (λ_ _=>rfl)) aa))
 exact aq
abbrev s16:Stmt:=top 23
noncomputable def b16:List S:=[.asg 2 (.bin .mul (.lst [⇑0]) (.blt .len [.idx ↑0 ⇑1])),.iI (.call 8 [.call 7 [↑0],↑1]) [3,4] false [.asg 2 (.call 6 [↑2,↑3,↑4])],.ret (.tup [↑2,.call 15 [↑0,↑2]])]
def ZS:Fd:=⟨2,5,b16⟩
theorem acG:aL ["net","rate","stream","steps","loads"] ["net","rate"] (az s16):=nofun
include cl in
theorem d16(a:iD K "light_stream" "light_stream" s16 f fd)(bu:mg "len"=none)(b:↥(7,"chains_to_end",1,0))(e:↥(8,"cut_to_rate",2,0))(g:↥(15,"found_clocks",2,0))(h:↥(6,"stream_with",3,0)):↥(["net","rate"],2,ZS):=by
 exists a,acG,0,0;refine aO ?_ ?_;.exists 2,au cV (bA (cH aa aH rfl)) (dg rfl (by rfl) bu (ao (sv 0) aa))
 lia;.exact(nC PassesOwn.never hc (cP (dz e hr (aV (dz b hr (aV (sv 0) aA rfl)) (aV (sv 1) aA rfl) rfl))) (gA hc (bh (aJ (i:=3) nd rfl oi oi) (bh (aJ (i:=4) nd rfl oi oi) eG))) (lG rfl (cY _ _ (cY _ _ iY 4) 3)) (by lia;(· exists 2,dz h hr (aV (sv 2) (aV (sv 3) (aV (sv 4) aA rfl) rfl) rfl));exact aq))
 lia;.exists(),cO (cH (sv 2) (cH (dz g hr (aV (sv 0) (aV (sv 2) aA rfl) rfl)) aH rfl) rfl)
 exact aq
abbrev s17:Stmt:=top 24
noncomputable def b17:List S:=[.asg 3 (.bin .add (.idx ↑2 (.idx ↑0 ⇑0)) (.idx ↑0 ⇑3)),.ret (.and (.or (.cmp .ge ↑1 (.idx ↑0 ⇑2)) (.cmp .le (.idx ↑2 (.idx ↑0 ⇑1)) ↑3)) (.or (.cmp .le ↑1 ⇑0) (.cmp .ge (.idx ↑2 (.idx ↑0 ⇑1)) ↑3)))]
def f17:Fd:=⟨3,4,b17⟩
theorem aci:aL ["way","loads","clocks","come"] ["way","loads","clocks"] (az s17):=nofun
include cl in
theorem d17(a:iD K "clock_holds" "clock_holds" s17 f fd):↥(["way","loads","clocks"],3,f17):=by
 exists a,aci,0,0;refine aO ?_ ?_;.exists 3,au aP (ao (sv 2) (ao (sv 0) aa)) (ao (sv 0) aa)
 lia;.exists(),pL (Ob (gV Gr (sv 1) (ao (sv 0) aa) (aZ _)) (mO (gV uz (ao (sv 2) (ao (sv 0) aa)) (sv 3) (aZ _)))) (mO (Ob (gV uz (sv 1) aa (aZ _)) (mO (gV Gr (ao (sv 2) (ao (sv 0) aa)) (sv 3) (aZ _)))))
 exact aq
abbrev s18:Stmt:=top 25
noncomputable def b18:List S:=[.ifs (.or (.not (.call 14 [↑0,↑1])) (.or (.cmp .ne (.blt .len [↑2]) (.idx ↑0 ⇑0)) (.cmp .ne (.idx ↑2 ⇑0) ⇑0))) [.ret (.con (.bl false))] [],.ret (.blt .all [.tZ 1 (.idx ↑0 ⇑1) 2 [3,4] false none (.call 17 [↑3,↑4,↑2])])]
def ZW:Fd:=⟨3,3,b18⟩
theorem acI:aL ["net","stream","clocks"] ["net","stream","clocks"] (az s18):=nofun
include cl in
theorem d18(b:iD K "clocks_right" "clocks_right" s18 f fd)(gR:mg "all"=none)(bu:mg "len"=none)(jj:mg "zip"=none)(a:↥(17,"clock_holds",3,0))(e:↥(14,"stream_right",2,0)):↥(["net","stream","clocks"],3,ZW):=by
 exists b,acI,0,0;refine aO ?_ ?_;.exists fL ?_ ?_ ?_;exact SW.st (j9 (gZ (dZ (dz e hr (aV (sv 0) (aV (sv 1) aA rfl) rfl)))) (j9 (bR (lz (bj hr)) (dg rfl (by rfl) bu (sv 2)) (ao (sv 0) aa) (aZ _)) (iR (bR (lz (bj hr)) (ao (sv 2) aa) aa (aZ _)))));(· lia;(· exists(),fY);exact aq);exact aq
 lia;.exists(),pY rfl hc (by rfl) gR (Ja (N':=["net","stream","clocks","way","loads"]) hc (rE rfl (by rfl)) (Kz (i:=1) rfl (by rfl) jj rfl (ao (sv 0) aa) (sv 1)) ⇑(gA hc (bh (aJ (i:=3) ‹["net","stream","clocks","way","loads"]› rfl (Or.inl rfl) (Or.inr rfl)) (bh (aJ (i:=4) ‹["net","stream","clocks","way","loads"]› rfl (Or.inl rfl) (Or.inr rfl)) eG))) (pq rfl (fV (show 3<=3 by decide) (fV (show 3<=4 by decide) o7))) ⇑(cG) ⇑((dz a hr (aV (sv 3) (aV (sv 4) (aV (sv 2) aA rfl) rfl) rfl))))
 exact aq
abbrev s19:Stmt:=top 27
noncomputable def b19:List S:=[.ret (.lst [.blt .max2 [⇑0,.bin .sub ↑0 (.bin .pow ⇑10 ⇑18)],.bin .mod ↑0 (.bin .pow ⇑10 ⇑18),⇑0])]
def f19:Fd:=⟨1,1,b19⟩
theorem abj:aL ["cell"] ["cell"] (az s19):=nofun
include cl in
theorem d19(a:iD K "_law_pool" "_law_pool" s19 f fd)(gM:mg "max"=none):↥(["cell"],1,f19):=by
 exists a,abj,0,0;refine aO ?_ ?_;.exists(),bA (cH (uf rfl hc (by rfl) gM (cH aa (cH (au cR (sv 0) (au fZ aa aa)) aH rfl) rfl)) (cH (au fC (sv 0) (au fZ aa aa)) (cH aa aH rfl) rfl) rfl)
 exact aq
abbrev s20:Stmt:=top 28
noncomputable def b20:List S:=[.ifs (.cmp .gt (.idx ↑0 ⇑0) ⇑0) [.asg 2 (.bin .mod (.idx ↑0 ⇑0) ↑1),.xJ 0 ⇑0 (.bin .fdiv (.idx ↑0 ⇑0) ↑1),.ret ↑2] [],.xJ 0 ⇑2 (.bin .add (.idx ↑0 ⇑2) ⇑1),.asg 3 (.bin .mod (.bin .add (.idx ↑0 ⇑1) (.bin .mul ⇑7919 (.idx ↑0 ⇑2))) ⇑1000000007),.asg 4 (.bin .mod (.bin .mul (.bin .add ↑3 ⇑11) (.bin .add ↑3 ⇑48271)) ⇑998244353),.ret (.bin .mod (.bin .fdiv (.bin .mod (.bin .mul ↑4 ↑4) ⇑2147483647) ⇑8) ↑1)]
def ZF:Fd:=⟨2,5,b20⟩
theorem aaY:aL ["pool","base","digit","near","stir"] ["pool","base"] (az s20):=nofun
include cl in
theorem d20(a:iD K "_law_next" "_law_next" s20 f fd):↥(["pool","base"],2,ZF):=by
 exists a,aaY,0,0;refine aO ?_ ?_;.exists fL ?_ ?_ ?_;exact bR jF (ao (sv 0) aa) aa (aZ _);(· lia;(· exists 2,au fC (ao (sv 0) aa) (sv 1));(· lia;exact my (k:=0) rfl (by ac_rfl) aa (au pP (ao (sv 0) aa) (sv 1));(· lia;(· exists(),sv 2);exact aq)));exact aq
 lia;.exact(my (k:=0) rfl (by ac_rfl) aa (au aP (ao (sv 0) aa) aa))
 lia;.exists 3,au fC (au aP (ao (sv 0) aa) (au cV aa (ao (sv 0) aa))) aa
 lia;.exists 4,au fC (au cV (au aP (sv 3) aa) (au aP (sv 3) aa)) aa
 lia;.exists(),au fC (au pP (au fC (au cV (sv 4) (sv 4)) aa) aa) (sv 1)
 exact aq
abbrev s21:Stmt:=top 29
noncomputable def b21:List S:=[.ret (.bin .mod (.bin .add (.bin .mul (.call 20 [↑0,⇑100000]) ⇑100000) (.call 20 [↑0,⇑100000])) ↑1)]
def Y0:Fd:=⟨2,2,b21⟩
theorem ac1:aL ["pool","base"] ["pool","base"] (az s21):=nofun
include cl in
theorem d21(b:iD K "_law_wide" "_law_wide" s21 f fd)(a:↥(20,"_law_next",2,0)):↥(["pool","base"],2,Y0):=by
 exists b,ac1,0,0;refine aO ?_ ?_;.exists(),au fC (au aP (au cV (dz a hr (aV (sv 0) (aV aa aA rfl) rfl)) aa) (dz a hr (aV (sv 0) (aV aa aA rfl) rfl))) (sv 1)
 exact aq
abbrev s22:Stmt:=top 30
noncomputable def b22:List S:=[.asg 2 (.bin .add ⇑2 (.call 20 [↑0,⇑5])),.asg 3 (.idx (.lst [⇑4,⇑3,⇑8,.bin .add (.bin .pow ⇑10 ⇑9) ⇑1]) (.call 20 [↑0,⇑4])),.asg 4 (.idx (.lst [⇑3,⇑5,⇑4,.bin .pow ⇑10 ⇑6]) (.call 20 [↑0,⇑4])),.asg 5 (.lst []),.iI (.rO ⇑0 (.idx (.lst [↑1,.call 20 [↑0,.bin .add ↑1 ⇑1]]) (.call 20 [↑0,⇑2]))) [6] true [.asg 7 (.call 20 [↑0,↑2]),.asg 8 (.bin .mod (.bin .add (.bin .add ↑7 ⇑1) (.call 20 [↑0,.bin .sub ↑2 ⇑1])) ↑2),.ifs (.cmp .gt (.call 20 [↑0,⇑4]) ⇑0) [.par 7 8 (.blt .min2 [↑7,↑8]) (.blt .max2 [↑7,↑8])] [],.app 5 (.tup [↑7,↑8,.call 21 [↑0,↑3],.bin .add ⇑1 (.call 21 [↑0,↑4])])],.ret (.tup [↑2,.blt .tuple [↑5]])]
def Zd:Fd:=⟨2,9,b22⟩
theorem ac9:aL ["pool","most","many","rooms","hours","ways","k","one","other"] ["pool","most"] (az s22):=nofun
include cl in
theorem d22(e:iD K "_law_net" "_law_net" s22 f fd)(gM:mg "max"=none)(fc:mg "min"=none)(aX:mg "range"=none)(dI:mg "tuple"=none)(a:↥(20,"_law_next",2,0))(b:↥(21,"_law_wide",2,0)):↥(["pool","most"],2,Zd):=by
 exists e,ac9,0,0;refine aO ?_ ?_;.exists 2,au aP aa (dz a hr (aV (sv 0) (aV aa aA rfl) rfl))
 lia;.exists 3,ao (bA (vp [4,3,8] rfl (cH (au aP (au fZ aa aa) aa) aH rfl))) (dz a hr (aV (sv 0) (aV aa aA rfl) rfl))
 lia;.exists 4,ao (bA (vp [3,5,4] rfl (cH (au fZ aa aa) aH rfl))) (dz a hr (aV (sv 0) (aV aa aA rfl) rfl))
 lia;.exists 5,bA aH
 lia;.exists 6,iV rfl (by rfl) aX (ao (bA (cH (sv 1) (cH (dz a hr (aV (sv 0) (aV (au aP (sv 1) aa) aA rfl) rfl)) aH rfl) rfl)) (dz a hr (aV (sv 0) (aV aa aA rfl) rfl))),0;(· lia;(· exists 7,dz a hr (aV (sv 0) (aV (sv 2) aA rfl) rfl));(· lia;(· exists 8,au fC (au aP (au aP (sv 7) aa) (dz a hr (aV (sv 0) (aV (au cR (sv 2) aa) aA rfl) rfl))) (sv 2));(· lia;(· exists fL ?_ ?_ ?_;exact bR jF (dz a hr (aV (sv 0) (aV aa aA rfl) rfl)) aa (aZ _);(· lia;exact Pq (i:=7) (j:=8) hc nd rfl rfl (by decide) rfl rfl (uC rfl hc (by rfl) fc (cH (sv 7) (cH (sv 8) aH rfl) rfl)) (uf rfl hc (by rfl) gM (cH (sv 7) (cH (sv 8) aH rfl) rfl));exact aq);exact aq);(· lia;exact dO (k:=5) rfl (by ac_rfl) (cO (cH (sv 7) (cH (sv 8) (cH (dz b hr (aV (sv 0) (aV (sv 3) aA rfl) rfl)) (cH (au aP aa (dz b hr (aV (sv 0) (aV (sv 4) aA rfl) rfl))) aH rfl) rfl) rfl) rfl));exact aq))))
 lia;.exists(),cO (cH (sv 2) (cH (pX rfl (by rfl) dI (sv 5)) aH rfl) rfl)
 exact aq
abbrev s23:Stmt:=top 31
noncomputable def b23:List S:=[.asg 1 (.lst [.lst [⇑0]]),.iI (.rO ⇑1 (.bin .sub (.idx ↑0 ⇑0) ⇑1)) [2] true [.asg 1 (.bin .add ↑1 (.comp ↑1 1 [5] true none (.bin .add ↑5 (.lst [↑2]))))],.asg 3 (.lst []),.iI ↑1 [4] true [.app 3 (.blt .sum [.comp (.idx ↑0 ⇑1) 1 [5] true (some (.and (.cmp .inn (.idx ↑5 ⇑0) ↑4) (.cmp .Cg (.idx ↑5 ⇑1) ↑4))) (.idx ↑5 ⇑2)])],.ret (.blt .xH [↑3])]
def f23:Fd:=⟨1,5,b23⟩
theorem abM:aL ["net","sides","place","found","side"] ["net"] (az s23):=nofun
include cl in
theorem d23(a:iD K "_law_most_rate" "_law_most_rate" s23 f fd)(fc:mg "min"=none)(aX:mg "range"=none)(kW:mg "sum"=none):↥(["net"],1,f23):=by
 exists a,abM,0,0;refine aO ?_ ?_;.exists 1,bA (cH (bA (cH aa aH rfl)) aH rfl)
 lia;.exists uA (i:=2) ?_ ?_ ?_ ?_ ?_ ?_ ?_ ?_ ?_;exact PassesOwn.never;exact hc;exact nd;exact rfl;exact Or.inr rfl;exact uR rfl (by rfl) aX aa (au cR (ao (sv 0) aa) aa);(· lia;(· exists 1,au aP (sv 1) (cJ (N':=["net","sides","place","found","side#4","side"]) hc (rE rfl (by rfl)) (cP (sv 1)) ⇑(aJ (i:=5) ‹["net","sides","place","found","side#4","side"]› rfl (Or.inl rfl) (Or.inr rfl)) (bG (dm)) ⇑(cG) ⇑((au aP (sv 5) (bA (cH (sv 2) aH rfl))))));exact aq);(· intro _;rfl);exact oi
 lia;.exists 3,bA aH
 lia;.exists uA (i:=4) ?_ ?_ ?_ ?_ ?_ ?_ ?_ ?_ ?_;exact PassesOwn.never;exact hc;exact nd;exact rfl;exact Or.inr rfl;exact cP (sv 1);(· lia;exact dO (k:=3) rfl (by ac_rfl) (uW rfl hc (by rfl) kW (cJ (N':=["net","sides","place","found","side","way"]) hc (rE rfl (by rfl)) (cP (ao (sv 0) aa)) ⇑(aJ (i:=5) ‹["net","sides","place","found","side","way"]› rfl (Or.inl rfl) (Or.inr rfl)) (bG (dm)) ⇑(o5 (SW.st (xY (bR Lp (ao (sv 5) aa) (sv 4) (by with_unfolding_all rfl)) (uV (bR DK (ao (sv 5) aa) (sv 4) (by with_unfolding_all rfl)))))) ⇑((ao (sv 5) aa))));exact aq);(· intro _;rfl);exact oi
 lia;.exists(),uY rfl hc (by rfl) fc (sv 3)
 exact aq
abbrev s24:Stmt:=top 32
noncomputable def b24:List S:=[.Yu [2,3] ↑0,.asg 4 (.bin .mul (.lst [⇑0]) ↑2),.iI (.zip ↑3 ↑1) [5,6] false [.ifs (.or (.cmp .lt ↑6 ⇑0) (.cmp .gt ↑6 (.idx ↑5 ⇑2))) [.ret (.con .non)] [],.xJ 4 (.idx ↑5 ⇑0) (.bin .add (.idx ↑4 (.idx ↑5 ⇑0)) ↑6),.xJ 4 (.idx ↑5 ⇑1) (.bin .sub (.idx ↑4 (.idx ↑5 ⇑1)) ↑6)],.ifs (.or (.cmp .lt (.idx ↑4 ⇑0) ⇑0) (.cmp .ne (.comp (.slice ↑4 ⇑1 (.neg ⇑1)) 1 [7] true (some (.cmp .ne ↑7 ⇑0)) ↑7) (.lst []))) [.ret (.con .non)] [],.ret (.idx ↑4 ⇑0)]
def Zo:Fd:=⟨2,7,b24⟩
theorem aa7:aL ["net","stream","many","ways","left","way","loads"] ["net","stream"] (az s24):=nofun
include cl in
theorem d24(a:iD K "_law_rate" "_law_rate" s24 f fd)(jj:mg "zip"=none):↥(["net","stream"],2,Zo):=by
 exists a,aa7,0,0;refine aO ?_ ?_;.exact(Gk (sv 0) (gA hc (bh (aJ (i:=2) nd rfl oi oi) (bh (aJ (i:=3) nd rfl oi oi) eG))) (lG rfl (cY _ _ (cY _ _ iY 3) 2)))
 lia;.exists 4,au cV (bA (cH aa aH rfl)) (sv 2)
 lia;.exact(nC PassesOwn.never hc (yc rfl (by rfl) jj (sv 3) (sv 1)) (gA hc (bh (aJ (i:=5) nd rfl oi oi) (bh (aJ (i:=6) nd rfl oi oi) eG))) (lG rfl (cY _ _ (cY _ _ iY 6) 5)) (by lia;(· exists fL ?_ ?_ ?_;exact SW.st (j9 (bR (nJ (bj hr)) (sv 6) aa (aZ _)) (iR (bR jF (sv 6) (ao (sv 5) aa) (aZ _))));(· lia;(· exists(),qF);exact aq);exact aq);(· lia;exact my (k:=4) rfl (by ac_rfl) (ao (sv 5) aa) (au aP (ao (sv 4) (ao (sv 5) aa)) (sv 6));(· lia;exact my (k:=4) rfl (by ac_rfl) (ao (sv 5) aa) (au cR (ao (sv 4) (ao (sv 5) aa)) (sv 6));exact aq))))
 lia;.exists fL ?_ ?_ ?_;exact SW.st (j9 (bR (nJ (bj hr)) (ao (sv 4) aa) aa (aZ _)) (iR (bR (lz (bj hr)) (cJ (N':=["net","stream","many","ways","left","way","loads","one"]) hc (rE rfl (by rfl)) (cP (dh (sv 4) (dG aa) (dG (iT aa)))) ⇑(aJ (i:=7) ‹["net","stream","many","ways","left","way","loads","one"]› rfl (Or.inl rfl) (Or.inr rfl)) (bG (dm)) ⇑(o5 (bR (lz (bj hr)) (sv 7) aa (aZ _))) ⇑((sv 7))) (bA aH) (aZ _))));(· lia;(· exists(),qF);exact aq);exact aq
 lia;.exists(),ao (sv 4) aa
 exact aq
abbrev s25:Stmt:=top 34
noncomputable def b25:List S:=[.ifs (.or (.cmp .ne (.blt .len [↑2]) (.idx ↑0 ⇑0)) (.cmp .ne (.idx ↑2 ⇑0) ⇑0)) [.ret (.con (.bl false))] [],.iI (.zip (.idx ↑0 ⇑1) ↑1) [3,4] false [.asg 5 (.bin .sub (.bin .sub (.idx ↑2 (.idx ↑3 ⇑1)) (.idx ↑2 (.idx ↑3 ⇑0))) (.idx ↑3 ⇑3)),.ifs (.or (.and (.cmp .lt ↑4 (.idx ↑3 ⇑2)) (.cmp .gt ↑5 ⇑0)) (.and (.cmp .gt ↑4 ⇑0) (.cmp .lt ↑5 ⇑0))) [.ret (.con (.bl false))] []],.ret (.con (.bl true))]
def Ua:Fd:=⟨3,6,b25⟩
theorem acT:aL ["net","stream","clocks","way","loads","later"] ["net","stream","clocks"] (az s25):=nofun
include cl in
theorem d25(a:iD K "_law_clocks" "_law_clocks" s25 f fd)(bu:mg "len"=none)(jj:mg "zip"=none):↥(["net","stream","clocks"],3,Ua):=by
 exists a,acT,0,0;refine aO ?_ ?_;.exists fL ?_ ?_ ?_;exact SW.st (j9 (bR (lz (bj hr)) (dg rfl (by rfl) bu (sv 2)) (ao (sv 0) aa) (aZ _)) (iR (bR (lz (bj hr)) (ao (sv 2) aa) aa (aZ _))));(· lia;(· exists(),fY);exact aq);exact aq
 lia;.exact(nC PassesOwn.never hc (yc rfl (by rfl) jj (ao (sv 0) aa) (sv 1)) (gA hc (bh (aJ (i:=3) nd rfl oi oi) (bh (aJ (i:=4) nd rfl oi oi) eG))) (lG rfl (cY _ _ (cY _ _ iY 4) 3)) (by lia;(· exists 5,au cR (au cR (ao (sv 2) (ao (sv 3) aa)) (ao (sv 2) (ao (sv 3) aa))) (ao (sv 3) aa));(· lia;(· exists fL ?_ ?_ ?_;exact SW.st (j9 (SW.st (xY (bR (nJ (bj hr)) (sv 4) (ao (sv 3) aa) (aZ _)) (uV (bR jF (sv 5) aa (aZ _))))) (iR (SW.st (xY (bR jF (sv 4) aa (aZ _)) (uV (bR (nJ (bj hr)) (sv 5) aa (aZ _)))))));(· lia;(· exists(),fY);exact aq);exact aq);exact aq)))
 lia;.exists(),fY
 exact aq
abbrev s26:Stmt:=top 35
noncomputable def b26:List S:=[.asg 3 (.tup [.blt .list [↑1],.blt .list [↑2]]),.asg 4 (.call 18 [↑0,.idx ↑3 ⇑0,.idx ↑3 ⇑1]),.asg 5 (.and (.cmp .eq (.blt .len [↑1]) (.blt .len [.idx ↑0 ⇑1])) (.and (.cmp .Jg (.call 24 [↑0,↑1]) (.con .non)) (.call 25 [↑0,↑1,↑2]))),.ret (.and (.inst [.bool] ↑4) (.and (.cmp .eq ↑4 ↑5) (.cmp .eq ↑3 (.tup [↑1,↑2]))))]
def f26:Fd:=⟨3,6,b26⟩
theorem abQ:aL ["net","stream","clocks","handed","found","due"] ["net","stream","clocks"] (az s26):=nofun
include cl in
theorem d26(a:iD K "_law_right" "_law_right" s26 f fd)(zW:mg "bool"=none)(jh:mg "isinstance"=none)(bu:mg "len"=none)(gK:mg "list"=none)(b:↥(25,"_law_clocks",3,0))(e:↥(24,"_law_rate",2,0))(g:↥(18,"clocks_right",3,0)):↥(["net","stream","clocks"],3,f26):=by
 exists a,abQ,0,0;refine aO ?_ ?_;.exists 3,cO (cH (vh rfl (by rfl) gK (sv 1)) (cH (vh rfl (by rfl) gK (sv 2)) aH rfl) rfl)
 lia;.exists 4,dz g hr (aV (sv 0) (aV (ao (sv 3) aa) (aV (ao (sv 3) aa) aA rfl) rfl) rfl)
 lia;.exists 5,pL (gV (lF (bj hr)) (dg rfl (by rfl) bu (sv 1)) (dg rfl (by rfl) bu (ao (sv 0) aa)) (aZ _)) (pL (gV BR (dz e hr (aV (sv 0) (aV (sv 1) aA rfl) rfl)) qF (aZ _)) (mO (dz b hr (aV (sv 0) (aV (sv 1) (aV (sv 2) aA rfl) rfl) rfl)))).ev
 lia;.exists(),pL (Hz .bool rfl (by rfl) jh (sv 4) (by rfl) zW (by kernel_rfl) (by decide) (by rfl)) (pL (gV (lF (bj hr)) (sv 4) (sv 5) (aZ _)) (mO (gV (lF (bj hr)) (sv 3) (cO (cH (sv 1) (cH (sv 2) aH rfl) rfl)) (aZ _)))).ev
 exact aq
abbrev s27:Stmt:=top 36
noncomputable def b27:List S:=[.asg 2 (.lst [.bin .add ↑0 (.lst [↑1]),.slice ↑0 (.con .non) (.neg ⇑1)]),.iI (.rO ⇑0 (.blt .len [↑0])) [3] true [.app 2 (.bin .add (.bin .add (.slice ↑0 (.con .non) ↑3) (.lst [.bin .add (.idx ↑0 ↑3) ↑1])) (.slice ↑0 (.bin .add ↑3 ⇑1) (.con .non)))],.ret ↑2]
def f27:Fd:=⟨2,4,b27⟩
theorem adE:aL ["row","by","found","k"] ["row","by"] (az s27):=nofun
include cl in
theorem d27(a:iD K "_law_changed" "_law_changed" s27 f fd)(bu:mg "len"=none)(aX:mg "range"=none):↥(["row","by"],2,f27):=by
 exists a,adE,0,0;refine aO ?_ ?_;.exists 2,bA (cH (au aP (sv 0) (bA (cH (sv 1) aH rfl))) (cH (dh (sv 0) fG (dG (iT aa))) aH rfl) rfl)
 lia;.exists 3,iV rfl (by rfl) aX (dg rfl (by rfl) bu (sv 0)),0;(· lia;exact dO (k:=2) rfl (by ac_rfl) (au aP (au aP (dh (sv 0) fG (dG (sv 3))) (bA (cH (au aP (ao (sv 0) (sv 3)) (sv 1)) aH rfl))) (dh (sv 0) (dG (au aP (sv 3) aa)) fG));exact aq)
 lia;.exists(),sv 2
 exact aq
abbrev s28:Stmt:=top 37
noncomputable def b28:List S:=[.asg 2 (.idx (.lst [⇑3,.bin .pow ⇑10 ⇑6,.bin .pow ⇑10 ⇑29]) (.call 20 [↑0,⇑3])),.ret (.comp (.rO ⇑0 ↑1) 1 [3] true none (.bin .sub (.call 21 [↑0,↑2]) (.bin .mul (.bin .fdiv ↑2 ⇑2) (.call 20 [↑0,⇑2]))))]
def f28:Fd:=⟨2,3,b28⟩
theorem ab5:aL ["pool","many","far"] ["pool","many"] (az s28):=nofun
include cl in
theorem d28(b:iD K "_law_drawn" "_law_drawn" s28 f fd)(aX:mg "range"=none)(a:↥(20,"_law_next",2,0))(e:↥(21,"_law_wide",2,0)):↥(["pool","many"],2,f28):=by
 exists b,ab5,0,0;refine aO ?_ ?_;.exists jw (i:=2) ?_ ?_ ?_ ?_ ?_ ?_;exact nd;exact rfl;exact Or.inr rfl;rotate_left;rfl;exact oi;exact ao (bA (cH aa (cH (au fZ aa aa) (cH (au fZ aa aa) aH rfl) rfl) rfl)) (dz a hr (aV (sv 0) (aV aa aA rfl) rfl))
 lia;.exists(),cJ (N':=["pool","many","far","k"]) hc (rE rfl (by rfl)) (iV rfl (by rfl) aX (sv 1)) ⇑(aJ (i:=3) ‹["pool","many","far","k"]› rfl (Or.inl rfl) (Or.inr rfl)) (bG (dm)) ⇑(cG) ⇑((au cR (dz e hr (aV (sv 0) (aV (sv 2) aA rfl) rfl)) (au cV (au pP (sv 2) aa) (dz a hr (aV (sv 0) (aV aa aA rfl) rfl)))))
 exact aq
abbrev s29:Stmt:=top 38
noncomputable def b29:List S:=[.asg 2 (.comp (.slice (.idx ↑1 ⇑1) (.con .non) ⇑11) 1 [8] true none (.bin .add (.tup [.blt .xH [.slice ↑8 (.con .non) ⇑2],.blt .Ef [.slice ↑8 (.con .non) ⇑2]]) (.slice ↑8 ⇑2 (.con .non)))),.asg 3 (.bin .add ⇑1 (.call 20 [↑0,⇑9])),.asg 4 (.bin .add ⇑1 (.call 20 [↑0,⇑9])),.asg 5 (.call 20 [↑0,.bin .add (.blt .len [↑2]) ⇑1]),.ins 2 ↑5 (.tup [.bin .sub (.idx ↑1 ⇑0) ⇑1,⇑0,↑3,↑4]),.asg 6 (.comp (.rO ⇑0 (.blt .len [↑2])) 1 [8] true none (.bin .mul ↑3 (.blt .int [.cmp .eq ↑8 ↑5]))),.asg 7 (.bin .add (.lst [⇑0]) (.bin .mul (.lst [.bin .sub (.bin .mul (.neg ⇑1) ↑4) (.call 20 [↑0,⇑2])]) (.bin .sub (.idx ↑1 ⇑0) ⇑1))),.ret (.call 26 [.tup [.idx ↑1 ⇑0,.blt .tuple [↑2]],↑6,↑7])]
def ZP:Fd:=⟨2,8,b29⟩
theorem ab6:aL ["pool","net","ways","room","hours","at","stream","clocks"] ["pool","net"] (az s29):=nofun
include cl in
theorem d29(b:iD K "_law_back_right" "_law_back_right" s29 f fd)(Jq:mg "int"=none)(bu:mg "len"=none)(gM:mg "max"=none)(fc:mg "min"=none)(aX:mg "range"=none)(dI:mg "tuple"=none)(a:↥(20,"_law_next",2,0))(e:↥(26,"_law_right",3,0)):↥(["pool","net"],2,ZP):=by
 exists b,ab6,0,0;refine aO ?_ ?_;.exact(uP (i:=2) (N':=["pool","net","ways","room","hours","at","stream","clocks","way"]) hc nd rfl oi (rE rfl (by rfl)) (cP (dh (ao (sv 1) aa) fG (dG aa))) ⇑(aJ (i:=8) ‹["pool","net","ways","room","hours","at","stream","clocks","way"]› rfl (Or.inl rfl) (Or.inr rfl)) (bG (dm)) ⇑(cG) ⇑((au aP (cO (cH (uY rfl hc (by rfl) fc (dh (sv 8) fG (dG aa))) (cH (Ks rfl hc (by rfl) gM (dh (sv 8) fG (dG aa))) aH rfl) rfl)) (dh (sv 8) (dG aa) fG))) (by rfl) (by intro _;rfl) (Or.inl rfl))
 lia;.exists jw (i:=3) ?_ ?_ ?_ ?_ ?_ ?_;exact nd;exact rfl;exact Or.inr rfl;rotate_left;rfl;exact oi;exact au aP aa (dz a hr (aV (sv 0) (aV aa aA rfl) rfl))
 lia;.exists 4,au aP aa (dz a hr (aV (sv 0) (aV aa aA rfl) rfl))
 lia;.exists jw (i:=5) ?_ ?_ ?_ ?_ ?_ ?_;exact nd;exact rfl;exact Or.inr rfl;rotate_left;rfl;exact oi;exact dz a hr (aV (sv 0) (aV (au aP (dg rfl (by rfl) bu (sv 2)) aa) aA rfl) rfl)
 lia;.exact(Su (k:=2) rfl (by ac_rfl) (sv 5) (cO (cH (au cR (ao (sv 1) aa) aa) (cH aa (cH (sv 3) (cH (sv 4) aH rfl) rfl) rfl) rfl)))
 lia;.exact(uP (i:=6) (N':=["pool","net","ways","room","hours","at","stream","clocks","k"]) hc nd rfl oi (rE rfl (by rfl)) (iV rfl (by rfl) aX (dg rfl (by rfl) bu (sv 2))) ⇑(aJ (i:=8) ‹["pool","net","ways","room","hours","at","stream","clocks","k"]› rfl (Or.inl rfl) (Or.inr rfl)) (bG (dm)) ⇑(cG) ⇑((au cV (sv 3) (KZ rfl (by rfl) Jq (gV (lF (bj hr)) (sv 8) (sv 5) (aZ _))))) (by rfl) (by intro _;rfl) (Or.inl rfl))
 lia;.exists 7,au aP (bA (cH aa aH rfl)) (au cV (bA (cH (au cR (au cV (iT aa) (sv 4)) (dz a hr (aV (sv 0) (aV aa aA rfl) rfl))) aH rfl)) (au cR (ao (sv 1) aa) aa))
 lia;.exists(),dz e hr (aV (cO (cH (ao (sv 1) aa) (cH (pX rfl (by rfl) dI (sv 2)) aH rfl) rfl)) (aV (sv 6) (aV (sv 7) aA rfl) rfl) rfl)
 exact aq
abbrev s30:Stmt:=top 39
noncomputable def b30:List S:=[.asg 2 (.comp (.idx ↑1 ⇑1) 1 [4] true none (.bin .add (.tup [⇑0,⇑1]) (.slice ↑4 ⇑2 (.con .non)))),.asg 3 (.bin .add (.blt .Jh [.comp ↑2 1 [4] true none (.idx ↑4 ⇑3)]) (.idx (.lst [⇑0,.neg ⇑1,⇑1,.bin .pow ⇑10 ⇑28]) (.call 20 [↑0,⇑4]))),.ret (.call 26 [.tup [⇑2,.blt .tuple [↑2]],.comp ↑2 1 [4] true none (.idx ↑4 ⇑2),.lst [⇑0,↑3]])]
def YS:Fd:=⟨2,4,b30⟩
theorem adu:aL ["pool","net","rows","later"] ["pool","net"] (az s30):=nofun
include cl in
theorem d30(a:iD K "_law_full_right" "_law_full_right" s30 f fd)(gM:mg "max"=none)(dI:mg "tuple"=none)(b:↥(20,"_law_next",2,0))(e:↥(26,"_law_right",3,0)):↥(["pool","net"],2,YS):=by
 exists a,adu,0,0;refine aO ?_ ?_;.exact(uP (i:=2) (N':=["pool","net","rows","later","way"]) hc nd rfl oi (rE rfl (by rfl)) (cP (ao (sv 1) aa)) ⇑(aJ (i:=4) ‹["pool","net","rows","later","way"]› rfl (Or.inl rfl) (Or.inr rfl)) (bG (dm)) ⇑(cG) ⇑((au aP (cO (cH aa (cH aa aH rfl) rfl)) (dh (sv 4) (dG aa) fG))) (by rfl) (by intro _;rfl) (Or.inl rfl))
 lia;.exists 3,au aP (Ka rfl hc (by rfl) gM (cJ (N':=["pool","net","rows","later","way"]) hc (rE rfl (by rfl)) (cP (sv 2)) ⇑(aJ (i:=4) ‹["pool","net","rows","later","way"]› rfl (Or.inl rfl) (Or.inr rfl)) (bG (dm)) ⇑(cG) ⇑((ao (sv 4) aa)))) (ao (bA (cH aa (cH (iT aa) (cH aa (cH (au fZ aa aa) aH rfl) rfl) rfl) rfl)) (dz b hr (aV (sv 0) (aV aa aA rfl) rfl)))
 lia;.exists(),dz e hr (aV (cO (cH aa (cH (pX rfl (by rfl) dI (sv 2)) aH rfl) rfl)) (aV (cJ (N':=["pool","net","rows","later","way"]) hc (rE rfl (by rfl)) (cP (sv 2)) ⇑(aJ (i:=4) ‹["pool","net","rows","later","way"]› rfl (Or.inl rfl) (Or.inr rfl)) (bG (dm)) ⇑(cG) ⇑((ao (sv 4) aa))) (aV (bA (cH aa (cH (sv 3) aH rfl) rfl)) aA rfl) rfl) rfl)
 exact aq
abbrev s31:Stmt:=top 40
noncomputable def b31:List S:=[.asg 2 (.bin .mul (.lst [⇑0]) ↑1),.iI (.rO ⇑0 (.blt .len [↑0])) [3] true [.xJ 2 (.bin .mod ↑3 ↑1) (.bin .add (.bin .mul (.idx ↑2 (.bin .mod ↑3 ↑1)) ⇑1000003) (.idx ↑0 ↑3))],.ret (.slice ↑2 (.con .non) (.blt .max2 [⇑1,.blt .min2 [.blt .len [↑0],↑1]]))]
def YX:Fd:=⟨2,4,b31⟩
theorem ac4:aL ["script","most","cells","k"] ["script","most"] (az s31):=nofun
include cl in
theorem d31(a:iD K "_law_folded" "_law_folded" s31 f fd)(bu:mg "len"=none)(gM:mg "max"=none)(fc:mg "min"=none)(aX:mg "range"=none):↥(["script","most"],2,YX):=by
 exists a,ac4,0,0;refine aO ?_ ?_;.exists 2,au cV (bA (cH aa aH rfl)) (sv 1)
 lia;.exists 3,iV rfl (by rfl) aX (dg rfl (by rfl) bu (sv 0)),0;(· lia;exact my (k:=2) rfl (by ac_rfl) (au fC (sv 3) (sv 1)) (au aP (au cV (ao (sv 2) (au fC (sv 3) (sv 1))) aa) (ao (sv 0) (sv 3)));exact aq)
 lia;.exists(),dh (sv 2) fG (dG (uf rfl hc (by rfl) gM (cH aa (cH (uC rfl hc (by rfl) fc (cH (dg rfl (by rfl) bu (sv 0)) (cH (sv 1) aH rfl) rfl)) aH rfl) rfl)))
 exact aq
abbrev s32:Stmt:=top 41
noncomputable def b32:List S:=[.iI (.call 31 [↑0,⇑6]) [1] true [.asg 2 (.call 19 [↑1]),.asg 3 (.call 22 [↑2,⇑12]),.ifs (.or (.not (.call 29 [↑2,↑3])) (.not (.call 30 [↑2,↑3]))) [.ret (.con (.bl false))] [],.Yu [4,5] (.call 16 [↑3,.call 21 [↑2,.bin .add (.call 23 [↑3]) ⇑1]]),.asg 6 (.idx (.lst [⇑1,.neg ⇑1,⇑1,.bin .pow ⇑10 ⇑28,.neg (.bin .pow ⇑10 ⇑9)]) (.call 20 [↑2,⇑5])),.ifs (.or (.not (.call 26 [↑3,↑4,↑5])) (.not (.call 26 [↑3,.bin .mul (.lst [⇑0]) (.blt .len [.idx ↑3 ⇑1]),.bin .mul (.lst [⇑0]) (.idx ↑3 ⇑0)]))) [.ret (.con (.bl false))] [],.ifs (.not (.blt .all [.comp (.call 27 [↑4,↑6]) 1 [7] true none (.call 26 [↑3,↑7,↑5])])) [.ret (.con (.bl false))] [],.ifs (.not (.blt .all [.comp (.call 27 [↑5,↑6]) 1 [7] true none (.call 26 [↑3,↑4,↑7])])) [.ret (.con (.bl false))] [],.ifs (.not (.call 26 [↑3,.call 28 [↑2,.blt .len [.idx ↑3 ⇑1]],↑5])) [.ret (.con (.bl false))] [],.ifs (.not (.call 26 [↑3,↑4,.bin .add (.lst [⇑0]) (.call 28 [↑2,.bin .sub (.idx ↑3 ⇑0) ⇑1])])) [.ret (.con (.bl false))] []],.ret (.con (.bl true))]
def Zk:Fd:=⟨1,7,b32⟩
theorem abK:aL ["script","cell","pool","net","stream","clocks","by"] ["script"] (az s32):=nofun
include cl in
theorem d32(g:iD K "law" "law" s32 f fd)(gR:mg "all"=none)(bu:mg "len"=none)(h:↥(29,"_law_back_right",2,0))(b:↥(27,"_law_changed",2,0))(e:↥(28,"_law_drawn",2,0))(j:↥(31,"_law_folded",2,0))(l:↥(30,"_law_full_right",2,0))(m:↥(23,"_law_most_rate",1,0))(o:↥(22,"_law_net",2,0))(p:↥(20,"_law_next",2,0))(q:↥(19,"_law_pool",1,0))(a:↥(26,"_law_right",3,0))(r:↥(21,"_law_wide",2,0))(sz:↥(16,"light_stream",2,0)):↥(["script"],1,Zk):=by
 exists g,abK,0,0;refine aO ?_ ?_;.exists 1,cP (dz j hr (aV (sv 0) (aV aa aA rfl) rfl)),0;(· lia;(· exists 2,dz q hr (aV (sv 1) aA rfl));(· lia;(· exists jw (i:=3) ?_ ?_ ?_ ?_ ?_ ?_;exact nd;exact rfl;exact Or.inr rfl;rotate_left;rfl;exact oi;exact dz o hr (aV (sv 2) (aV aa aA rfl) rfl));(· lia;(· exists fL ?_ ?_ ?_;exact SW.st (j9 (gZ (dZ (dz h hr (aV (sv 2) (aV (sv 3) aA rfl) rfl)))) (iR (gZ (dZ (dz l hr (aV (sv 2) (aV (sv 3) aA rfl) rfl))))));(· lia;(· exists(),fY);exact aq);exact aq);(· lia;exact Gk (dz sz hr (aV (sv 3) (aV (dz r hr (aV (sv 2) (aV (au aP (dz m hr (aV (sv 3) aA rfl)) aa) aA rfl) rfl)) aA rfl) rfl)) (gA hc (bh (aJ (i:=4) nd rfl (Or.inr rfl) (Or.inl rfl)) (bh (aJ (i:=5) nd rfl (Or.inr rfl) (Or.inl rfl)) eG))) (lG rfl (cY _ _ (cY _ _ iY 5) 4));(· lia;(· exists 6,ao (bA (cH aa (cH (iT aa) (cH aa (cH (au fZ aa aa) (cH (iT (au fZ aa aa)) aH rfl) rfl) rfl) rfl) rfl)) (dz p hr (aV (sv 2) (aV aa aA rfl) rfl)));(· lia;(· exists fL ?_ ?_ ?_;exact SW.st (j9 (gZ (dZ (dz a hr (aV (sv 3) (aV (sv 4) (aV (sv 5) aA rfl) rfl) rfl)))) (iR (gZ (dZ (dz a hr (aV (sv 3) (aV (au cV (bA (cH aa aH rfl)) (dg rfl (by rfl) bu (ao (sv 3) aa))) (aV (au cV (bA (cH aa aH rfl)) (ao (sv 3) aa)) aA rfl) rfl) rfl))))));(· lia;(· exists(),fY);exact aq);exact aq);(· lia;(· exists fL ?_ ?_ ?_;exact gZ (dZ (pY rfl hc (by rfl) gR (cJ (N':=["script","cell","pool","net","stream","clocks","by","row"]) hc (rE rfl (by rfl)) (cP (dz b hr (aV (sv 4) (aV (sv 6) aA rfl) rfl))) ⇑(aJ (i:=7) ‹["script","cell","pool","net","stream","clocks","by","row"]› rfl (Or.inl rfl) (Or.inr rfl)) (bG (dm)) ⇑(cG) ⇑((dz a hr (aV (sv 3) (aV (sv 7) (aV (sv 5) aA rfl) rfl) rfl))))));(· lia;(· exists(),fY);exact aq);exact aq);(· lia;(· exists fL ?_ ?_ ?_;exact gZ (dZ (pY rfl hc (by rfl) gR (cJ (N':=["script","cell","pool","net","stream","clocks","by","row"]) hc (rE rfl (by rfl)) (cP (dz b hr (aV (sv 5) (aV (sv 6) aA rfl) rfl))) ⇑(aJ (i:=7) ‹["script","cell","pool","net","stream","clocks","by","row"]› rfl (Or.inl rfl) (Or.inr rfl)) (bG (dm)) ⇑(cG) ⇑((dz a hr (aV (sv 3) (aV (sv 4) (aV (sv 7) aA rfl) rfl) rfl))))));(· lia;(· exists(),fY);exact aq);exact aq);(· lia;(· exists fL ?_ ?_ ?_;exact gZ (dZ (dz a hr (aV (sv 3) (aV (dz e hr (aV (sv 2) (aV (dg rfl (by rfl) bu (ao (sv 3) aa)) aA rfl) rfl)) (aV (sv 5) aA rfl) rfl) rfl)));(· lia;(· exists(),fY);exact aq);exact aq);(· lia;(· exists fL ?_ ?_ ?_;exact gZ (dZ (dz a hr (aV (sv 3) (aV (sv 4) (aV (au aP (bA (cH aa aH rfl)) (dz e hr (aV (sv 2) (aV (au cR (ao (sv 3) aa) aa) aA rfl) rfl))) aA rfl) rfl) rfl)));(· lia;(· exists(),fY);exact aq);exact aq);exact aq))))))))))
 lia;.exists(),fY
 exact aq
end T
end
noncomputable section
namespace T
open PySem L2 PySem.Spec PyProof.Rows HH
def Γ:Tab:=λi=>[f0,f1,f2,f3,f4,f5,f6,f7,f8,f9,Y9,f11,Z4,Y6,Vz,f15,ZS,f17,ZW,f19,ZF,Y0,Zd,f23,Zo,Ua,f26,f27,f28,ZP,YS,YX,Zk][i]?
end T
end
noncomputable section
namespace T
open HH
variable{w n j N k l i:Nat}{z m a b g p:Int}{Q:R->List Sl->Prop}{ds:List D}{f:Bool}{ch cl:List Int}{F q:Int->Int}
local macro_rules|`(tactic|symm)=>`(tactic|first|apply ak|apply Du)
abbrev big:Int:=1606938044258990275541962092341162602522202993782792835301376
theorem bH{x y:Int}(h0:0<m)(c:m<big)(k:∀d x z:Int,0<=d->d<m->Q (.val (.int d)) [.own true [.int x,.int y,.int z],.val false (.int m)]):(run Γ w (n+1) 20 [.own true [.int x,.int y,.int z],.val false (.int m)]).sat Q:=by
 have e:m<1606938044258990275541962092341162602522202993782792835301376:=c;refine aN (d:=ZF) rfl rfl (by decide) ?_;symm;simp[ZF];constructor;.intro _;symm;simp[h0];apply ak;simp[h0,e,iy];apply ak;simp;exact k _ _ _ (Int.emod_nonneg _ (by omega)) (Int.emod_lt_of_pos _ h0)
 . intro _;symm;simp[iy];apply ak;simp;generalize r:(y+7919*(z+1))%1000000007=q;have s:0<=q/\q<1000000007:=by omega
   have h:-18446744073709551616<q+11/\q+11<18446744073709551616:=by omega
   symm;simp[h];generalize hs:(q+11)*(q+48271)%998244353=st;have o:-18446744073709551616<st/\st<18446744073709551616:=by omega
   symm;simp[o,h0];exact k _ _ _ (Int.emod_nonneg _ (by omega)) (Int.emod_lt_of_pos _ h0)
theorem HR{x:Int}(k:∀a b c:Int,Q (.own [.int a,.int b,.int c]) [.val false (.int x)]):(run Γ w (n+1) 19 [.val false (.int x)]).sat Q:=by refine aN (d:=f19) rfl rfl (by decide) ?_;symm;simp[f19];exact k _ _ _
structure Wy where(s t r h:Int)
variable{ws:List Wy}{v:Wy}
def Wy.d(w:Wy):D:=.tup [.int w.s,.int w.t,.int w.r,.int w.h]
structure Wy.Ok(m:Int)(w:Wy):Prop where
 s0:0<=w.s
 s1:w.s<m
 t0:0<=w.t
 t1:w.t<m
 ne:w.s≠w.t
 r0:0<=w.r
 r1:w.r<=1000000000
 h0:1<=w.h
 h1:w.h<=1000000
theorem other(h1:0<=a)(c:a<m)(o:0<=b)(r:b<m-1):0<=(a+1+b)%m/\(a+1+b)%m<m/\(a+1+b)%m≠a:=by
 by_cases h:a+1+b<m;.rw[Int.emod_eq_of_lt (by omega) h];omega
 . have e:(a+1+b)%m=a+1+b-m:=by rw[<-Int.sub_emod_right,Int.emod_eq_of_lt (by omega) (by omega)]
   rw[e];omega
def aR(m:Int)(ws:List Wy):D:=.tup [.int m,.tup (ws.map Wy.d)]
structure dY(m:Int)(ws:List Wy):Prop where
 m0:2<=m
 m1:m<=6
 len:ws.length<=12
 ok:∀w∈ws,w.Ok m
@[simp]theorem aeX{m:Int}{ws:List Wy}:Eb (aR m ws) (.int 0)=some (.val (.int m)):=rfl
@[simp]theorem ae1{m:Int}{ws:List Wy}:Eb (aR m ws) (.int 1)=some (.val (.tup (ws.map Wy.d))):=rfl
theorem gU(h:a<=1000000000000000000000):a<big:=by show _<(1606938044258990275541962092341162602522202993782792835301376:Int);omega
theorem tO{ns:List Int}{i lo hi:Int}(h0:0<=i)(h1:i<(ns.length:Int))(k:∀x∈ns,lo<=x/\x<=hi):∃r,at' (ns.map D.int) i=some (.int r)/\lo<=r/\r<=hi:=by
 have c:i.toNat<ns.length:=by omega
 refine⟨ns[i.toNat],?_,k _ (getElem_mem c)⟩;rw[yW h0 (by simpa using h1)];simp[c]
theorem fP{x y:Int}(h0:0<m)(c:m<big)(k:∀d x z:Int,0<=d->d<m->Q (.val (.int d)) [.own true [.int x,.int y,.int z],.val false (.int m)]):(run Γ w (n+2) 21 [.own true [.int x,.int y,.int z],.val false (.int m)]).sat Q:=by refine aN (d:=Y0) rfl rfl (by decide) ?_;symm;simp[Y0];refine bH (by decide) (by decide) λa x z e h=>?_;simp;refine bH (by decide) (by decide) λb x z b0 b1=>?_;simp[h0];exact k _ _ _ (Int.emod_nonneg _ (by omega)) (Int.emod_lt_of_pos _ h0)
theorem qW{c:Type}{xs:List c}{lo hi:Option Int}:(cut xs lo hi).length<=xs.length:=by unfold cut;simp;omega
theorem pA{cs:List Int}{a b:Option Int}:cut (cs.map D.int) a b=(cut cs a b).map D.int:=by unfold cut;simp
theorem abv{b:XH}{ps:List P}{i:Int}:yK (.lst ds) (part (.con .non) .non) (part (.blt b ps) (.int i))=some (.own (cut ds none (some i))):=rfl
inductive WT(y m rr hh:Int)(i:Nat)(ρ:List Sl):Prop where|mk(x z:Int)(ws:List Wy)(s6 s7 s8:Sl)(q0:ρ=[.own true [.int x,.int y,.int z],.val false (.int 12),.val false (.int m),.val false (.int rr),.val false (.int hh),.own false (ws.map Wy.d),s6,s7,s8])(q1:A3 (fr s6=true) (fr s7=true) (fr s8=true))(q2:(∀v∈ws,v.Ok m))(q3:ws.length=i)
theorem K3{x y:Int}(k:∀(x z m:Int)(ws:List Wy),dY m ws->Q (.val (aR m ws)) [.own true [.int x,.int y,.int z],.val false (.int 12)]):(run Γ w (n+3) 22 [.own true [.int x,.int y,.int z],.val false (.int 12)]).sat Q:=by
 refine aN (d:=Zd) rfl rfl (by decide) ?_;symm;simp[Zd];refine bH (by decide) (by decide) λb x z b0 b1=>?_;obtain⟨m,L⟩:∃m,2+b=m:=⟨_,rfl⟩;simp[L];apply ak;simp;refine bH (by decide) (by decide) λe x z A B=>?_;obtain⟨p,ep,X,p1⟩:=tO (ns:=[4,3,8,1000000001]) (lo:=1) (hi:=1000000001) A (by simpa using B) (by simp);simp only[map_cons,map_nil]at ep;simp[ep];apply ak;simp;refine bH (by decide) (by decide) λe x z A B=>?_;obtain⟨l,I,Y,Z⟩:=tO (ns:=[3,5,4,1000000]) (lo:=1) (hi:=1000000) A (by simpa using B) (by simp);simp only[map_cons,map_nil]at I;simp[I];apply ak;simp;apply ak;simp;refine bH (by decide) (by decide) λc x z c0 c1=>?_;simp;refine bH (by decide) (by decide) λe x z A B=>?_;obtain⟨N,J,N0,N1⟩:=tO (ns:=[12,c]) (lo:=0) (hi:=12) A (by simpa using B) (by simp;omega);simp only[map_cons,map_nil]at J;simp[J,show N<=1000000000 by omega];refine⟨by omega,?_⟩;refine iH (WT y m p l) ?_ ?_ ⟨x,z,[],.aQ,.aQ,.aQ,rfl,⟨rfl,rfl,rfl⟩,by simp,rfl⟩
 . rintro i _ hi⟨x,z,ws,s6,s7,s8,rfl,⟨M,O,U⟩,G,W⟩;simp[M];apply ak;simp;refine bH (by omega) (gU (by omega)) λa x z t u=>?_;simp[O];apply ak;simp;refine bH (by omega) (gU (by omega)) λb x z b0 b1=>?_;obtain⟨C,E,o2⟩:=other t u b0 b1;simp[U,show 0<m by omega];generalize(a+1+b)%m=o at*;symm;simp;refine bH (by decide) (by decide) λc x z c0 c1=>?_;have put:∀{x z a o:Int},0<=a->a<m->0<=o->o<m->a≠o->∀r h:Int,0<=r->r<p->0<=h->h<l->WT y m p l (i+1) [.own true [.int x,.int y,.int z],.val false (.int 12),.val false (.int m),.val false (.int p),.val false (.int l),.own false (ws.map Wy.d++[.tup [.int a,.int o,.int r,.int (1+h)]]),.val false (.int i),.val false (.int a),.val false (.int o)]:=λ{x z a o}t u C E ne r h r0 r1 h0 h1=>by
    refine⟨x,z,ws++[⟨a,o,r,1+h⟩],_,_,_,by rw[map_append];rfl,⟨rfl,rfl,rfl⟩,λv hv=>?_,by simp;omega⟩;rcases mem_append.mp hv with hv|hv;.exact G v hv
    .rw[mem_singleton.mp hv];exact⟨t,u,C,E,ne,r0,by show r<=1000000000;omega,by show 1<=1+h;omega,by show 1+h<=1000000;omega⟩
   have s:ws.length<16777216:=by omega
   simp;refine⟨λ_=>?_,λ_=>?_⟩
   . symm;by_cases c:o<a
     . have H:¬ a<o:=by omega
       simp[c,H];apply ak;simp;refine fP (by omega) (gU (by omega)) λr x z r0 r1=>?_;simp;refine fP (by omega) (gU (by omega)) λh x z h0 h1=>?_;simp[s];exact put C E t u (by omega) r h r0 r1 h0 h1
     . have H:a<o:=by omega
       simp[c,H];apply ak;simp;refine fP (by omega) (gU (by omega)) λr x z r0 r1=>?_;simp;refine fP (by omega) (gU (by omega)) λh x z h0 h1=>?_;simp[s];exact put t u C E (by omega) r h r0 r1 h0 h1
   .symm;simp;refine fP (by omega) (gU (by omega)) λr x z r0 r1=>?_;simp;refine fP (by omega) (gU (by omega)) λh x z h0 h1=>?_;simp[s];exact put t u C E (by omega) r h r0 r1 h0 h1
 .rintro _⟨x,z,ws,s6,s7,s8,rfl,_,G,W⟩;symm;simp;exact k x z m ws ⟨by omega,by omega,by omega,G⟩
def fU(j:Nat)(f:Bool):D:=.tup [.int j,.bl f]
def frm(v:Wy)(f:Bool):Int:=if f then v.s else v.t
def too(v:Wy)(f:Bool):Int:=if f then v.t else v.s
theorem lr(e:ws[j]?=some v)(k:Q (.val (.tup [.int (frm v f),.int (too v f)])) [.val false (aR m ws),.val false (fU j f)]):(run Γ w (n+1) 0 [.val false (aR m ws),.val false (fU j f)]).sat Q:=by refine aN (d:=f0) rfl rfl (by decide) ?_;symm;simp[f0,fU,fX e];apply ak;cases f with|true=>simp[Wy.d];exact k|false=>simp[Wy.d];exact k
def hsp(v:Wy)(f:Bool):Int:=if f then v.h else-v.h
theorem CT(e:ws[j]?=some v)(k:Q (.val (.int (hsp v f))) [.val false (aR m ws),.val false (fU j f)]):(run Γ w (n+1) 1 [.val false (aR m ws),.val false (fU j f)]).sat Q:=by refine aN (d:=f1) rfl rfl (by decide) ?_;symm;simp[f1,fU,fX e,Wy.d];apply ak;cases f with|true=>simp;exact k|false=>simp;exact k
def Gn(s:Sl)(fs:List Int):Prop:=s=.val false (.lst (fs.map D.int))\/∃b,s=.own b (fs.map D.int)
def nT(v:Wy)(g:Int)(f:Bool):Int:=if f then v.r-g else g
theorem tQ{s:Sl}{fs:List Int}(hs:Gn s fs)(e:ws[j]?=some v)(c:fs[j]?=some g)(k:Q (.val (.int (nT v g f))) [.val false (aR m ws),s,.val false (fU j f)]):(run Γ w (n+1) 2 [.val false (aR m ws),s,.val false (fU j f)]).sat Q:=by refine aN (d:=f2) rfl rfl (by decide) ?_;symm;rcases hs with rfl|⟨b,rfl⟩;all_goals simp[f2,fU,fX c];apply ak;cases f with|true=>simp[fX e,Wy.d];exact k|false=>simp;exact k
@[simp]theorem ZJ{c:Call}{n x k:Nat}{src o:P}{t:List Nat}{one:Bool}{ρ:List Sl}:ex c n (.Jj x src k t one o) ρ=(srcOf (isVar src) (ev c src) ρ).bind λds e=>if ds.length<=lim then(gw t one (ev c o) ds [] (e++replicate k .aQ)).bind λr h=>(lift (put (aU ρ (isVar src) (h.take e.length)) x (.hold r)) ρ).bind λs _=>.ok .next s else .stuck:=(rfl)
@[simp]theorem Zi{c:Call}{n:Nat}{src:P}{h:List Nat}{one:Bool}{body:List S}{ρ:List Sl}:ex c n (.Eg src h one body) ρ=(ev c src ρ).bind λr e=>(lift (items r.d) e).bind λds e=>iZ h one (iJ c n body) ds e:=(rfl)
@[simp]theorem acH{c:Call}{n x:Nat}{ρ:List Sl}:ex c n (.cM x) ρ=match ρ[x]?with|some (.hold e)=>.ok .next (ρ.set x (.val false (.lst (e.map D.lst))))|_=>.stuck:=(rfl)
@[simp]theorem aaa{c:Call}{n x:Nat}{i e:P}{ρ:List Sl}:ex c n (.Jk x i e) ρ=(cW (isVar i) (ev c i) ρ).bind λk ρ=>(lift (um ρ x k) ρ).bind λ_ ρ=>(ev c e ρ).bind λr ρ=>Cw ρ x ((ji ρ x).bind λh=>(gn k).bind λk=>jr h k λrow=>if row.length<lim then some (row++[r.d])else none):=(rfl)
@[simp]theorem Zf{a:Sl}{l:List Sl}{x:Nat}:ji (a::l) x=match(a::l)[x]?with|some (.hold c)=>some c|_=>none:=rfl
@[simp]theorem Ut{ρ:List Sl}{x:Nat}{c:List (List D)}:Cw ρ x (some c)=.ok .next (ρ.set x (.hold c)):=rfl
@[simp]theorem adx{a:Sl}{l:List Sl}{x:Nat}{k:Int}:um (a::l) x (.int k)=match(a::l)[x]?with|some (.hold c)=>rowAt c k|_=>none:=by unfold um ji;cases h:(a::l)[x]?with|none=>rfl|some s=>cases s<;>rfl
theorem qj{A:List Nat}{one:Bool}{s:Ev}(J:List Sl->Prop)(g:D->List D){Q:List (List D)->List Sl->Prop}:∀{ds:List D}{c:List (List D)}{ρ:List Sl},J ρ->(∀d,d∈ds->∀ρ,J ρ->∃o,cI ρ A one d=some o/\(s o).sat λr t=>r=.own (g d)/\J t)->(∀ρ,J ρ->Q (c++ds.map g) ρ)->(gw A one s ds c ρ).sat Q|[],c,ρ,j,h,k=>by rw[IV];simpa using k ρ j|d::r,c,ρ,j,h,k=>by obtain⟨o,e,h1⟩:=h d (by simp) ρ j;rw[G9,e];show((s o).bind _).sat Q;rw[cA];refine h1.imp λx t⟨B,j3⟩=>?_;subst B;exact qj J g j3 (λd' u=>h d' (by simp[u])) λy C=>by simpa using k y C
@[simp]theorem abA{c:Call}{x:Nat}{k:P}{ρ:List Sl}:ev c (.Ot x k) ρ=match ρ[x]?with
 |some (.cN _)=>(cW (isVar k) (ev c k) ρ).bind λe ρ=>match ρ[x]?with|some (.cN kvs)=>lift ((gn e).bind λk=>(lD kvs k).map .val) ρ|_=>.stuck
 |_=>.stuck:=(rfl)
def oM(kvs:List (Int×D))(k:Int):Bool:=(kvs.map (·.1)).contains k
def CG(kvs:List (Int×D)):List Int:=kvs.map (·.1)
def ZG(kvs:List (Int×D)):List D:=kvs.map (·.2)
@[simp]theorem acx{c:Call}{x:Nat}{k:P}{neg:Bool}{ρ:List Sl}:ev c (.Ou x k neg) ρ=(cW (isVar k) (ev c k) ρ).bind λe ρ=>match ρ[x]?with|some (.cN kvs)=>lift ((gn e).map λk=>.val (.bl (if neg then !oM kvs k else oM kvs k))) ρ|_=>.stuck:=(rfl)
@[simp]theorem aab{c:Call}{k e:Int}{ρ:List Sl}:ev c (.zN k e) ρ=.ok (.val (.dv [k] [.int e])) ρ:=(rfl)
@[simp]theorem aeI{c:Call}{x:Nat}{ρ:List Sl}:ev c (.vw x) ρ=match ρ[x]?with|some (.tY m)=>.ok (.val (.dH m)) (ρ.set x (.val false (.dH m)))|some (.cN kvs)=>.ok (.val (.dv (CG kvs) (ZG kvs))) (ρ.set x (.val false (.dv (CG kvs) (ZG kvs))))|some (.own b ds)=>.ok (.val (.lst ds)) (ρ.set x (.val b (.lst ds)))|some (.val _ d)=>.ok (.val d) ρ|_=>.stuck:=(rfl)
@[simp]theorem Zw{c:Call}{n x:Nat}{ρ:List Sl}:ex c n (.Eh x) ρ=match ρ[x]?with|some .aQ=>.ok .next (ρ.set x (.cN []))|some (.cN _)=>.ok .next (ρ.set x (.cN []))|some (.val false _)=>.ok .next (ρ.set x (.cN []))|_=>.stuck:=(rfl)
@[simp]theorem YQ{c:Call}{n x:Nat}{k e:P}{ρ:List Sl}:ex c n (.gf x k e) ρ=(ev c e ρ).bind λr ρ=>match ρ[x]?with
 |some (.cN _)=>(cW (isVar k) (ev c k) ρ).bind λh ρ=>match ρ[x]?,h with|some (.cN kvs),.int k=>if kvs.length<lim then .ok .next (ρ.set x (.cN (gf kvs k r.d)))else .stuck|_,_=>.stuck
 |_=>.stuck:=(rfl)
@[simp]theorem ZR{c:Call}{n x:Nat}{i e:P}{sub:Bool}{ρ:List Sl}:ex c n (.Ji x i sub e) ρ=(lift (zx ρ x) ρ).bind λ_ ρ=>(cW (isVar i) (ev c i) ρ).bind λk ρ=>(lift (zx ρ x) ρ).bind λl ρ=>(lift ((gn k).bind λi=>at' l i) ρ).bind λa ρ=>(cW (isVar e) (ev c e) ρ).bind λb ρ=>match a,b,ρ[x]?,k with
 |.int u,.int v,some (.own h ds),.int k=>match iy ds.length k with|some j=>.ok .next (ρ.set x (.own h (ds.set j (.int (if sub then u-v else u+v)))))|none=>.stuck
 |_,_,_,_=>.stuck:=(rfl)
@[simp]theorem U9{x:Nat}{k:P}:isVar (.Ot x k)=none:=rfl
@[simp]theorem UJ{x:Nat}{k:P}{b:Bool}:isVar (.Ou x k b)=none:=rfl
@[simp]theorem XR{x:Nat}:isVar (.vw x)=none:=rfl
@[simp]theorem O4{k e:Int}:isVar (.zN k e)=none:=rfl
@[simp]theorem abW{kvs:List (Int×D)}:fr (.cN kvs)=false:=rfl
@[simp]theorem Zm{r:List (List D)}:fr (.hold r)=false:=rfl
@[simp]theorem WX:rJ .zM=BP:=rfl
@[simp]theorem Zz:rJ .din=v9 false:=rfl
@[simp]theorem VD{ks:List Int}{ds:List D}{k:Int}:BP (.dv ks ds) (.int k)=(lD (ks.zip ds) k).map .val:=rfl
@[simp]theorem Y7{ks:List Int}{ds:List D}{k:Int}:v9 false (.int k) (.dv ks ds)=some (.val (.bl (ks.contains k))):=rfl
@[simp]theorem Uy{ks:List Int}{ds:List D}:blt .keys [.dv ks ds]=some (.val (.tup (ks.map D.int))):=rfl
@[simp]theorem Zr{ks:List Int}{ds:List D}:blt .Vs [.dv ks ds]=if ks.length<=16777216 then some (.own (ks.map D.int))else none:=rfl
@[simp]theorem Z0{ds:List D}:blt .rvT [.lst ds]=some (.val (.tup ds.reverse)):=rfl
@[simp]theorem T7{kvs:List (Int×D)}{x:Option Sl}:dM (.cN kvs) x=.cN kvs:=by cases x<;>rfl
@[simp]theorem Rp{r:List (List D)}{x:Option Sl}:dM (.hold r) x=.hold r:=by cases x<;>rfl
structure HN(m:Int)(ws:List Wy):Prop where
 m0:2<=m
 m1:m<=6
 len:ws.length<=12
 ok:∀w∈ws,(0<=w.s/\w.s<m)/\(0<=w.t/\w.t<m)/\0<=w.h
theorem HN.of(h:dY m ws):HN m ws:=⟨h.m0,h.m1,h.len,λw c=>by have:=h.ok w c;exact⟨⟨this.s0,this.s1⟩,⟨this.t0,this.t1⟩,by have:=this.h0;omega⟩⟩
abbrev aC:=Nat×Bool
variable{s:aC}{x:Nat×(Option aC×Int)}{o:Option aC×Int}{K:aC->Prop}{c:List aC}{cs:List (List aC×Int)}
def sD(s:aC):D:=fU s.1 s.2
def j4(ws:List Wy)(fs:List Int)(p:Int)(s:aC):Bool:=match ws[s.1]?,fs[s.1]?with|some v,some g=>decide (frm v s.2=p)&&decide (0<nT v g s.2)|_,_=>false
theorem lC{fs:List Int}(e:ws[s.1]?=some v)(h:fs[s.1]?=some g):j4 ws fs p s=(decide (frm v s.2=p)&&decide (0<nT v g s.2)):=by unfold j4;rw[e,h]
def jm(ws:List Wy)(fs:List Int)(M:Nat)(l:List aC):List (List aC):=(List.range M).map λ(p:Nat)=>l.filter (j4 ws fs (p:Int))
def rD(l:List (List aC)):List (List D):=l.map λr=>r.map sD
def gY(N:Nat):List aC:=(List.range N).flatMap λj=>[(j,true),(j,false)]
theorem sE:gY (N+1)=(gY N++[(N,true)])++[(N,false)]:=by simp[gY,List.range_succ]
theorem vW:(gY N).length=2*N:=by induction N with|zero=>rfl|succ N e=>rw[sE];simp[e];omega
theorem Qm(h:HN m ws)(e:ws[j]?=some v)(f:Bool):0<=frm v f/\frm v f<m:=by have:=h.ok v (mem_of_getElem? e);cases f<;>simp only[frm]<;>simp<;>omega
theorem GD(h:HN m ws)(e:ws[j]?=some v)(f:Bool):0<=too v f/\too v f<m:=by have:=h.ok v (mem_of_getElem? e);cases f<;>simp only[too]<;>simp<;>omega
theorem Fp{fs:List Int}{M:Nat}{l:List aC}(e:ws[s.1]?=some v)(r:fs[s.1]?=some g)(h:¬ 0<nT v g s.2):jm ws fs M (l++[s])=jm ws fs M l:=by unfold jm;refine map_congr_left λp _=>?_;rw[List.filter_append];simp[lC e r,h]
theorem JT{fs:List Int}{l:List aC}(e:ws[s.1]?=some v)(t:fs[s.1]?=some g)(h:0<nT v g s.2)(u:0<=frm v s.2/\frm v s.2<m)(C:l.length<1000):(∃row,rowAt (rD (jm ws fs m.toNat l)) (frm v s.2)=some row)/\jr (rD (jm ws fs m.toNat l)) (frm v s.2) (λrow=>if row.length<lim then some (row++[sD s])else none)=some (rD (jm ws fs m.toNat (l++[s]))):=by
 have r:(rD (jm ws fs m.toNat l)).length=m.toNat:=by simp[rD,jm]
 have y:iy (rD (jm ws fs m.toNat l)).length (frm v s.2)=some (frm v s.2).toNat:=by unfold iy;rw[r,if_pos u.1,if_pos (by omega)]
 have A:(rD (jm ws fs m.toNat l))[(frm v s.2).toNat]?=some ((l.filter (j4 ws fs (frm v s.2))).map sD):=by simp[rD,jm,show(frm v s.2).toNat<m.toNat by omega,Int.toNat_of_nonneg u.1]
 refine⟨⟨_,by unfold rowAt;rw[y];exact A⟩,?_⟩;unfold jr;rw[y];show((rD (jm ws fs m.toNat l))[(frm v s.2).toNat]?).bind _=_;rw[A];have B:((l.filter (j4 ws fs (frm v s.2))).map sD).length<lim:=by have:=List.length_filter_le (j4 ws fs (frm v s.2)) l;rw[length_map];show _<16777216;omega
 show Option.map _ (if _ then _ else _)=_;rw[if_pos B];show some _=some _;congr 1;refine List.ext_getElem (by simp[rD,jm]) λi E G=>?_;rw[List.getElem_set];by_cases c:(frm v s.2).toNat=i
 . rw[if_pos c];have:(i:Int)=frm v s.2:=by omega
   simp[rD,jm,this,List.filter_append,lC e t,h]
 . rw[if_neg c];have:¬ frm v s.2=(i:Int):=by omega
   simp[rD,jm,List.filter_append,lC e t,this]
inductive JOp(m:Int)(ws:List Wy)(fs:List Int)(s:Sl)(i:Nat)(ρ:List Sl):Prop where|mk(s3 s4:Sl)(q0:ρ=[.val false (aR m ws),s,.hold (rD (jm ws fs m.toNat (gY i))),s3,s4])(q1:fr s3=true)(q2:fr s4=true)
inductive JOq(m:Int)(ws:List Wy)(fs:List Int)(s:Sl)(i:Nat)(r:List D)(ρ:List Sl):Prop where|mk(l us:List aC)(s4:Sl)(q0:ρ=[.val false (aR m ws),s,.hold (rD (jm ws fs m.toNat l)),.val false (.int i),s4])(q1:fr s4=true)(q2:r=us.map sD)(q3:l++us=gY (i+1))(q4:∀u∈us,u.1=i)
inductive F1n(a b c d e:Sl)(ρ:List Sl):Prop where|mk(s:Sl)(q0:ρ=[a,b,c,d,e,s])(q1:fr s=true)
theorem Iz{s:Sl}{fs:List Int}(hs:Gn s fs)(h:HN m ws)(X:fs.length=ws.length)(k:Q (.val (.lst ((rD (jm ws fs m.toNat (gY ws.length))).map D.lst))) [.val false (aR m ws),s]):(run Γ w (n+2) 3 [.val false (aR m ws),s]).sat Q:=by
 have Y:=h.len;have m0:=h.m0;have m1:=h.m1;refine aN (d:=f3) rfl rfl (by decide) ?_;refine cU (λρ=>ρ=[.val false (aR m ws),s,.hold (rD (jm ws fs m.toNat (gY 0))),.aQ,.aQ]) ?_ ?_
 . simp[f3,show m<=1000000000 by omega,show-1000000000<=m by omega];refine⟨λ_=>?_,by omega⟩;rw[cA];refine qj (F1n _ _ _ _ _) (λ_=>[]) ⟨.aQ,rfl,rfl⟩ ?_ ?_;.rintro d hd _⟨M,rfl,y⟩;simp[y];exact⟨_,rfl,rfl⟩
   .rintro _⟨M,rfl,y⟩;simp[rD,jm,gY]
 rintro _ rfl;refine cU (JOp m ws fs s ws.length) ?_ ?_
 . simp[show(ws.length:Int)<=1000000000 by omega];refine iH (JOp m ws fs s) ?_ ?_ ⟨.aQ,.aQ,rfl,rfl,rfl⟩
   . rintro i _ hi⟨s3,s4,rfl,E,t⟩;have H:i<fs.length:=by omega
     have A:ws[i]?=some ws[i]:=by simp[hi]
     have I:fs[i]?=some fs[i]:=by simp[H]
     generalize ws[i]=v at*;generalize fs[i]=g at*;simp[E];apply ak;simp;refine cL (JOq m ws fs s i) ?_ ?_ ⟨gY i,[(i,true),(i,false)],s4,rfl,t,rfl,by rw[sE];simp,by simp⟩;.rintro d r _⟨l,e,s4,rfl,t,hr,B,G⟩;cases e with|nil=>cases hr|cons u e=>
         obtain⟨rfl,rfl⟩:d=sD u/\r=e.map sD:=by simpa using hr
         obtain rfl:=G u (by simp);have C:(l++[u])++e=gY (u.1+1):=by rw[append_assoc];exact B
         have J:l.length<1000:=by have:=congrArg List.length B;rw[vW]at this;simp at this;omega
         simp[t];apply ak;rcases hs with rfl|⟨b,rfl⟩;all_goals
          simp[sD];refine tQ (by first|exact .inl rfl|exact .inr ⟨_,rfl⟩) A I ?_;simp;refine⟨λho=>?_,λho=>?_⟩;.obtain⟨⟨row,O⟩,U⟩:=JT (ws:=ws) (fs:=fs) (l:=l) A I ho (Qm h A u.2) J;symm;simp;refine lr A ?_;simp[O];have W:jr (rD (jm ws fs m.toNat l)) (frm v u.2) (λrow=>if row.length<lim then some (row++[fU u.1 u.2])else none)=_:=U;rw[W];simp;exact⟨l++[u],e,_,rfl,rfl,rfl,C,λx L=>G x (by simp[L])⟩
          .exact⟨l++[u],e,_,by rw[Fp A I (by omega)],rfl,rfl,C,λx L=>G x (by simp[L])⟩
     . rintro _⟨l,e,s4,rfl,t,hr,B,G⟩;have:e=[]:=by cases e with|nil=>rfl|cons _ _=>cases hr
       subst this;rw[append_nil]at B;subst B;simp;exact⟨_,_,rfl,rfl,t⟩
   .rintro _⟨s3,s4,rfl,E,t⟩;exact⟨rfl,_,_,rfl,E,t⟩
 rintro _⟨s3,s4,rfl,E,t⟩;symm;simp;apply ak;simp;exact k
abbrev En:=Int×Nat×(Option aC×Int)
variable{es ud:List En}
def oS:Option aC->D|none=>.non|some s=>sD s
def yU(e:En):D:=.tup [.int e.2.2.2,.int (e.2.1:Int),oS e.2.2.1]
def en(e:En):Int×D:=(e.1,yU e)
def jN(es:List En):D:=.dv (es.map (·.1)) (es.map yU)
def yr(p:Int):Int×D:=(p,.bl true)
@[simp]theorem S9{l:List Int}:CG (l.map yr)=l:=by simp[CG,yr,Function.comp_def]
theorem zr{l:List En}:CG (l.map en)=l.map (·.1):=by simp[CG,en,Function.comp_def]
theorem zE{l:List En}:oM (l.map en) p=true↔∃n o,(p,n,o)∈l:=by show(CG (l.map en)).contains p=true↔_;rw[zr];simp
theorem kin_no{l:List En}(h:¬ ∃n o,(p,n,o)∈l):oM (l.map en) p=false:=by cases e:oM (l.map en) p with|false=>rfl|true=>exact absurd (zE.mp e) h
theorem vd{t:Type}{p:Int}{x y:t}:∀{l:List (Int×t)},(l.map (·.1)).Nodup->(p,x)∈l->(p,y)∈l->x=y
 |[],_,h,_=>by cases h|e::l,r,h1,h2=>by
   rw[map_cons,nodup_cons]at r;rcases mem_cons.mp h1 with h1|h1<;>rcases mem_cons.mp h2 with h2|h2;.rw[<-h2]at h1;cases h1;rfl
   .exact absurd (mem_map.mpr ⟨_,h2,by rw[<-h1]⟩) r.1
   .exact absurd (mem_map.mpr ⟨_,h1,by rw[<-h2]⟩) r.1
   .exact vd r.2 h1 h2
theorem oZ{p:Int}{x:Nat×(Option aC×Int)}:∀{l:List En},(l.map (·.1)).Nodup->(p,x)∈l->lD (l.map en) p=some (yU (p,x))
 |[],_,h=>by cases h|e::l,r,h=>by
   have t:=r;rw[map_cons,nodup_cons]at r;unfold lD;rw[map_cons,find?_cons];by_cases c:e.1=p;.obtain⟨q,y⟩:=e;cases c;have:=vd t h (by simp:(q,y)∈(q,y)::l);subst this;simp[en]
   . have h':(p,x)∈l:=by
      rcases mem_cons.mp h with h|h;.exact absurd (by rw[<-h]) c
      .exact h
     simp[en,c];have:=oZ r.2 h';unfold lD at this;simpa[en]using this
theorem lN{kvs:List (Int×D)}{d:D}(h:oM kvs p=false):gf kvs p d=kvs++[(p,d)]:=by
 unfold gf;rw[if_neg];intro r;obtain⟨x,t,e⟩:=List.any_eq_true.mp r;have:oM kvs p=true:=by show(kvs.map (·.1)).contains p=true;rw[contains_iff_mem];exact mem_map.mpr ⟨x,t,by simpa using e⟩
 rw[this]at h;cases h
theorem wZ{kvs:List (Int×D)}{d:D}(h:oM kvs p=true):gf kvs p d=kvs.map λe=>if e.1=p then(p,d)else e:=by
 unfold gf;rw[if_pos]
 . refine map_congr_left λe _=>?_;by_cases c:e.1=p;.simp[c]
   .simp[c]
 .have h':(kvs.map (·.1)).contains p=true:=h;rw[contains_iff_mem]at h';obtain⟨x,r,e⟩:=mem_map.mp h';exact List.any_eq_true.mpr ⟨x,r,by simpa using e⟩
def vX(p:Int)(x:Nat×(Option aC×Int))(e:En):En:=if e.1=p then(p,x)else e
def oJ(es:List En)(p:Int)(x:Nat×(Option aC×Int)):List En:=if p∈es.map (·.1)then es.map (vX p x)else es++[(p,x)]
def pH(ch:List Int)(p:Int):List Int:=if p∈ch then ch else ch++[p]
theorem Kr:gf (es.map en) p (yU (p,x))=(oJ es p x).map en:=by
 have h:oM (es.map en) p=true↔p∈es.map (·.1):=by show(CG (es.map en)).contains p=true↔_;rw[zr,contains_iff_mem]
 unfold oJ;by_cases c:p∈es.map (·.1)
 . rw[if_pos c,wZ (h.mpr c),map_map,map_map];refine map_congr_left λe _=>?_;show(if e.1=p then _ else _)=en (vX p x e);unfold vX;by_cases z:e.1=p;.rw[if_pos z,if_pos z];rfl
   .rw[if_neg z,if_neg z]
 .rw[if_neg c,lN (by cases e:oM (es.map en) p with|false=>rfl|true=>exact absurd (h.mp e) c)];simp[en]
theorem Lg:gf (ch.map yr) p (.bl true)=(pH ch p).map yr:=by
 have h:oM (ch.map yr) p=true↔p∈ch:=by show(CG (ch.map yr)).contains p=true↔_;rw[S9,contains_iff_mem]
 unfold pH;by_cases c:p∈ch
 . rw[if_pos c,wZ (h.mpr c),map_map];refine map_congr_left λe _=>?_;show(if e=p then _ else _)=yr e;by_cases z:e=p;.rw[if_pos z,z];rfl
   .rw[if_neg z]
 .rw[if_neg c,lN (by cases e:oM (ch.map yr) p with|false=>rfl|true=>exact absurd (h.mp e) c)];simp[yr]
theorem xq{q:Int}:q∈pH ch p↔q∈ch\/q=p:=by
 unfold pH;split;.exact⟨.inl,λh=>h.elim id λe=>by rw[e];assumption⟩
 .simp
theorem Bj(h:ch.Nodup):(pH ch p).Nodup:=by
 unfold pH;split;.exact h
 .rename_i r;rw[nodup_append];exact⟨h,by simp,λa t b u e=>r (by rw[<-mem_singleton.mp u,<-e];exact t)⟩
theorem Ea:(oJ es p x).map (·.1)=pH (es.map (·.1)) p:=by
 unfold oJ pH;split
 . rw[map_map];refine map_congr_left λe _=>?_;show(vX p x e).1=e.1;unfold vX;split;.rename_i h;exact h.symm
   .rfl
 .simp
theorem gk{q:Int}{y:Nat×(Option aC×Int)}:(q,y)∈oJ es p x↔(q=p/\y=x)\/(q≠p/\(q,y)∈es):=by
 unfold oJ;split
 . rename_i r;obtain⟨C,t,u⟩:=mem_map.mp r;rw[mem_map];constructor
   . rintro⟨e,he,h⟩;unfold vX at h;split at h;.cases h;exact .inl ⟨rfl,rfl⟩
     .rename_i A;subst h;exact .inr ⟨A,he⟩
   . rintro(⟨rfl,rfl⟩|⟨h1,B⟩);.exact⟨C,t,by unfold vX;rw[if_pos u]⟩
     .exact⟨_,B,by unfold vX;rw[if_neg h1]⟩
 . rename_i r;rw[mem_append,mem_singleton];constructor
   . rintro(h|h);.refine .inr ⟨λe=>r ?_,h⟩;rw[<-e];exact mem_map.mpr ⟨_,h,rfl⟩
     .cases h;exact .inl ⟨rfl,rfl⟩
   . rintro(⟨rfl,rfl⟩|⟨_,B⟩);.exact .inr rfl
     .exact .inl B
theorem qu{h:Type}[BEq h][LawfulBEq h]:∀{l l2:List h},l.Nodup->(∀a∈l,a∈l2)->l.length<=l2.length
 |[],_,_,_=>BZ|a::l,l2,y,hs=>by
   have t:=hs a (by simp);have e:=nodup_cons.mp y;have:=qu (l:=l) (l2:=l2.erase a) e.2 λb u=>by
    have r:b≠a:=by rintro rfl;exact e.1 u
    exact(List.mem_erase_of_ne r).mpr (hs b (by simp[u]))
   rw[List.length_erase_of_mem t]at this;have:=List.length_pos_of_mem t;simp only[length_cons];omega
theorem six{l:List Int}(m1:m<=6)(e:l.Nodup)(h:∀p∈l,0<=p/\p<m):l.length<=6:=by
 have:=qu (l2:=[0,1,2,3,4,5]) e λq r=>by
  have:=h q r;have:q=0\/q=1\/q=2\/q=3\/q=4\/q=5:=by omega
  simpa using this
 simpa using this
theorem p7{fs:List Int}(h:j4 ws fs p s=true):∃v g,ws[s.1]?=some v/\fs[s.1]?=some g/\frm v s.2=p/\0<nT v g s.2:=by
 unfold j4 at h;split at h;.rename_i v g e r;simp at h;exact⟨v,g,e,r,h.1,h.2⟩
 .cases h
theorem wV(h:s.1<N):s∈gY N:=by unfold gY;rw[List.mem_flatMap];refine⟨s.1,by simp[h],?_⟩;obtain⟨j,f⟩:=s;cases f<;>simp
def ik(ws:List Wy)(b:Int):List aC->Int->Prop|[],a=>a=b|s::c,a=>∃v,ws[s.1]?=some v/\frm v s.2=a/\ik ws b c (too v s.2)
def hst(ws:List Wy)(s:aC):Int:=match ws[s.1]?with|some v=>hsp v s.2|none=>0
theorem jC(e:ws[s.1]?=some v):hst ws s=hsp v s.2:=by unfold hst;rw[e]
def dw(ws:List Wy):List aC->Int|[]=>0|s::c=>hst ws s+dw ws c
theorem jW{ws:List Wy}{c2:List aC}:∀{c1:List aC},dw ws (c1++c2)=dw ws c1+dw ws c2|[]=>by simp[dw]|s::c=>by rw[cons_append,dw,jW,dw];omega
def rM(ws:List Wy)(fs:List Int)(c:List aC):Prop:=∀s∈c,∃v,ws[s.1]?=some v/\j4 ws fs (frm v s.2) s=true
theorem ik.app{ws:List Wy}{b q:Int}{c2:List aC}(r:ik ws b c2 q):∀{c1:List aC}{a:Int},ik ws q c1 a->ik ws b (c1++c2) a|[],a,h=>by have:a=q:=h;rw[this];exact r|s::c,a,⟨v,e,t,h⟩=>⟨v,e,t,ik.app r h⟩
theorem Al{ws:List Wy}{b:Int}{c2:List aC}:∀{c1:List aC}{a:Int},ik ws b (c1++c2) a->∃q,ik ws q c1 a/\ik ws b c2 q|[],a,h=>⟨a,rfl,h⟩|s::c,a,⟨v,e,r,h⟩=>by obtain⟨q,h1,t⟩:=Al (c1:=c) h;exact⟨q,⟨v,e,r,h1⟩,t⟩
def Pt(ws:List Wy)(fs:List Int)(F:Int->Int):Prop:=∀(s:aC)(v:Wy),ws[s.1]?=some v->j4 ws fs (frm v s.2) s=true->F (too v s.2)<=F (frm v s.2)+hsp v s.2
theorem lA{ws:List Wy}{fs:List Int}{F:Int->Int}(h:Pt ws fs F){b:Int}:∀{c:List aC}{a:Int},ik ws b c a->rM ws fs c->F b<=F a+dw ws c|[],a,r,_=>by have:a=b:=r;rw[this,dw];omega|s::c,a,⟨v,e,y,r⟩,ho=>by have h1:=lA h r λu A=>ho u (mem_cons_of_mem _ A);obtain⟨C,t,o⟩:=ho s (by simp);rw[e]at t;cases t;have B:=h s v e o;rw[y]at B;rw[dw,jC e];omega
def qC(ws:List Wy)(s:aC):Int:=match ws[s.1]?with|some v=>too v s.2|none=>0
def qM(ws:List Wy):List aC->Int->List Int|[],a=>[a]|s::c,a=>a::qM ws c (qC ws s)
theorem Aa{ws:List Wy}:∀{c:List aC}{a:Int},(qM ws c a).length=c.length+1|[],_=>rfl|s::c,a=>by rw[qM,length_cons,Aa];rfl
theorem Fe{m:Int}{ws:List Wy}{b:Int}(r:HN m ws):∀{c:List aC}{a:Int},ik ws b c a->0<=a/\a<m->∀q∈qM ws c a,0<=q/\q<m
 |[],a,_,h,q,hq=>by rw[qM,mem_singleton]at hq;rw[hq];exact h|s::c,a,⟨v,e,u,t⟩,h,q,hq=>by
   rw[qM,mem_cons]at hq;rcases hq with rfl|hq;.exact h
   . have:qC ws s=too v s.2:=by unfold qC;rw[e]
     rw[this]at hq;exact Fe r t (GD r e s.2) q hq
theorem BK{ws:List Wy}{b q:Int}:∀{c:List aC}{a:Int},ik ws b c a->q∈qM ws c a->∃c1 c2,c=c1++c2/\ik ws q c1 a/\ik ws b c2 q
 |[],a,h,hq=>by rw[qM,mem_singleton]at hq;exact⟨[],[],rfl,hq.symm,by rw[hq];exact h⟩|s::c,a,h,hq=>by
   rw[qM,mem_cons]at hq;rcases hq with rfl|hq;.exact⟨[],s::c,rfl,rfl,h⟩
   . obtain⟨v,e,r,t⟩:=h;have:qC ws s=too v s.2:=by unfold qC;rw[e]
     rw[this]at hq;obtain⟨c1,c2,rfl,h1,u⟩:=BK t hq;exact⟨s::c1,c2,rfl,⟨v,e,r,h1⟩,u⟩
theorem Bx{ws:List Wy}{b:Int}:∀{c:List aC}{a:Int},ik ws b c a->¬(qM ws c a).Nodup->∃c1 c2 c3 q,c=c1++(c2++c3)/\0<c2.length/\ik ws q c1 a/\ik ws q c2 q/\ik ws b c3 q
 |[],a,_,h=>absurd (by simp[qM]) h|s::c,a,⟨v,e,t,u⟩,h=>by
   have A:qC ws s=too v s.2:=by unfold qC;rw[e]
   rw[qM,A,nodup_cons]at h;by_cases y:a∈qM ws c (too v s.2);.obtain⟨c1,c2,rfl,h1,r⟩:=BK u y;exact⟨[],s::c1,c2,a,rfl,by simp,rfl,⟨v,e,t,h1⟩,r⟩
   .obtain⟨c1,c2,c3,q,rfl,h0,h1,r,B⟩:=Bx u λz=>h ⟨y,z⟩;exact⟨s::c1,c2,c3,q,rfl,h0,⟨v,e,t,h1⟩,r,B⟩
def Le(h:Int)(n:Nat)(h':Int)(e:Nat):Prop:=h<h'\/(h=h'/\n<=e)
theorem Le.refl{h:Int}:Le h n h n:=.inr ⟨rfl,dm⟩
theorem Le.trans{c:Int}(h1:Le a k b l)(e:Le b l c n):Le a k c n:=by unfold Le at*;omega
theorem Le.add(x:Int)(h1:Le a k b l):Le (a+x) (k+1) (b+x) (l+1):=by unfold Le at*;omega
theorem short{fs:List Int}(y:HN m ws)(h:Pt ws fs F)(A:0<=a/\a<m):∀(n:Nat){c:List aC},c.length<=n->ik ws b c a->rM ws fs c->∃e,ik ws b e a/\rM ws fs e/\e.length<=5/\Le (dw ws e) e.length (dw ws c) c.length/\(qM ws e a).Nodup:=by
 intro n;have done:∀{c:List aC},ik ws b c a->(qM ws c a).Nodup->c.length<=5:=λr t=>by have:=six y.m1 t (Fe y r A);rw[Aa]at this;omega
 induction n with|zero=>intro c hc r ho;have:c=[]:=List.eq_nil_of_length_eq_zero (by omega);subst this;exact⟨[],r,ho,by simp,.refl,by simp[qM]⟩|succ n B=>
   intro c hc r ho;by_cases t:(qM ws c a).Nodup;.exact⟨c,r,ho,done r t,.refl,t⟩
   .obtain⟨c1,c2,c3,q,rfl,h0,h1,C,E⟩:=Bx r t;have u:rM ws fs c2:=λs hs=>ho s (by simp[hs]);have hr:=lA h C u;simp only[length_append]at hc;obtain⟨e,G,H,I,J,L⟩:=B (c:=c1++c3) (by simp only[length_append];omega) (ik.app E h1) λs hs=>ho s (by rcases mem_append.mp hs with hs|hs<;>simp[hs]);refine⟨e,G,H,I,J.trans ?_,L⟩;rw[jW,jW,jW];simp only[length_append];unfold Le;omega
structure DG(m:Int)(ws:List Wy)(fs:List Int)(bs:List (Int×Int))(es:List En):Prop where
 nd:(es.map (·.1)).Nodup
 YF:∀p l o,(p,l,o)∈es->0<=p/\p<m
 z:(0,0,(none,0))∈es
 wk:∀p l o,(p,l,o)∈es->∃a b c,(a,b)∈bs/\ik ws p c a/\rM ws fs c/\c.length=l/\b+dw ws c=o.2
 stp:∀p l o,(p,l,o)∈es->(o.1=none/\(p,o.2)∈bs/\l=0)\/∃(s:aC)(v:Wy)(l':Nat)(o':Option aC×Int),o.1=some s/\ws[s.1]?=some v/\too v s.2=p/\j4 ws fs (frm v s.2) s=true/\(frm v s.2,l',o')∈es/\Le (o'.2+hsp v s.2) (l'+1) o.2 l
theorem DG.len{fs:List Int}{bs:List (Int×Int)}(h:DG m ws fs bs es)(m1:m<=6):es.length<=6:=by
 have:=six m1 h.nd λp e=>by obtain⟨⟨p,l,o⟩,he,rfl⟩:=mem_map.mp e;exact h.YF p l o he
 simpa using this
theorem jB{l:List En}{a b:Nat}{u:Option aC×Int}(e:(l.map (·.1)).Nodup)(h1:(p,a,o)∈l)(h:(p,b,u)∈l):a=b/\o=u:=by have:=vd e h1 h;cases this;exact⟨rfl,rfl⟩
def At(es:List En)(p h:Int)(n:Nat):Prop:=∃l o,(p,l,o)∈es/\Le o.2 l h n
theorem At.le{h h':Int}{e:Nat}(a:At es p h n)(z:Le h n h' e):At es p h' e:=by obtain⟨l,o,h1,r⟩:=a;exact⟨l,o,h1,r.trans z⟩
structure Wh(m:Int)(ws:List Wy)(fs:List Int)(bs:List (Int×Int))(n:Nat)(R:List Int)(es:List En):Prop where
 cm:DG m ws fs bs es
 row:∀p∈R,∃l o,(p,l,o)∈es
 nr:R.Nodup
 wl:∀a b c p,(a,b)∈bs->ik ws p c a->rM ws fs c->c.length<=n->At es p (b+dw ws c) c.length
 cl:∀l o(s:aC)v,ws[s.1]?=some v->frm v s.2∉R->(frm v s.2,l,o)∈es->j4 ws fs (frm v s.2) s=true->At es (too v s.2) (o.2+hsp v s.2) (l+1)few:6<=n->R=[]
structure In(m:Int)(ws:List Wy)(fs:List Int)(bs:List (Int×Int))(n:Nat)(R:List Int)(ud:List En)(K:aC->Prop)(es:List En)(ch:List Int):Prop where
 wh:Wh m ws fs bs n R ud
 cm:DG m ws fs bs es
 le:∀p l o,(p,l,o)∈ud->At es p o.2 l
 out:∀p l o,p∉ch->(p,l,o)∈es->(p,l,o)∈ud
 chg:∀p∈ch,∃l o,(p,l,o)∈es
 nc:ch.Nodup
 dn:∀s,K s->∀v,ws[s.1]?=some v->∀l o,(frm v s.2,l,o)∈ud->At es (too v s.2) (o.2+hsp v s.2) (l+1)few:5<=n->ch=[]
theorem In.row{m:Int}{ws:List Wy}{fs:List Int}{bs:List (Int×Int)}{n:Nat}{R:List Int}{ud:List En}{K:aC->Prop}{es:List En}{ch:List Int}(h:In m ws fs bs n R ud K es ch){p:Int}(e:p∈R):∃l o,(p,l,o)∈es:=by obtain⟨l,o,z⟩:=h.wh.row p e;obtain⟨l,o,z,_⟩:=h.le _ _ _ z;exact⟨l,o,z⟩
theorem In.keep{fs:List Int}{bs:List (Int×Int)}{R:List Int}(h:In m ws fs bs n R ud K es ch)(e:ws[s.1]?=some v)(y:(frm v s.2,l,o)∈es)(A:At es (too v s.2) (o.2+hsp v s.2) (l+1)):In m ws fs bs n R ud (λu=>K u\/u=s) es ch:=by
 refine⟨h.wh,h.cm,h.le,h.out,h.chg,h.nc,λu r=>?_,h.few⟩;rcases r with r|rfl;.exact h.dn u r
 .intro E t G H h0;rw[e]at t;cases t;obtain⟨I,J,B,C⟩:=h.le _ _ _ h0;obtain⟨rfl,rfl⟩:=jB h.cm.nd y B;exact A.le (C.add _)
theorem In.put{fs:List Int}{bs:List (Int×Int)}{R:List Int}(h:In m ws fs bs n R ud K es ch)(J:HN m ws)(hF:Pt ws fs F)(hb:∀a b,(a,b)∈bs->0<=a/\a<m)(hZ:∀a b c,(a,b)∈bs->ik ws 0 c a->rM ws fs c->0<=b+dw ws c)(e:ws[s.1]?=some v)(L:(frm v s.2,l,o)∈es)(ho:j4 ws fs (frm v s.2) s=true)(M:¬ At es (too v s.2) (o.2+hsp v s.2) (l+1)):In m ws fs bs n R ud (λu=>K u\/u=s) (oJ es (too v s.2) (l+1,(some s,o.2+hsp v s.2))) (pH ch (too v s.2)):=by
 have m0:=J.m0;obtain⟨C,b0,c,c0,c1,c2,c3,c4⟩:=h.cm.wk _ _ _ L;have G:ik ws (too v s.2) (c++[s]) C:=ik.app (c2:=[s]) ⟨v,e,rfl,rfl⟩ c1;have O:rM ws fs (c++[s]):=λu hu=>by
  rcases mem_append.mp hu with hu|hu;.exact c2 u hu
  .rw[mem_singleton.mp hu];exact⟨v,e,ho⟩
 have Z:(c++[s]).length=l+1:=by simp[c3]
 have U:b0+dw ws (c++[s])=o.2+hsp v s.2:=by rw[jW,<-c4,dw,dw,jC e];omega
 have t:(too v s.2,l+1,(some s,o.2+hsp v s.2))∈oJ es (too v s.2) (l+1,(some s,o.2+hsp v s.2)):=gk.mpr (.inl ⟨rfl,rfl⟩);have mono:∀{q l2 r},(q,l2,r)∈es->At (oJ es (too v s.2) (l+1,(some s,o.2+hsp v s.2))) q r.2 l2:=λ{q l2 r}z=>by
  by_cases c:q=too v s.2;.subst c;refine⟨_,_,t,?_⟩;have:¬ Le r.2 l2 (o.2+hsp v s.2) (l+1):=λy=>M ⟨_,_,z,y⟩;unfold Le at this ⊢;simp only;omega
  .exact⟨l2,r,gk.mpr (.inr ⟨c,z⟩),.refl⟩
 have OJ:∀{q h n},At es q h n->At (oJ es (too v s.2) (l+1,(some s,o.2+hsp v s.2))) q h n:=λ⟨l2,r,E,W⟩=>(mono E).le W;refine⟨h.wh,⟨by rw[Ea];exact Bj h.cm.nd,λp l o z=>?_,?_,λp l2 r z=>?_,λp l2 r z=>?_⟩,λp l o z=>OJ (h.le p l o z),λp l o hc z=>?_,λp hc=>?_,Bj h.nc,λu hu=>?_,λh5=>?_⟩
 . rcases gk.mp z with⟨rfl,_⟩|⟨_,z⟩;.exact GD J e s.2
   .exact h.cm.YF p l o z
 .refine gk.mpr (.inr ⟨λz=>M ?_,h.cm.z⟩);have:=hZ C b0 _ c0 (by rw[<-z]at G;exact G) O;rw[U]at this;rw[<-z];exact⟨_,_,h.cm.z,by unfold Le;simp only;omega⟩
 . rcases gk.mp z with⟨rfl,y⟩|⟨_,z⟩;.cases y;exact⟨C,b0,_,c0,G,O,Z,U⟩
   .exact h.cm.wk p l2 r z
 . rcases gk.mp z with⟨rfl,y⟩|⟨_,z⟩;.cases y;obtain⟨l',o',A,B⟩:=mono L;exact .inr ⟨s,v,l',o',rfl,e,rfl,ho,A,B.add _⟩
   . rcases h.cm.stp p l2 r z with z|⟨s',H,l',o',E,z3,z4,z5,z6,z7⟩;.exact .inl z
     .obtain⟨X,Y,A,B⟩:=mono z6;exact .inr ⟨s',H,X,Y,E,z3,z4,z5,A,(B.add _).trans z7⟩
 . rw[xq,not_or]at hc;rcases gk.mp z with⟨rfl,_⟩|⟨_,z⟩;.exact absurd rfl hc.2
   .exact h.out p l o hc.1 z
 . rcases xq.mp hc with hc|rfl;.obtain⟨l2,r,z⟩:=h.chg p hc;obtain⟨X,Y,z,_⟩:=mono z;exact⟨X,Y,z⟩
   .exact⟨_,_,t⟩
 . rcases hu with hu|rfl;.exact λH I l0 o0 h0=>OJ (h.dn u hu H I l0 o0 h0)
   .intro H I l0 o0 h0;rw[e]at I;cases I;obtain⟨l1,o1,A,B⟩:=h.le _ _ _ h0;obtain⟨rfl,rfl⟩:=jB h.cm.nd L A;exact⟨_,_,t,B.add _⟩
 .obtain⟨c',A,B,q3,q4,_⟩:=short J hF (hb C b0 c0) _ (dm) G O;obtain⟨l1,o1,E,W⟩:=h.wh.wl C b0 c' _ c0 A B (by omega);rw[Z]at q4;refine absurd ((h.le _ _ _ E).le (W.trans ?_)) M;rw[<-U];unfold Le at q4 ⊢;omega
def bE(p:Int×Int):En:=(p.1,0,(none,p.2))
theorem Wh.start{fs:List Int}{bs:List (Int×Int)}(y:∀a b,(a,b)∈bs->0<=a/\a<m)(h0:(0,0)∈bs)(u:(bs.map (·.1)).Nodup):Wh m ws fs bs 0 (bs.map (·.1)) (bs.map bE):=by
 have A:(bs.map bE).map (·.1)=bs.map (·.1):=by rw[map_map];rfl
 have un:∀{p l o},(p,l,o)∈bs.map bE->l=0/\o.1=none/\(p,o.2)∈bs:=λ{p l o}z=>by obtain⟨⟨a,b⟩,h1,e⟩:=mem_map.mp z;cases e;exact⟨rfl,rfl,h1⟩
 have to:∀{a b},(a,b)∈bs->(a,0,(none,b))∈bs.map bE:=λh=>mem_map.mpr ⟨_,h,rfl⟩;refine⟨⟨by rw[A];exact u,λp l o z=>y _ _ (un z).2.2,to h0,λp l o z=>?_,λp l o z=>.inl ⟨(un z).2.1,(un z).2.2,(un z).1⟩⟩,λp r=>?_,u,λa b c p t r _ hc=>?_,λl o s v _ B z=>?_,λh=>by omega⟩;.exact⟨p,o.2,[],(un z).2.2,rfl,λs hs=>(by cases hs),(un z).1.symm,by rw[dw];omega⟩
 .obtain⟨⟨a,b⟩,h1,rfl⟩:=mem_map.mp r;exact⟨_,_,to h1⟩
 .cases c with|nil=>have:a=p:=r;subst this;exact⟨0,(none,b),to t,by unfold Le dw;simp⟩|cons _ _=>simp at hc
 .exact absurd (mem_map.mpr ⟨_,(un z).2.2,rfl⟩) B
theorem Wh.to{fs:List Int}{bs:List (Int×Int)}{R:List Int}(h:Wh m ws fs bs n R es):In m ws fs bs n R es (λ_=>False) es []:=⟨h,h.cm,λp l o z=>⟨l,o,z,.refl⟩,λp l o _ z=>z,λp e=>(by cases e),.nil,λs hs=>hs.elim,λ_=>rfl⟩
theorem In.out'{fs:List Int}{bs:List (Int×Int)}{R:List Int}(h:In m ws fs bs n R ud (λs=>∃p∈R,j4 ws fs p s=true) es ch):Wh m ws fs bs (n+1) ch es:=by
 have r:∀{p h' k},At ud p h' k->At es p h' k:=λ⟨l,o,y,A⟩=>(h.le _ _ _ y).le A;have E:∀(s:aC)v l o,ws[s.1]?=some v->(frm v s.2,l,o)∈ud->j4 ws fs (frm v s.2) s=true->At es (too v s.2) (o.2+hsp v s.2) (l+1):=λs v l o e z ho=>by
  by_cases c:frm v s.2∈R;.exact h.dn s ⟨_,c,ho⟩ v e l o z
  .exact r (h.wh.cl l o s v e c z ho)
 refine⟨h.cm,h.chg,h.nc,λa b c p t G ho hc=>?_,λl o s v e hc z hs=>E s v l o e (h.out _ _ _ hc z) hs,λM=>h.few (by omega)⟩;rcases List.eq_nil_or_concat c with rfl|⟨B,s,rfl⟩;.exact r (h.wh.wl a b [] p t G ho (BZ))
 . rw[List.concat_eq_append]at*;obtain⟨q,h1,v,e,rfl,C⟩:=Al G;have C:too v s.2=p:=C;subst C;obtain⟨O,H,I⟩:=ho s (by simp);rw[e]at H;cases H;simp only[length_append,length_cons,length_nil]at hc;obtain⟨l,o,y,A⟩:=h.wh.wl a b B _ t h1 (λu J=>ho u (by simp[J])) (by omega);refine(E s v l o e y I).le ?_;have:=A.add (hsp v s.2);have L:dw ws (B++[s])=dw ws B+hsp v s.2:=by rw[jW,dw,dw,jC e];omega
   rw[L,<-Int.add_assoc];simpa using this
structure xg(m:Int)(ws:List Wy)(fs:List Int)(bs:List (Int×Int))(es:List En):Prop where
 cm:DG m ws fs bs es
 cl:∀l o(s:aC)v,ws[s.1]?=some v->(frm v s.2,l,o)∈es->j4 ws fs (frm v s.2) s=true->At es (too v s.2) (o.2+hsp v s.2) (l+1)bg:∀a b,(a,b)∈bs->At es a b 0
theorem Wh.fin{fs:List Int}{bs:List (Int×Int)}(h:Wh m ws fs bs n [] es):xg m ws fs bs es:=⟨h.cm,λl o s v e z ho=>h.cl l o s v e (by simp) z ho,λa b r=>by have:=h.wl a b [] a r rfl (λs hs=>by cases hs) (BZ);simpa[dw]using this⟩
abbrev Cme(m:Int)(ws:List Wy)(fs:List Int)(es:List En):Prop:=DG m ws fs [(0,0)] es
abbrev jf(m:Int)(ws:List Wy)(fs:List Int)(es:List En):Prop:=xg m ws fs [(0,0)] es
theorem In.imp{fs:List Int}{bs:List (Int×Int)}{R:List Int}{e:aC->Prop}(h:In m ws fs bs n R ud K es ch)(z:∀s,e s->K s):In m ws fs bs n R ud e es ch:=⟨h.wh,h.cm,h.le,h.out,h.chg,h.nc,λs hs=>h.dn s (z s hs),h.few⟩
theorem PN{fs:List Int}{l:List aC}(e:0<=p/\p<m):at' ((rD (jm ws fs m.toNat l)).map D.lst) p=some (.lst ((l.filter (j4 ws fs p)).map sD)):=by rw[yW e.1 (by simp[rD,jm];omega)];simp[rD,jm,show p.toNat<m.toNat by omega,Int.toNat_of_nonneg e.1]
@[simp]theorem cut3{a b c:D}:yK (.tup [a,b,c]) (part (.con .non) .non) (part (.con (.int 2)) (.int 2))=some (.val (.tup [a,b])):=rfl
theorem SN{i j:Int}:cm .lt (.tup [.int a,.int i]) (.tup [.int b,.int j])=some (cZ [a,i] [b,j]):=rfl
theorem lex_lt:cZ [a,(i:Int)] [b,(j:Int)]=true↔¬ Le b j a i:=by unfold Le;simp[cZ];omega
def vA(bs:List (Int×Int)):Sl:=.val false (.dv (bs.map (·.1)) (bs.map λp=>.int p.2))
abbrev bg:Sl:=vA [(0,0)]
inductive JC2(m:Int)(ws:List Wy)(fs:List Int)(bs:List (Int×Int))(a0 a1 a2 a3 a6:Sl)(n:Nat)(R:List Int)(ud:List En)(pre:List Int)(p:Int)(r:List D)(ρ:List Sl):Prop where|mk(es:List En)(ch:List Int)(bV us:List aC)(s8 s9 rF:Sl)(q0:ρ=[a0,a1,a2,a3,.cN (es.map en),.val false (.int p),a6,.cN (ch.map yr),s8,s9,rF])(q1:A3 (fr s8=true) (fr s9=true) (fr rF=true))(q2:r=us.map sD)(q3:bV++us=(gY ws.length).filter (j4 ws fs p))(q4:In m ws fs bs n R ud (λs=>(∃q∈pre,j4 ws fs q s=true)\/s∈bV) es ch)
inductive JC1(m:Int)(ws:List Wy)(fs:List Int)(bs:List (Int×Int))(a0 a1 a2 a3 a6:Sl)(n:Nat)(R:List Int)(ud:List En)(r:List D)(ρ:List Sl):Prop where|mk(es:List En)(ch pre qs:List Int)(s5 s8 s9 rF:Sl)(q0:ρ=[a0,a1,a2,a3,.cN (es.map en),s5,a6,.cN (ch.map yr),s8,s9,rF])(q1:A4 (fr s5=true) (fr s8=true) (fr s9=true) (fr rF=true))(q2:r=qs.map D.int)(q3:pre++qs=R)(q4:In m ws fs bs n R ud (λs=>∃q∈pre,j4 ws fs q s=true) es ch)
inductive JCw(m:Int)(ws:List Wy)(fs:List Int)(bs:List (Int×Int))(a0 a1 a2 a3:Sl)(M:Nat)(ρ:List Sl):Prop where|mk(n:Nat)(R:List Int)(es:List En)(s5 s7 s8 s9 rF:Sl)(q0:ρ=[a0,a1,a2,a3,.cN (es.map en),s5,.own false (R.map D.int),s7,s8,s9,rF])(q1:A4 (fr s5=true) (fr s8=true) (fr s9=true) (fr rF=true))(q2:(s7=.aQ\/∃d,s7=.val false d))(q3:Wh m ws fs bs n R es)(q4:7<=n+M)
inductive JC0(a0 a1 a2 a3:Sl)(bs:List (Int×Int))(r:List D)(ρ:List Sl):Prop where|mk(bV us:List (Int×Int))(s5:Sl)(q0:ρ=[a0,a1,a2,a3,.cN ((bV.map bE).map en),s5,.aQ,.aQ,.aQ,.aQ,.aQ])(q1:fr s5=true)(q2:r=(us.map (·.1)).map D.int)(q3:bV++us=bs)
theorem Bc{a b:Int}:∀{bs:List (Int×Int)},(bs.map (·.1)).Nodup->(a,b)∈bs->lD ((bs.map (·.1)).zip (bs.map λp=>D.int p.2)) a=some (.int b)
 |[],_,h=>by cases h|p::bs,e,h=>by
   rw[map_cons,nodup_cons]at e;unfold lD;rw[map_cons,map_cons,List.zip_cons_cons,find?_cons];rcases mem_cons.mp h with h|h;.subst h;simp
   .have r:p.1≠a:=λz=>e.1 (by rw[z];exact mem_map.mpr ⟨_,h,rfl⟩);have:=Bc e.2 h;unfold lD at this;simpa[r]using this
theorem tD{s:Sl}{fs:List Int}{bs:List (Int×Int)}(hw:100<=w)(hF:Pt ws fs F)(hb:∀a b,(a,b)∈bs->0<=a/\a<m)(h0:(0,0)∈bs)(J:(bs.map (·.1)).Nodup)(hZ:∀a b c,(a,b)∈bs->ik ws 0 c a->rM ws fs c->0<=b+dw ws c)(hs:Gn s fs)(h:HN m ws)(hf:fs.length=ws.length)(k:∀es,xg m ws fs bs es->Q (.val (jN es)) [.val false (aR m ws),s,vA bs]):(run Γ w (n+3) 4 [.val false (aR m ws),s,vA bs]).sat Q:=by
 have hn:=h.len;have m0:=h.m0;have m1:=h.m1;refine aN (d:=f4) rfl rfl (by decide) ?_;refine cU (λρ=>ρ=[.val false (aR m ws),s,vA bs,.val false (.lst ((rD (jm ws fs m.toNat (gY ws.length))).map D.lst)),.aQ,.aQ,.aQ,.aQ,.aQ,.aQ,.aQ]) ?_ ?_;.have ap:=hs;rcases hs with rfl|⟨b,rfl⟩;all_goals simp[f4,vA];refine Iz (by first|exact .inl rfl|exact .inr ⟨_,rfl⟩) h hf ?_;simp
 rintro _ rfl;generalize hA:((rD (jm ws fs m.toNat (gY ws.length))).map D.lst)=A;have ar:bs.length<=6:=by
  have:=six m1 J λp hp=>by obtain⟨⟨a,b⟩,h1,rfl⟩:=mem_map.mp hp;exact hb a b h1
  simpa using this
 apply ak;simp;apply ak;simp[vA];refine cL (JC0 (.val false (aR m ws)) s (vA bs) (.val false (.lst A)) bs) ?_ ?_ ⟨[],bs,.aQ,rfl,rfl,by rw[map_map],rfl⟩;.rintro d r _⟨G,C,s5,rfl,U,hr,hd⟩;cases C with|nil=>cases hr|cons u C=>
     obtain⟨rfl,rfl⟩:d=.int u.1/\r=(C.map (·.1)).map D.int:=by simpa using hr
     have ag:(G++[u])++C=bs:=by rw[append_assoc];exact hd
     have hg:=Bc (a:=u.1) (b:=u.2) J (by rw[<-hd];simp);have hk:oM ((G.map bE).map en) u.1=false:=kin_no λ⟨l,o,z⟩=>by obtain⟨⟨a,b⟩,h1,e⟩:=mem_map.mp z;cases e;rw[<-hd,map_append,nodup_append]at J;exact J.2.2 u.1 (mem_map.mpr ⟨_,h1,rfl⟩) u.1 (by simp) rfl
     have hp:gf ((G.map bE).map en) u.1 (.tup [.int u.2,.int 0,.non])=((G++[u]).map bE).map en:=by rw[lN hk,map_append,map_append];rfl
     have av:G.length<=bs.length:=by rw[<-hd];simp
     simp[U];apply ak;rw[map_map]at hp;simp[vA,hg];refine⟨λ_=>⟨G++[u],C,.val false (.int u.1),by rw[hp],rfl,(map_map ..).symm,ag⟩,by show _<16777216;omega⟩
 rintro _⟨G,C,s5,rfl,U,hr,hd⟩;have:C=[]:=by cases C with|nil=>rfl|cons _ _=>cases hr
 subst this;rw[append_nil]at hd;obtain rfl:bs=G:=hd.symm;simp;apply ak;simp[vA,show bs.length<=16777216 by omega];apply ak;simp;rw[show map (en ∘ bE) bs=(bs.map bE).map en from(map_map ..).symm,show map (D.int ∘ λx=>x.1) bs=(bs.map (·.1)).map D.int from(map_map ..).symm];refine jD (JCw m ws fs bs _ _ _ _) ?_ (k:=w) (m:=50) (by omega) ⟨0,bs.map (·.1),bs.map bE,s5,.aQ,.aQ,.aQ,.aQ,rfl,⟨U,rfl,rfl,rfl⟩,.inl rfl,Wh.start hb h0 J,by omega⟩;rintro M _⟨n',R,es,s5,s7,s8,s9,rF,rfl,⟨U,W,X,E⟩,h7,hW,hM⟩;by_cases hR:R=[];.subst hR;simp;apply ak;simp;have:=k es hW.fin;simp[Function.comp_def,en];exact this
 . have ah:0<R.length:=by cases R with|nil=>exact absurd rfl hR|cons _ _=>simp
   simp[ah];refine cU (λρ=>ρ=[.val false (aR m ws),s,vA bs,.val false (.lst A),.cN (es.map en),s5,.own false (R.map D.int),.cN [],s8,s9,rF]) ?_ ?_
   . rcases h7 with rfl|⟨d,rfl⟩;.simp[vA]
     .simp[vA]
   rintro _ rfl;symm;simp;refine cL (JC1 m ws fs bs _ _ _ _ _ n' R es) ?_ ?_ ⟨es,[],[],R,s5,s8,s9,rF,rfl,⟨U,W,X,E⟩,rfl,rfl,hW.to.imp λs hs=>by obtain⟨q,hq,_⟩:=hs;cases hq⟩;.rintro d r _⟨t,ch,pre,qs,s5,s8,s9,rF,rfl,⟨U,W,X,E⟩,hr,L,B⟩;cases qs with|nil=>cases hr|cons p qs=>
       obtain⟨rfl,rfl⟩:d=.int p/\r=qs.map D.int:=by simpa using hr
       have af:p∈R:=by rw[<-L];simp
       have ai:0<=p/\p<m:=by obtain⟨l,o,ho⟩:=B.row af;exact B.cm.YF _ _ _ ho
       have Z:=PN (ws:=ws) (fs:=fs) (l:=gY ws.length) ai;rw[hA]at Z;simp[U];apply ak;simp[Z];refine cL (JC2 m ws fs bs _ _ _ _ _ n' R es pre p) ?_ ?_ ⟨t,ch,[],_,s8,s9,rF,rfl,⟨W,X,E⟩,rfl,rfl,B.imp λs hs=>by rcases hs with hs|hs;exact hs;cases hs⟩;.rintro d r _⟨t,ch,G,C,s8,s9,rF,rfl,⟨W,X,E⟩,hr,O,B⟩;cases C with|nil=>cases hr|cons u C=>
           obtain⟨rfl,rfl⟩:d=sD u/\r=C.map sD:=by simpa using hr
           have hu:j4 ws fs p u=true:=by
            have:u∈(gY ws.length).filter (j4 ws fs p):=by rw[<-O];simp
            exact(mem_filter.mp this).2
           obtain⟨v,g,e1,e2,e3,e4⟩:=p7 hu;have YG:(G++[u])++C=(gY ws.length).filter (j4 ws fs p):=by rw[append_assoc];exact O
           obtain⟨I,op,ac⟩:=B.row af;subst e3;have gp:=oZ B.cm.nd ac;have am:=B.cm.len m1;have al:ch.length<=6:=six m1 B.nc λq hq=>by obtain⟨l,o,z⟩:=B.chg q hq;exact B.cm.YF _ _ _ z
           have YH:∀s,((∃q∈pre,j4 ws fs q s=true)\/s∈G++[u])->((∃q∈pre,j4 ws fs q s=true)\/s∈G)\/s=u:=λs hs=>by
            rcases hs with hs|hs;.exact .inl (.inl hs)
            . rcases mem_append.mp hs with hs|hs;.exact .inl (.inr hs)
              .exact .inr (by simpa using hs)
           simp[W];apply ak;simp[sD];refine lr e1 ?_;simp[X];apply ak;simp[gp,yU];refine CT e1 ?_;simp[gp,yU,E];apply ak;have keep:At t (too v u.2) (op.2+hsp v u.2) (I+1)->JC2 m ws fs bs (.val false (aR m ws)) s (vA bs) (.val false (.lst A)) (.lent (R.map D.int)) n' R es pre (frm v u.2) (C.map sD) [.val false (aR m ws),s,vA bs,.val false (.lst A),.cN (t.map en),.val false (.int (frm v u.2)),.lent (R.map D.int),.cN (ch.map yr),.val false (fU u.1 u.2),.val false (.int (too v u.2)),.val false (.tup [.int (op.2+hsp v u.2),.int ((I:Int)+1)])]:=λH=>⟨t,ch,G++[u],C,_,_,_,rfl,⟨rfl,rfl,rfl⟩,rfl,YG,(B.keep e1 ac H).imp YH⟩;have YJ:¬ At t (too v u.2) (op.2+hsp v u.2) (I+1)->JC2 m ws fs bs (.val false (aR m ws)) s (vA bs) (.val false (.lst A)) (.lent (R.map D.int)) n' R es pre (frm v u.2) (C.map sD) [.val false (aR m ws),s,vA bs,.val false (.lst A),.cN ((oJ t (too v u.2) (I+1,(some u,op.2+hsp v u.2))).map en),.val false (.int (frm v u.2)),.lent (R.map D.int),.cN ((pH ch (too v u.2)).map yr),.val false (fU u.1 u.2),.val false (.int (too v u.2)),.val false (.tup [.int (op.2+hsp v u.2),.int ((I:Int)+1)])]:=λH=>⟨_,_,G++[u],C,_,_,_,rfl,⟨rfl,rfl,rfl⟩,rfl,YG,(B.put h hF hb hZ e1 ac hu H).imp YH⟩;have p1:gf (t.map en) (too v u.2) (.tup [.int (op.2+hsp v u.2),.int ((I:Int)+1),fU u.1 u.2])=(oJ t (too v u.2) (I+1,(some u,op.2+hsp v u.2))).map en:=by rw[<-Kr];simp[yU,oS,sD]
           have p2:gf (ch.map yr) (too v u.2) (.bl true)=(pH ch (too v u.2)).map yr:=Lg;by_cases hq:∃l o,(too v u.2,l,o)∈t
           . obtain⟨l,o,Y⟩:=hq;have gt:=oZ B.cm.nd Y;have kt:oM (t.map en) (too v u.2)=true:=zE.mpr ⟨l,o,Y⟩;have ae:=lex_lt (a:=op.2+hsp v u.2) (i:=I+1) (b:=o.2) (j:=l);rw[show((I+1:Nat):Int)=(I:Int)+1 by omega]at ae;simp[kt,gt,yU,SN];refine⟨λz=>?_,λz=>?_⟩
             . have H:¬ At t (too v u.2) (op.2+hsp v u.2) (I+1):=λ⟨l2,o2,y1,y2⟩=>by obtain⟨rfl,rfl⟩:=jB B.cm.nd Y y1;exact ae.mp z y2
               symm;simp[p1];refine⟨by decide,λ_=>?_,by show _<16777216;omega⟩;symm;simp[p2];refine⟨λ_=>YJ H,by show _<16777216;omega⟩
             . have H:At t (too v u.2) (op.2+hsp v u.2) (I+1):=by
                refine⟨l,o,Y,?_⟩;by_cases y:Le o.2 l (op.2+hsp v u.2) (I+1);.exact y
                .rw[ae.mpr y]at z;cases z
               exact keep H
           .have kt:oM (t.map en) (too v u.2)=false:=kin_no hq;simp[kt];apply ak;simp[p1];refine⟨by decide,λ_=>?_,by show _<16777216;omega⟩;symm;simp[p2];exact⟨λ_=>YJ λ⟨l2,o2,y1,_⟩=>hq ⟨l2,o2,y1⟩,by show _<16777216;omega⟩
       . rintro _⟨t,ch,G,C,s8,s9,rF,rfl,⟨W,X,E⟩,hr,O,B⟩;have:C=[]:=by cases C with|nil=>rfl|cons _ _=>cases hr
         subst this;rw[append_nil]at O;simp;refine⟨t,ch,pre++[p],qs,_,_,_,_,rfl,⟨rfl,W,X,E⟩,rfl,by rw[append_assoc];exact L,B.imp λs hs=>?_⟩;obtain⟨q,hq,hs⟩:=hs;rcases mem_append.mp hq with hq|hq;.exact .inl ⟨q,hq,hs⟩
         . obtain rfl:q=p:=by simpa using hq
           refine .inr ?_;rw[O];obtain⟨v,g,e1,_⟩:=p7 hs;exact mem_filter.mpr ⟨wV (eX e1).1,hs⟩
   . rintro _⟨t,ch,pre,qs,s5,s8,s9,rF,rfl,⟨U,W,X,E⟩,hr,L,B⟩;have:qs=[]:=by cases qs with|nil=>rfl|cons _ _=>cases hr
     subst this;rw[append_nil]at L;subst L;have al:ch.length<=6:=six m1 B.nc λq hq=>by obtain⟨l,o,z⟩:=B.chg q hq;exact B.cm.YF _ _ _ z
     have hO:=B.out';have aw:n'<6:=by
      by_cases c:6<=n';.exact absurd (hW.few c) hR
      .omega
     simp;apply ak;simp[show ch.length<=16777216 by omega];exact⟨M-1,by omega,n'+1,ch,t,_,_,_,_,_,rfl,⟨U,W,X,E⟩,.inr ⟨_,rfl⟩,hO,by omega⟩
theorem vK{s:Sl}{fs:List Int}(t:100<=w)(r:Pt ws fs F)(hs:Gn s fs)(h:HN m ws)(u:fs.length=ws.length)(k:∀es,jf m ws fs es->Q (.val (jN es)) [.val false (aR m ws),s,bg]):(run Γ w (n+3) 4 [.val false (aR m ws),s,bg]).sat Q:=by
 have m0:=h.m0;have one:∀{a b:Int},(a,b)∈[((0:Int),(0:Int))]->a=0/\b=0:=λe=>by have:=mem_singleton.mp e;cases this;exact⟨rfl,rfl⟩
 refine tD t r (λa b e=>by obtain⟨rfl,rfl⟩:=one e;omega) (by simp) (by simp) (λa b c e y ho=>?_) hs h u k;obtain⟨rfl,rfl⟩:=one e;have:=lA r y ho;omega
theorem jf.all{m:Int}{ws:List Wy}{fs:List Int}{es:List En}(h:jf m ws fs es){b:Int}:∀{c:List aC}{a:Int}{l:Nat}{o:Option aC×Int},ik ws b c a->rM ws fs c->(a,l,o)∈es->At es b (o.2+dw ws c) (l+c.length)|[],a,l,o,r,_,z=>by have:a=b:=r;subst this;exact⟨l,o,z,by unfold Le dw;simp⟩|s::c,a,l,o,⟨v,e,y,r⟩,ho,z=>by subst y;obtain⟨I,t,A⟩:=ho s (by simp);rw[e]at t;cases t;obtain⟨J,L,B,M⟩:=h.cl l o s v e z A;obtain⟨l2,C,E,G⟩:=jf.all h r (λu H=>ho u (mem_cons_of_mem _ H)) B;refine⟨l2,C,E,G.trans ?_⟩;rw[dw,jC e,length_cons];unfold Le at*;omega
theorem jf.l5{fs:List Int}(h:jf m ws fs es)(r:HN m ws)(t:Pt ws fs F)(z:(p,l,o)∈es):l<=5:=by
 have m0:=r.m0;obtain⟨a,b,c,e,c1,c2,c3,c4⟩:=h.cm.wk p l o z;obtain⟨rfl,rfl⟩:a=0/\b=0:=by have:=mem_singleton.mp e;cases this;exact⟨rfl,rfl⟩
 obtain⟨E,u,y,G,A,_⟩:=short r t ⟨by omega,by omega⟩ _ (dm) c1 c2;obtain⟨l2,H,B,C⟩:=h.all u y h.cm.z;obtain⟨rfl,rfl⟩:=jB h.cm.nd z B;rw[Int.zero_add]at c4;rw[c3,c4]at A;unfold Le at*;simp only at C;omega
theorem jf.on{fs:List Int}(h:jf m ws fs es)(z:(p,l,o)∈es):(o=(none,0)/\p=0/\l=0)\/∃(s:aC)(v:Wy)(r:Nat)(e:Option aC×Int),o=(some s,e.2+hsp v s.2)/\l=r+1/\ws[s.1]?=some v/\too v s.2=p/\j4 ws fs (frm v s.2) s=true/\(frm v s.2,r,e)∈es:=by
 rcases h.cm.stp p l o z with⟨h1,t,rfl⟩|⟨s,v,r,e,h1,u,rfl,y,A,C⟩
 . obtain⟨rfl,_⟩:p=0/\o.2=0:=by have:=mem_singleton.mp t;exact⟨congrArg Prod.fst this,congrArg Prod.snd this⟩
   exact .inl ⟨(jB h.cm.nd z h.cm.z).2,rfl,rfl⟩
 . obtain⟨l2,E,B,G⟩:=h.cl r e s v u A y;obtain⟨rfl,rfl⟩:=jB h.cm.nd z B;refine .inr ⟨s,v,r,e,?_,?_,u,rfl,y,A⟩;.exact Prod.ext_iff.mpr ⟨h1,by show _=e.2+hsp v s.2;unfold Le at*;omega⟩
   .unfold Le at*;omega
structure Nt(ws:List Wy)(fs:List Int)(es:List En)(p:Int)(L:Nat)(H:Int)(a:Int)(l:Nat)(h:Int)(c:List aC):Prop where
 Jr:ik ws p c a
 jm:rM ws fs c
 nd:(c.map (·.1)).Nodup
 lv:∀s∈c,∀v,ws[s.1]?=some v->∃l1 o1 o2,(frm v s.2,l1,o1)∈es/\(too v s.2,l1+1,o2)∈es/\l<=l1
 len:c.length+l=L
 hrs:dw ws c+h=H
theorem jX{g:Bool}(h:g≠f):frm v g=too v f/\too v g=frm v f:=by cases f<;>cases g<;>first|exact absurd rfl h|exact⟨rfl,rfl⟩
theorem Nt.cons{m:Int}{ws:List Wy}{fs:List Int}{es:List En}{p:Int}{L l:Nat}{H x:Int}{c:List aC}{s:aC}{v:Wy}{o G:Option aC×Int}(hc:Cme m ws fs es)(h:Nt ws fs es p L H (too v s.2) (l+1) (x+hsp v s.2) c)(e:ws[s.1]?=some v)(h1:(too v s.2,l+1,o)∈es)(A:(frm v s.2,l,G)∈es)(ho:j4 ws fs (frm v s.2) s=true):Nt ws fs es p L H (frm v s.2) l x (s::c):=by
 refine⟨⟨v,e,rfl,h.Jr⟩,λu hu=>?_,?_,λu hu x ex=>?_,by have:=h.len;simp only[length_cons];omega,by have:=h.hrs;rw[dw,jC e];omega⟩
 . rcases mem_cons.mp hu with rfl|hu;.exact⟨v,e,ho⟩
   .exact h.jm u hu
 . rw[map_cons,nodup_cons];refine⟨λI=>?_,h.nd⟩;obtain⟨t,ht,J⟩:=mem_map.mp I;obtain⟨B,C,E,r,y,M⟩:=h.lv t ht v (by rw[J];exact e);by_cases z:t.2=s.2;.rw[z]at r;have:=(jB hc.nd r A).1;omega
   .rw[(jX z).2]at y;have:=(jB hc.nd y A).1;omega
 . rcases mem_cons.mp hu with rfl|hu;.rw[e]at ex;cases ex;exact⟨l,_,_,A,h1,dm⟩
   .obtain⟨B,C,E,r,y,M⟩:=h.lv u hu x ex;exact⟨B,C,E,r,y,by omega⟩
theorem vH(e:(es.map (·.1)).Nodup)(h:(p,x)∈es):lD ((es.map (·.1)).zip (es.map yU)) p=some (yU (p,x)):=by
 have:(es.map (·.1)).zip (es.map yU)=es.map en:=by rw[List.zip_map'];rfl
 rw[this];exact oZ e h
inductive JSt(m:Int)(ws:List Wy)(fs:List Int)(es:List En)(p:Int)(L:Nat)(H:Int)(a0 a1 a2:Sl)(M:Nat)(ρ:List Sl):Prop where|mk(a:Int)(l:Nat)(o:Option aC×Int)(c:List aC)(s5:Sl)(q0:ρ=[a0,a1,a2,.own false (c.reverse.map sD),.val false (.int a),s5])(q1:fr s5=true)(q2:(a,l,o)∈es)(q3:Nt ws fs es p L H a l o.2 c)(q4:l<=M)
theorem CW{L:Nat}{fs:List Int}(G:100<=w)(h:jf m ws fs es)(H:L<=5)(B:(p,L,o)∈es)(k:∀c,Nt ws fs es p L o.2 0 0 0 c->Q (.val (.tup (c.map sD))) [.val false (aR m ws),.val false (jN es),.val false (.int p)]):(run Γ w (n+2) 5 [.val false (aR m ws),.val false (jN es),.val false (.int p)]).sat Q:=by
 refine aN (d:=f5) rfl rfl (by decide) ?_;symm;simp[f5];apply ak;simp;apply ak;simp;refine jD (JSt m ws fs es p L o.2 _ _ _) ?_ (k:=w) (m:=L) (by omega) ⟨p,L,o,[],.aQ,rfl,rfl,B,⟨rfl,λs hs=>(by cases hs),by simp,by simp,by simp,by rw[dw];omega⟩,dm⟩;rintro M _⟨a,l,I,c,s5,rfl,C,r,hc,J⟩;have t:=vH h.cm.nd r;rcases h.on r with⟨rfl,rfl,rfl⟩|⟨s,v,y,E,rfl,rfl,e,rfl,ho,A⟩;.simp[jN,t,yU,oS];symm;simp;exact k c hc
 . simp[jN,t,yU,oS,sD,fU];symm;simp[t,yU,oS,C];apply ak;have u:c.length<16777216:=by have:=hc.len;omega
   simp[u];apply ak;simp[sD];refine lr e ?_;simp;exact⟨y,by omega,frm v s.2,y,E,s::c,.val false (fU s.1 s.2),by simp[jN,sD],rfl,A,hc.cons h.cm e r A ho,dm⟩
def sg(x:Int)(f:Bool):Int:=if f then x else-x
def jJ(x:Int)(fs:List Int)(s:aC):List Int:=fs.set s.1 ((fs[s.1]?.getD 0)+sg x s.2)
def aug(x:Int)(fs:List Int)(c:List aC):List Int:=c.foldl (jJ x) fs
@[simp]theorem wD{x:Int}{fs:List Int}{s:aC}:(jJ x fs s).length=fs.length:=by simp[jJ]
theorem mC{x:Int}:∀{c:List aC}{fs:List Int},(aug x fs c).length=fs.length|[],_=>rfl|s::c,fs=>by show(aug x (jJ x fs s) c).length=_;rw[mC,wD]
theorem lO{x:Int}{j:Nat}:∀{c:List aC}{fs:List Int},j∉c.map (·.1)->(aug x fs c)[j]?=fs[j]?|[],_,_=>rfl|s::c,fs,h=>by rw[map_cons,mem_cons,not_or]at h;show(aug x (jJ x fs s) c)[j]?=_;rw[lO h.2];unfold jJ;rw[getElem?_set_ne (λz=>h.1 z.symm)]
theorem uQ{x:Int}:∀{c:List aC}{fs:List Int}{s:aC}{g:Int},(c.map (·.1)).Nodup->s∈c->fs[s.1]?=some g->(aug x fs c)[s.1]?=some (g+sg x s.2)
 |[],_,_,_,_,h,_=>by cases h|t::c,fs,s,g,r,h,e=>by
   rw[map_cons,nodup_cons]at r;show(aug x (jJ x fs t) c)[s.1]?=_;have u:=(eX e).1;rcases mem_cons.mp h with rfl|h;.rw[lO r.1];unfold jJ;rw[getElem?_set_self u,e];rfl
   .refine uQ r.2 h ?_;unfold jJ;rw[getElem?_set_ne (λz=>r.1 (by rw[z];exact mem_map.mpr ⟨s,h,rfl⟩))];exact e
inductive JWt(x:Int)(fs:List Int)(c:List aC)(a0 a1 a2:Sl)(r:List D)(ρ:List Sl):Prop where|mk(bV us:List aC)(s4 s5:Sl)(q0:ρ=[a0,a1,a2,.own false ((aug x fs bV).map D.int),s4,s5])(q1:fr s4=true)(q2:fr s5=true)(q3:r=us.map sD)(q4:bV++us=c)
theorem vU{s:Sl}{x:Int}{fs:List Int}(hs:Gn s fs)(hc:∀s∈c,s.1<fs.length)(k:Q (.own ((aug x fs c).map D.int)) [s,.val false (.tup (c.map sD)),.val false (.int x)]):(run Γ w (n+1) 6 [s,.val false (.tup (c.map sD)),.val false (.int x)]).sat Q:=by
 refine aN (d:=f6) rfl rfl (by decide) ?_;refine cU (λρ=>ρ=[s,.val false (.tup (c.map sD)),.val false (.int x),.own false (fs.map D.int),.aQ,.aQ]) ?_ ?_;.rcases hs with rfl|⟨b,rfl⟩;all_goals simp[f6]
 rintro _ rfl;symm;simp;refine cL (JWt x fs c _ _ _) ?_ ?_ ⟨[],c,.aQ,.aQ,rfl,rfl,rfl,rfl,rfl⟩;.rintro d r _⟨e,h,s4,s5,rfl,A,B,hr,hd⟩;cases h with|nil=>cases hr|cons u h=>
     obtain⟨rfl,rfl⟩:d=sD u/\r=h.map sD:=by simpa using hr
     have E:u.1<(aug x fs e).length:=by rw[mC];exact hc u (by rw[<-hd];simp)
     have y:(aug x fs e)[u.1]?=some (aug x fs e)[u.1]:=by simp[E]
     have C:iy (aug x fs e).length (u.1:Int)=some u.1:=by unfold iy;rw[if_pos (by omega),if_pos (by omega)];simp
     have he:aug x fs (e++[u])=(aug x fs e).set u.1 ((aug x fs e)[u.1]+sg x u.2):=by unfold aug;rw[List.foldl_append];show jJ x (aug x fs e) u=_;unfold jJ;rw[y];rfl
     have t:(e++[u])++h=c:=by rw[append_assoc];exact hd
     generalize(aug x fs e)[u.1]=g at*;simp[sD,fU,A,B];apply ak;obtain⟨j,f⟩:=u;cases f with|true=>simp[fX y,C];exact⟨e++[(j,true)],h,_,_,by rw[he,map_set];rfl,rfl,rfl,rfl,t⟩|false=>simp[fX y,C];exact⟨e++[(j,false)],h,_,_,by rw[he,map_set];rfl,rfl,rfl,rfl,t⟩
 . rintro _⟨e,h,s4,s5,rfl,A,B,hr,hd⟩;have:h=[]:=by cases h with|nil=>rfl|cons _ _=>cases hr
   subst this;rw[append_nil]at hd;subst hd;simp;apply ak;simp;exact k
def Dl(F:Int->Int)(D:Int):List En->Int->Int|[],p=>F p+D|e::es,p=>if e.1=p then e.2.2.2 else Dl F D es p
theorem ie{F:Int->Int}{D p:Int}{l:Nat}{o:Option aC×Int}:∀{es:List En},(es.map (·.1)).Nodup->(p,l,o)∈es->Dl F D es p=o.2
 |[],_,h=>by cases h|e::es,r,h=>by
   rw[map_cons,nodup_cons]at r;rw[Dl];rcases mem_cons.mp h with rfl|h;.rw[if_pos rfl]
   .rw[if_neg (λz=>r.1 (by rw[z];exact mem_map.mpr ⟨_,h,rfl⟩))];exact ie r.2 h
theorem o8{F:Int->Int}{D p:Int}:∀{es:List En},(¬ ∃l o,(p,l,o)∈es)->Dl F D es p=F p+D|[],_=>rfl|e::es,h=>by rw[Dl,if_neg (λz=>h ⟨e.2.1,e.2.2,by rw[<-z];simp⟩)];exact o8 λ⟨l,o,z⟩=>h ⟨l,o,mem_cons_of_mem _ z⟩
theorem Ai(F:Int->Int):∀(es:List En),∃D,∀p l o,(p,l,o)∈es->o.2<=F p+D
 |[]=>⟨0,λ_ _ _ h=>by cases h⟩|e::es=>by
   obtain⟨D,h⟩:=Ai F es;refine⟨max D (e.2.2.2-F e.1),λp l o z=>?_⟩;rcases mem_cons.mp z with rfl|z;.simp only;omega
   .have:=h p l o z;omega
theorem jf.pt{fs:List Int}{D:Int}(h:jf m ws fs es)(r:Pt ws fs F)(t:∀p l o,(p,l,o)∈es->o.2<=F p+D):Pt ws fs (Dl F D es):=λs v e ho=>by
 by_cases c:∃l o,(frm v s.2,l,o)∈es;.obtain⟨l,o,c⟩:=c;obtain⟨l2,u,c2,c3⟩:=h.cl l o s v e c ho;rw[ie h.cm.nd c,ie h.cm.nd c2];unfold Le at c3;omega
 . rw[o8 c];have h1:=r s v e ho;by_cases c2:∃l o,(too v s.2,l,o)∈es;.obtain⟨l2,u,c2⟩:=c2;rw[ie h.cm.nd c2];have:=t _ _ _ c2;omega
   .rw[o8 c2];omega
theorem Hd{fs:List Int}{G:Int->Int}(d:Int)(h:Pt ws fs F)(r:Pt ws fs G):Pt ws fs (λp=>min (F p) (G p+d)):=λs v e ho=>by have h1:=h s v e ho;have t:=r s v e ho;simp only;omega
theorem tW{ws:List Wy}{fs:List Int}{F:Int->Int}(h:Pt ws fs F){b:Int}:∀{c:List aC}{a:Int},ik ws b c a->rM ws fs c->F b=F a+dw ws c->∀s∈c,∀v,ws[s.1]?=some v->F (too v s.2)=F (frm v s.2)+hsp v s.2
 |[],_,_,_,_,s,hs,_,_=>by cases hs|s::c,a,⟨v,e,t,y⟩,ho,he,u,hu,x,ex=>by
   have r:rM ws fs c:=λu hu=>ho u (mem_cons_of_mem _ hu);have h1:=lA h y r;obtain⟨C,A,o⟩:=ho s (by simp);rw[e]at A;cases A;have B:=h s v e o;rw[t]at B;rw[dw,jC e]at he;rcases mem_cons.mp hu with rfl|hu;.rw[e]at ex;cases ex;rw[t];omega
   .exact tW h y r (by omega) u hu x ex
theorem qi{fs:List Int}{x:Int}{t:aC}(hc:rM ws fs c)(e:ws[t.1]?=some v)(h:j4 ws (aug x fs c) (frm v t.2) t=true):j4 ws fs (frm v t.2) t=true\/∃s∈c,s.1=t.1/\t.2≠s.2:=by
 by_cases z:t.1∈c.map (·.1)
 . obtain⟨s,hs,es⟩:=mem_map.mp z;by_cases q:t.2=s.2;.have:t=s:=Prod.ext_iff.mpr ⟨es.symm,q⟩;subst this;obtain⟨u,r,o⟩:=hc t hs;rw[e]at r;cases r;exact .inl o
   .exact .inr ⟨s,hs,es,q⟩
 .refine .inl ?_;unfold j4 at h ⊢;rwa[lO z]at h
theorem Pt.aug{ws:List Wy}{fs:List Int}{F:Int->Int}(h:Pt ws fs F){a b x:Int}{c:List aC}(r:ik ws b c a)(ho:rM ws fs c)(he:F b=F a+dw ws c):Pt ws (aug x fs c) F:=λt v e o=>by
 rcases qi ho e o with o|⟨u,y,A,ne⟩;.exact h t v e o
 . have:=tW h r ho he u y v (by rw[A];exact e);rw[(jX ne).1,(jX ne).2];have:hsp v t.2=-hsp v u.2:=by cases h1:t.2<;>cases h2:u.2<;>simp[hsp]<;>(rw[h1,h2]at ne;exact absurd rfl ne)
   omega
def fJ(G:Wy->Int):List Wy->List Int->Int|v::ws,g::fs=>G v*g+fJ G ws fs|_,_=>0
def vf(H:Wy->Int):List Wy->Int|[]=>0|v::ws=>H v+vf H ws
theorem zK{G H:Wy->Int}:∀{ws:List Wy}{fs:List Int},fs.length=ws.length->(∀(j:Nat)v g,ws[j]?=some v->fs[j]?=some g->G v*g<=H v)->fJ G ws fs<=vf H ws|[],[],_,_=>Int.le_refl _|[],_::_,h,_=>by simp at h|_::_,[],h,_=>by simp at h|v::ws,g::fs,h,k=>by have h1:=k 0 v g rfl rfl;have t:=zK (G:=G) (H:=H) (ws:=ws) (fs:=fs) (by simpa using h) λj v g e r=>k (j+1) v g (by simpa using e) (by simpa using r);rw[fJ,vf];omega
theorem yN{G H:Wy->Int}:∀{ws:List Wy}{fs:List Int},fs.length=ws.length->(∀(j:Nat)v g,ws[j]?=some v->fs[j]?=some g->H v<=G v*g)->vf H ws<=fJ G ws fs|[],[],_,_=>Int.le_refl _|[],_::_,h,_=>by simp at h|_::_,[],h,_=>by simp at h|v::ws,g::fs,h,k=>by have h1:=k 0 v g rfl rfl;have t:=yN (G:=G) (H:=H) (ws:=ws) (fs:=fs) (by simpa using h) λj v g e r=>k (j+1) v g (by simpa using e) (by simpa using r);rw[fJ,vf];omega
theorem Bg{G:Wy->Int}{v:Wy}{g y:Int}:∀{j:Nat}{ws:List Wy}{fs:List Int},ws[j]?=some v->fs[j]?=some g->fJ G ws (fs.set j (g+y))=fJ G ws fs+G v*y|_,[],_,e,_=>by simp at e|_,_::_,[],_,e=>by simp at e|0,u::ws,f::fs,h,r=>by simp at h r;subst h r;rw[List.set_cons_zero,fJ,fJ,mul_add];omega|j+1,u::ws,f::fs,h,r=>by rw[List.set_cons_succ,fJ,fJ,Bg (j:=j) (by simpa using h) (by simpa using r)];omega
def gap(k:Int)(q:Int->Int)(v:Wy):Int:=q v.t-q v.s-k*v.h
theorem Gz{k x:Int}:gap k q v*sg x f=x*(q (too v f)-q (frm v f)-k*hsp v f):=by cases f with|true=>show(q v.t-q v.s-k*v.h)*x=x*(q v.t-q v.s-k*v.h);exact mul_comm _ _|false=>show(q v.t-q v.s-k*v.h)*(-x)=x*(q v.s-q v.t-k*(-v.h));rw[mul_neg,mul_neg k,show q v.s-q v.t- -(k*v.h)=-(q v.t-q v.s-k*v.h)by omega,mul_neg,mul_comm]
theorem o9{k x:Int}{q:Int->Int}{ws:List Wy}{b:Int}:∀{c:List aC}{fs:List Int}{a:Int},fs.length=ws.length->ik ws b c a->fJ (gap k q) ws (aug x fs c)=fJ (gap k q) ws fs+x*(q b-q a-k*dw ws c)
 |[],fs,a,_,h=>by have:a=b:=h;subst this;show _=_+x*(q a-q a-k*0);simp;rfl|s::c,fs,a,t,⟨v,e,y,A⟩=>by
   show fJ (gap k q) ws (aug x (jJ x fs s) c)=_;have r:s.1<fs.length:=by rw[t];exact(eX e).1
   have u:fs[s.1]?=some fs[s.1]:=by simp[r]
   rw[o9 (by rw[wD];exact t) A];have:jJ x fs s=fs.set s.1 (fs[s.1]+sg x s.2):=by unfold jJ;rw[u];rfl
   rw[this,Bg e u,Gz,y,Int.add_assoc,<-mul_add,dw,jC e,mul_add k];congr 2;omega
structure Ko(ws:List Wy)(fs:List Int):Prop where
 len:fs.length=ws.length
 ok:∀(j:Nat)v g,ws[j]?=some v->fs[j]?=some g->0<=g/\g<=v.r
theorem Ko.aug{ws:List Wy}{fs:List Int}{c:List aC}{x:Int}(h:Ko ws fs)(A:(c.map (·.1)).Nodup)(B:0<x)(hc:∀s∈c,∃v g,ws[s.1]?=some v/\fs[s.1]?=some g/\x<=nT v g s.2):Ko ws (aug x fs c):=by
 refine⟨by rw[mC];exact h.len,λj v g r e=>?_⟩;by_cases z:j∈c.map (·.1);.obtain⟨s,hs,rfl⟩:=mem_map.mp z;obtain⟨C,g',t,u,y⟩:=hc s hs;rw[r]at t;cases t;rw[uQ A hs u]at e;cases e;have:=h.ok _ _ _ r u;cases hf:s.2<;>rw[hf]at y<;>simp[nT,sg]at y ⊢<;>omega
 .rw[lO z]at e;exact h.ok _ _ _ r e
def Hw(q:Int->Int)(v:Wy):Int:=v.r*max 0 (q v.t-q v.s-v.h)
def Kc(q:Int->Int)(ws:List Wy):Int:=vf (Hw q) ws
theorem W9:gap 1 q v=q v.t-q v.s-v.h:=by unfold gap;omega
theorem Bl{fs:List Int}(h:Ko ws fs):fJ (gap 1 q) ws fs<=Kc q ws:=zK h.len λj v g e r=>by
 have:=h.ok _ _ _ e r;rw[W9];unfold Hw;generalize q v.t-q v.s-v.h=y;by_cases c:0<=y;.rw[Int.max_eq_right c,mul_comm];exact Int.mul_le_mul_of_nonneg_right this.2 c
 .rw[Int.max_eq_left (by omega),Int.mul_zero];exact Int.mul_nonpos_of_nonpos_of_nonneg (by omega) this.1
theorem J4{fs:List Int}(h:Ko ws fs)(A:Pt ws fs q):Kc q ws=fJ (gap 1 q) ws fs:=by
 refine Int.le_antisymm (yN h.len λj v g e u=>?_) (Bl h);have E:=h.ok _ _ _ e u;have C:0<v.r-g->q v.t<=q v.s+v.h:=λz=>A (j,true) v e (by rw[lC (s:=(j,true)) e u];simp[frm,nT];omega);have B:0<g->q v.s<=q v.t+-v.h:=λz=>A (j,false) v e (by rw[lC (s:=(j,false)) e u];simp[frm,nT];omega);rw[W9];unfold Hw;generalize G:q v.t-q v.s-v.h=y;by_cases c:g=v.r
 . subst c;by_cases c0:0<v.r;.have:=B c0;rw[Int.max_eq_right (by omega),mul_comm];exact Int.le_refl _
   . have:v.r=0:=by omega
     rw[this];simp
 . have:=C (by omega);rw[Int.max_eq_left (by omega),Int.mul_zero];by_cases c0:0<g;.have:=B c0;rw[show y=0 by omega];simp
   .rw[show g=0 by omega];simp
def nQ(fs:List Int)(x:List aC×Int):List Int:=aug x.2 fs x.1
def flow(N:Nat)(cs:List (List aC×Int)):List Int:=cs.foldl nQ (replicate N 0)
theorem pJ{x:List aC×Int}:flow N (cs++[x])=aug x.2 (flow N cs) x.1:=by unfold flow;rw[List.foldl_append];rfl
def fj(H:List aC×Int->Int):List (List aC×Int)->Int|[]=>0|x::cs=>H x+fj H cs
theorem lM{H:List aC×Int->Int}{x:List aC×Int}:∀{cs:List (List aC×Int)},fj H (cs++[x])=fj H cs+H x|[]=>by simp[fj]|y::cs=>by rw[cons_append,fj,fj,lM];omega
theorem uN{H K:List aC×Int->Int}:∀{cs:List (List aC×Int)},(∀x∈cs,H x=K x)->fj H cs=fj K cs|[],_=>rfl|x::cs,h=>by rw[fj,fj,h x (by simp),uN λy e=>h y (by simp[e])]
theorem G6{H:List aC×Int->Int}:∀{cs:List (List aC×Int)},(∀x∈cs,1<=H x)->(cs.length:Int)<=fj H cs|[],_=>by simp[fj]|x::cs,h=>by have h1:=h x (by simp);have r:=G6 (H:=H) (cs:=cs) λy e=>h y (by simp[e]);rw[fj,length_cons];omega
def Xp(ws:List Wy)(T:Int)(x:List aC×Int):Int:=if dw ws x.1<=T then x.2*(T-dw ws x.1+1)else 0
def val(ws:List Wy)(T:Int)(cs:List (List aC×Int)):Int:=fj (Xp ws T) cs
structure Bb(m:Int)(ws:List Wy)(T v:Int):Prop where
 ex:∃q:Int->Int,q 0=0/\q (m-1)=T+1/\Kc q ws=v
 le:∀q:Int->Int,q 0=0->q (m-1)=T+1->v<=Kc q ws
theorem vN{T:Int}{fs:List Int}{G:Int->Int}(fit:Ko ws fs)(dt:∀k q,fJ (gap k q) ws fs=fj (λx=>x.2*(q (m-1)-q 0-k*dw ws x.1)) cs)(y:∀x∈cs,dw ws x.1<=T+1)(A:Pt ws fs G)(r:G 0=0)(t:G (m-1)=T+1):Bb m ws T (val ws T cs):=by
 have u:∀q:Int->Int,q 0=0->q (m-1)=T+1->fJ (gap 1 q) ws fs=val ws T cs:=λq e h=>by
  rw[dt,e,h];refine uN λx B=>?_;have:=y x B;unfold Xp;split;.congr 1;omega
  .rw[show T+1-0-1*dw ws x.1=0 by omega,Int.mul_zero]
 exact⟨⟨G,r,t,by rw[J4 fit A,u G r t]⟩,λq e h=>by rw[<-u q e h];exact Bl fit⟩
structure xR(m:Int)(ws:List Wy)(cs:List (List aC×Int))(fs:List Int)(F:Int->Int)(d:Int):Prop where
 fit:Ko ws fs
 pt:Pt ws fs F
 z:F 0=0
 e:F (m-1)=d
 d0:0<=d
 nn:(∀v∈ws,1<=v.h)->1<=d/\∀x∈cs,1<=dw ws x.1
 ch:∀x∈cs,dw ws x.1<=d/\0<x.2/\∀s∈x.1,s.1<ws.length
 dt:∀k q,fJ (gap k q) ws fs=fj (λx=>x.2*(q (m-1)-q 0-k*dw ws x.1)) cs
 lst:∀T,0<=T->T+1<=d->Bb m ws T (val ws T cs)
theorem pQ{G:Wy->Int}:∀{ws:List Wy}{n:Nat},fJ G ws (replicate n 0)=0|[],n=>by unfold fJ;rfl|v::ws,0=>rfl|v::ws,n+1=>by rw[replicate_succ,fJ,pQ];simp
theorem uF(h:(replicate n (0:Int))[j]?=some g):g=0:=(List.mem_replicate.mp (mem_of_getElem? h)).2
def F01(b p:Int):Int:=if p=0 then 0 else b
theorem xR.zero(m0:2<=m)(A:∀v∈ws,0<=v.h)(hr:∀v∈ws,0<=v.r):∃b,xR m ws [] (replicate ws.length 0) (F01 b) b:=by
 have fit:Ko ws (replicate ws.length 0):=⟨by simp,λj v g t u=>by rw[uF u];exact⟨Int.le_refl _,hr v (mem_of_getElem? t)⟩⟩;have pt:∀b:Int,0<=b->(∀v∈ws,b<=v.h)->Pt ws (replicate ws.length 0) (F01 b):=λb b0 B s v e ho=>by obtain⟨E,g,t,u,_,y⟩:=p7 ho;rw[e]at t;cases t;have:=uF u;subst this;have:=B v (mem_of_getElem? e);cases hf:s.2<;>rw[hf]at y<;>simp[nT,hsp,F01]at y ⊢;split<;>split<;>omega
 have dt:∀k q,fJ (gap k q) ws (replicate ws.length 0)=fj (λx=>x.2*(q (m-1)-q 0-k*dw ws x.1)) []:=λk q=>by rw[pQ];rfl
 have t:∀b,F01 b (m-1)=b:=λb=>by unfold F01;rw[if_neg (by omega)]
 by_cases c:∀v∈ws,1<=v.h;.exact⟨1,fit,pt 1 (by omega) c,rfl,t 1,by omega,λ_=>⟨Int.le_refl _,by simp⟩,by simp,dt,λT h1 C=>vN fit dt (by simp) (pt 1 (by omega) c) rfl (by rw[t];omega)⟩
 .exact⟨0,fit,pt 0 (by omega) A,rfl,t 0,by omega,λz=>absurd z c,by simp,dt,λT h1 C=>by omega⟩
theorem xR.at{d T:Int}{fs:List Int}{G:Int->Int}(h:xR m ws cs fs F d)(e:d<=T+1)(r:Pt ws fs G)(t:G 0=0)(u:G (m-1)=T+1):Bb m ws T (val ws T cs):=vN h.fit h.dt (λx y=>Int.le_trans (h.ch x y).1 e) r t u
theorem xR.more{d:Int}{fs:List Int}{x:Int}(h:xR m ws cs fs F d)(r:jf m ws fs es)(t:(m-1,l,o)∈es)(hc:Nt ws fs es (m-1) l o.2 0 0 0 c)(u:0<x)(hr:∀s∈c,∃v g,ws[s.1]?=some v/\fs[s.1]?=some g/\x<=nT v g s.2):∃E,xR m ws (cs++[(c,x)]) (aug x fs c) E o.2:=by
 obtain⟨D,G⟩:=Ai F es;have A:=r.pt h.pt G;have I:dw ws c=o.2:=by have:=hc.hrs;omega
 have B:Dl F D es 0=0:=ie r.cm.nd r.cm.z;have C:Dl F D es (m-1)=o.2:=ie r.cm.nd t;have hd:d<=o.2:=by have:=lA h.pt hc.Jr hc.jm;rw[h.e,h.z]at this;omega
 refine⟨Dl F D es,h.fit.aug hc.nd u hr,A.aug hc.Jr hc.jm (by rw[B,C];omega),B,C,by have:=h.d0;omega,λz=>⟨by have:=(h.nn z).1;omega,λy hy=>?_⟩,λy hy=>?_,λk q=>?_,λT h0 h1=>?_⟩
 . rcases mem_append.mp hy with hy|hy;.exact(h.nn z).2 y hy
   .rw[mem_singleton.mp hy];show 1<=dw ws c;have:=(h.nn z).1;omega
 . rcases mem_append.mp hy with hy|hy;.have:=h.ch y hy;exact⟨by omega,this.2⟩
   .rw[mem_singleton.mp hy];refine⟨by show dw ws c<=_;omega,u,λs hs=>?_⟩;obtain⟨v,g,e,_⟩:=hr s hs;exact(eX e).1
 .rw[o9 h.fit.len hc.Jr,lM,h.dt]
 . have H:val ws T (cs++[(c,x)])=val ws T cs:=by unfold val;rw[lM];show _+(if dw ws c<=T then _ else 0)=_;rw[if_neg (by omega)];omega
   rw[H];by_cases q:T+1<=d;.exact h.lst T h0 q
   . refine h.at (by omega) (Hd (T+1-d) A h.pt) ?_ ?_;.have:=h.z;omega
     .have:=h.e;omega
theorem xR.least{d T:Int}{fs:List Int}(h:xR m ws cs fs F d)(r:jf m ws fs es)(t:¬ ∃l o,(m-1,l,o)∈es)(h0:0<=T):Bb m ws T (val ws T cs):=by
 by_cases q:T+1<=d;.exact h.lst T h0 q
 . obtain⟨D,u⟩:=Ai F es;have y:=r.pt (D:=max D (T+1-d)) h.pt λp l o z=>by have:=u p l o z;omega
   have A:Dl F (max D (T+1-d)) es 0=0:=ie r.cm.nd r.cm.z;have B:Dl F (max D (T+1-d)) es (m-1)=F (m-1)+max D (T+1-d):=o8 t;refine h.at (by omega) (Hd (T+1-d) y h.pt) ?_ ?_;.have:=h.z;omega
   .have:=h.e;omega
def El(v:Wy)(f:Bool):Int:=7*hsp v f+1
def Nv(ws:List Wy)(fs:List Int)(P:Int->Int):Prop:=∀(s:aC)(v:Wy),ws[s.1]?=some v->j4 ws fs (frm v s.2) s=true->P (too v s.2)<=P (frm v s.2)+El v s.2
def yS(ws:List Wy)(c:List aC):Int:=7*dw ws c+c.length
theorem pF(e:ws[s.1]?=some v):yS ws (s::c)=El v s.2+yS ws c:=by unfold yS El;rw[dw,jC e,length_cons];omega
theorem zG{ws:List Wy}{fs:List Int}{P:Int->Int}(h:Nv ws fs P){b:Int}:∀{c:List aC}{a:Int},ik ws b c a->rM ws fs c->P b<=P a+yS ws c|[],a,r,_=>by have:a=b:=r;rw[this];simp[yS,dw]|s::c,a,⟨v,e,y,r⟩,ho=>by have h1:=zG h r λu A=>ho u (mem_cons_of_mem _ A);obtain⟨C,t,o⟩:=ho s (by simp);rw[e]at t;cases t;have B:=h s v e o;rw[y]at B;rw[pF e];omega
theorem tG{ws:List Wy}{fs:List Int}{P:Int->Int}(h:Nv ws fs P){b:Int}:∀{c:List aC}{a:Int},ik ws b c a->rM ws fs c->P b=P a+yS ws c->∀s∈c,∀v,ws[s.1]?=some v->P (too v s.2)=P (frm v s.2)+El v s.2
 |[],_,_,_,_,s,hs,_,_=>by cases hs|s::c,a,⟨v,e,t,y⟩,ho,he,u,hu,x,ex=>by
   have r:rM ws fs c:=λu hu=>ho u (mem_cons_of_mem _ hu);have h1:=zG h y r;obtain⟨C,A,o⟩:=ho s (by simp);rw[e]at A;cases A;have B:=h s v e o;rw[t]at B;rw[pF e]at he;rcases mem_cons.mp hu with rfl|hu;.rw[e]at ex;cases ex;rw[t];omega
   .exact tG h y r (by omega) u hu x ex
def tgt(ws:List Wy)(fs:List Int)(P:Int->Int)(s:aC):Bool:=match ws[s.1]?with|some v=>j4 ws fs (frm v s.2) s&&decide (P (too v s.2)=P (frm v s.2)+El v s.2)|none=>false
theorem HQ{fs:List Int}{P:Int->Int}(e:ws[s.1]?=some v):tgt ws fs P s=(j4 ws fs (frm v s.2) s&&decide (P (too v s.2)=P (frm v s.2)+El v s.2)):=by unfold tgt;rw[e]
def HF(ws:List Wy)(fs:List Int)(P:Int->Int):Nat:=((gY ws.length).filter (tgt ws fs P)).length
theorem Bo{fs:List Int}{P:Int->Int}(h:ws.length<=12):HF ws fs P<=24:=by have:=List.length_filter_le (tgt ws fs P) (gY ws.length);rw[vW]at this;unfold HF;omega
theorem Hu{p q:aC->Bool}(h:∀t,q t=true->p t=true):∀(l:List aC),(l.filter q).length<=(l.filter p).length|[]=>dm|t::l=>by have e:=Hu h l;cases hq:q t with|true=>simp[hq,h t hq,e]|false=>cases hp:p t with|true=>simp[hq,hp];omega|false=>simp[hq,hp,e]
theorem Gp{p q:aC->Bool}{s:aC}(h:∀t,q t=true->p t=true)(e:p s=true)(r:q s=false):∀{l:List aC},s∈l->(l.filter q).length<(l.filter p).length
 |[],hs=>by cases hs|t::l,hs=>by
   have le:=Hu h l;rcases mem_cons.mp hs with rfl|hs;.simp[e,r];omega
   .have u:=Gp h e r hs;cases hq2:q t with|true=>simp[hq2,h t hq2,u]|false=>cases hp2:p t with|true=>simp[hq2,hp2];omega|false=>simp[hq2,hp2,u]
theorem Jc{fs:List Int}(h:(c.map (·.1)).Nodup)(hs:s∈c)(e:ws[s.1]?=some v)(r:fs[s.1]?=some g):j4 ws (aug (nT v g s.2) fs c) p s=false:=by
 rw[lC e (uQ h hs r)];have:nT v (g+sg (nT v g s.2) s.2) s.2=0:=by cases s.2<;>simp[nT,sg]<;>omega
 rw[this];simp
theorem Nv.aug{ws:List Wy}{fs:List Int}{P:Int->Int}(h:Nv ws fs P){a b:Int}{c:List aC}{s:aC}{v:Wy}{g:Int}(E:ik ws b c a)(ho:rM ws fs c)(G:(c.map (·.1)).Nodup)(he:P b=P a+yS ws c)(hs:s∈c)(e:ws[s.1]?=some v)(H:fs[s.1]?=some g):Nv ws (aug (nT v g s.2) fs c) P/\HF ws (aug (nT v g s.2) fs c) P<HF ws fs P:=by
 have A:=tG h E ho he;have back:∀(t u:aC)(x:Wy),u∈c->u.1=t.1->t.2≠u.2->ws[t.1]?=some x->P (too x t.2)<P (frm x t.2)+El x t.2:=λt u x r y ne ex=>by
  have h1:=A u r x (by rw[y];exact ex);rw[(jX ne).1,(jX ne).2];have B:hsp x t.2=-hsp x u.2:=by cases h1:t.2<;>cases B:u.2<;>simp[hsp]<;>(rw[h1,B]at ne;exact absurd rfl ne)
  unfold El at*;omega
 refine⟨λt x ex o=>?_,?_⟩
 . rcases qi ho ex o with o|⟨u,r,y,ne⟩;.exact h t x ex o
   .have:=back t u x r y ne ex;omega
 . obtain⟨I,C,o⟩:=ho s hs;rw[e]at C;cases C;refine Gp (s:=s) (λt ht=>?_) (by rw[HQ e,o,A s hs v e];simp) (by rw[HQ e,Jc G hs e H];rfl) (wV (eX e).1);unfold tgt at ht ⊢;split at ht
   . rename_i x ex;simp only[and_eq_true,decide_eq_true_eq]at ht ⊢;refine⟨?_,ht.2⟩;rcases qi ho ex ht.1 with o|⟨u,r,y,ne⟩;.exact o
     .have:=back t u x r y ne ex;omega
   .cases ht
abbrev Nj:=List (Option Bool)
def kY:List Wy->Nj->Int|v::ws,some f::es=>El v f+kY ws es|_::ws,none::es=>kY ws es|_,_=>0
def Hs(N:Nat):List aC->Nj|[]=>replicate N none|s::c=>(Hs N c).set s.1 (some s.2)
theorem Bf{N:Nat}:∀{c:List aC},(Hs N c).length=N|[]=>by simp[Hs]|s::c=>by rw[Hs,length_set,Bf]
theorem Ar{N j:Nat}:∀{c:List aC},j<N->j∉c.map (·.1)->(Hs N c)[j]?=some none|[],h,_=>by simp[Hs,h]|s::c,h,e=>by rw[map_cons,mem_cons,not_or]at e;rw[Hs,getElem?_set_ne (λz=>e.1 z.symm)];exact Ar h e.2
theorem wL{v:Wy}{f:Bool}:∀{j:Nat}{ws:List Wy}{es:Nj},ws[j]?=some v->es[j]?=some none->kY ws (es.set j (some f))=kY ws es+El v f|_,[],_,e,_=>by simp at e|_,_::_,[],_,e=>by simp at e|0,u::ws,x::es,h,r=>by simp at h r;subst h r;rw[List.set_cons_zero,kY,kY];omega|j+1,u::ws,x::es,h,r=>by have t:=wL (f:=f) (j:=j) (ws:=ws) (es:=es) (by simpa using h) (by simpa using r);rw[List.set_cons_succ];cases x with|none=>rw[kY,kY,t]|some g=>rw[kY,kY,t];omega
theorem rZ:∀{ws:List Wy}{n:Nat},kY ws (replicate n none)=0|[],n=>by unfold kY;rfl|v::ws,0=>rfl|v::ws,n+1=>by rw[replicate_succ,kY,rZ]
theorem zZ{ws:List Wy}{b:Int}:∀{c:List aC}{a:Int},ik ws b c a->(c.map (·.1)).Nodup->kY ws (Hs ws.length c)=yS ws c|[],_,_,_=>by rw[Hs,rZ];simp[yS,dw]|s::c,a,⟨v,e,_,r⟩,h=>by rw[map_cons,nodup_cons]at h;rw[Hs,wL e (Ar (eX e).1 h.1),zZ r h.2,pF e];omega
def uv:Nat->List Nj|0=>[[]]|n+1=>(uv n).map (none::·)++((uv n).map (some true::·)++(uv n).map (some false::·))
theorem xm:∀{n:Nat},(uv n).length=3^n|0=>rfl|n+1=>by rw[uv,length_append,length_append,length_map,length_map,length_map,xm,Nat.pow_succ];omega
theorem vI:∀{e:Nj},e∈uv e.length|[]=>by simp[uv]|x::e=>by have h:=vI (e:=e);rw[length_cons,uv,mem_append,mem_append];cases x with|none=>exact .inl (mem_map.mpr ⟨e,h,rfl⟩)|some f=>cases f with|true=>exact .inr (.inl (mem_map.mpr ⟨e,h,rfl⟩))|false=>exact .inr (.inr (mem_map.mpr ⟨e,h,rfl⟩))
structure KN(m:Int)(ws:List Wy)(k:Nat)(fs:List Int)(P:Int->Int)(lam:Int)(seen:List Nj):Prop where
 pt:Nv ws fs P
 z:P 0=0
 e:P (m-1)=lam
 nd:seen.Nodup
 sl:∀e∈seen,e.length=ws.length/\kY ws e<=lam
 cnt:k+HF ws fs P<=25*(seen.length+1)
theorem KN.few{r:Int}{fs:List Int}{P:Int->Int}{seen:List Nj}(h:KN m ws k fs P r seen)(t:ws.length<=12):k<=13286050:=by
 have h1:=qu (l2:=uv ws.length) h.nd λe he=>by rw[<-(h.sl e he).1];exact vI
 rw[xm]at h1;have u:3^ws.length<=3^12:=Nat.pow_le_pow_right (by decide) t;have y:(3:Nat)^12=531441:=by decide
 have:=h.cnt;omega
theorem KN.zero(u:ws.length<=12)(y:∀v∈ws,0<=v.h):KN m ws 0 (replicate ws.length 0) (λ_=>0) 0 []:=by refine⟨λs v e ho=>?_,rfl,rfl,.nil,by simp,by have:=Bo (fs:=replicate ws.length 0) (P:=λ_=>0) u;simp;omega⟩;obtain⟨B,g,r,A,_,t⟩:=p7 ho;rw[e]at r;cases r;have:=uF A;subst this;have:=y v (mem_of_getElem? e);cases hf:s.2<;>rw[hf]at t<;>simp[nT,El,hsp]at t ⊢;omega
def Jz(F:Int->Int)(D:Int):List En->Int->Int|[],p=>F p+D|e::es,p=>if e.1=p then 7*e.2.2.2+(e.2.1:Int)else Jz F D es p
theorem nD{F:Int->Int}{D p:Int}{l:Nat}{o:Option aC×Int}:∀{es:List En},(es.map (·.1)).Nodup->(p,l,o)∈es->Jz F D es p=7*o.2+l
 |[],_,h=>by cases h|e::es,r,h=>by
   rw[map_cons,nodup_cons]at r;rw[Jz];rcases mem_cons.mp h with rfl|h;.rw[if_pos rfl]
   .rw[if_neg (λz=>r.1 (by rw[z];exact mem_map.mpr ⟨_,h,rfl⟩))];exact nD r.2 h
theorem uw{F:Int->Int}{D p:Int}:∀{es:List En},(¬ ∃l o,(p,l,o)∈es)->Jz F D es p=F p+D|[],_=>rfl|e::es,h=>by rw[Jz,if_neg (λz=>h ⟨e.2.1,e.2.2,by rw[<-z];simp⟩)];exact uw λ⟨l,o,z⟩=>h ⟨l,o,mem_cons_of_mem _ z⟩
theorem GF(F:Int->Int):∀(es:List En),∃D,∀p l o,(p,l,o)∈es->7*o.2+(l:Int)<=F p+D
 |[]=>⟨0,λ_ _ _ h=>by cases h⟩|e::es=>by
   obtain⟨D,h⟩:=GF F es;refine⟨max D (7*e.2.2.2+(e.2.1:Int)-F e.1),λp l o z=>?_⟩;rcases mem_cons.mp z with rfl|z;.simp only;omega
   .have:=h p l o z;omega
theorem jf.pts{fs:List Int}{P:Int->Int}{D:Int}(h:jf m ws fs es)(r:HN m ws)(t:Pt ws fs F)(u:Nv ws fs P)(y:∀p l o,(p,l,o)∈es->7*o.2+(l:Int)<=P p+D):Nv ws fs (Jz P D es):=λs v e ho=>by
 by_cases c:∃l o,(frm v s.2,l,o)∈es;.obtain⟨l,o,c⟩:=c;obtain⟨l2,A,c2,c3⟩:=h.cl l o s v e c ho;rw[nD h.cm.nd c,nD h.cm.nd c2];have:=h.l5 r t c2;unfold Le at c3;unfold El;omega
 . rw[uw c];have h1:=u s v e ho;by_cases c2:∃l o,(too v s.2,l,o)∈es;.obtain⟨l2,A,c2⟩:=c2;rw[nD h.cm.nd c2];have:=y _ _ _ c2;omega
   .rw[uw c2];omega
theorem KN.more{r:Int}{fs:List Int}{P:Int->Int}{seen:List Nj}(h:KN m ws k fs P r seen)(A:HN m ws)(H:Pt ws fs F)(t:jf m ws fs es)(u:(m-1,l,o)∈es)(hc:Nt ws fs es (m-1) l o.2 0 0 0 c)(hs:s∈c)(e:ws[s.1]?=some v)(B:fs[s.1]?=some g):∃I J L,KN m ws (k+1) (aug (nT v g s.2) fs c) I J L:=by
 have M:dw ws c=o.2:=by have:=hc.hrs;omega
 have O:c.length=l:=by have:=hc.len;omega
 have U:yS ws c=7*o.2+l:=by unfold yS;rw[M,O]
 have W:r<=yS ws c:=by have:=zG h.pt hc.Jr hc.jm;rw[h.e,h.z]at this;omega
 by_cases q:r=yS ws c;.have y:=h.pt.aug hc.Jr hc.jm hc.nd (by rw[h.e,h.z];omega) hs e B;exact⟨P,r,seen,y.1,h.z,h.e,h.nd,h.sl,by have:=h.cnt;omega⟩
 . obtain⟨D,X⟩:=GF P es;have Y:=t.pts A H h.pt X;have C:Jz P D es 0=0:=by rw[nD t.cm.nd t.cm.z];rfl
   have E:Jz P D es (m-1)=yS ws c:=by rw[nD t.cm.nd u,U]
   have y:=Y.aug hc.Jr hc.jm hc.nd (by rw[C,E];omega) hs e B;have G:=zZ hc.Jr hc.nd;refine⟨Jz P D es,yS ws c,seen++[Hs ws.length c],y.1,C,E,?_,λx hx=>?_,?_⟩;.rw[nodup_append];refine⟨h.nd,by simp,λa Z b hb ab=>?_⟩;have:=(h.sl a Z).2;rw[ab,mem_singleton.mp hb,G]at this;omega
   . rcases mem_append.mp hx with hx|hx;.have:=h.sl x hx;exact⟨this.1,by omega⟩
     .rw[mem_singleton.mp hx];exact⟨Bf,by rw[G];exact Int.le_refl _⟩
   .have h1:=Bo (fs:=fs) (P:=Jz P D es) A.len;have h2:=h.cnt;rw[length_append,List.length_singleton];omega
def cD(x:List aC×Int):D:=.tup [.tup (x.1.map sD),.int x.2]
theorem Iu{ns:List Int}(h:ns≠[]):∃i,ns.min?=some i/\i∈ns/\∀j∈ns,i<=j:=by cases e:ns.min? with|none=>rw[List.min?_eq_none_iff]at e;exact absurd e h|some i=>have:=List.min?_eq_some_iff.mp e;exact⟨i,rfl,this.1,this.2⟩
def unS:D->aC|.tup [.int j,.bl f]=>(j.toNat,f)|_=>(0,true)
@[simp]theorem RK{s:aC}:unS (sD s)=s:=rfl
def My(ws:List Wy)(fs:List Int)(s:aC):Int:=match ws[s.1]?,fs[s.1]?with|some v,some g=>nT v g s.2|_,_=>0
def rmD(ws:List Wy)(fs:List Int)(d:D):D:=.int (My ws fs (unS d))
@[simp]theorem V9{es:List En}{p:Int}:v9 false (.int p) (jN es)=some (.val (.bl (oM (es.map en) p))):=by show some (R.val (.bl ((es.map (·.1)).contains p)))=some (R.val (.bl ((CG (es.map en)).contains p)));rw[zr]
def Chk(m:Int)(ws:List Wy)(x:List aC×Int):Prop:=x.1.length<=5/\(∀s∈x.1,s.1<ws.length)/\ik ws (m-1) x.1 0/\(x.1.map (·.1)).Nodup
structure Stg(m:Int)(ws:List Wy)(bV:List (List aC×Int))(x:List aC×Int):Prop where
 iv:∃F d,xR m ws bV (flow ws.length bV) F d
 ht:∃F,Pt ws (flow ws.length bV) F/\F 0=0/\F (m-1)=dw ws x.1
 op:rM ws (flow ws.length bV) x.1
 rm:∀s∈x.1,∃v g,ws[s.1]?=some v/\(flow ws.length bV)[s.1]?=some g/\x.2<=nT v g s.2
theorem xR.ht{d:Int}{fs:List Int}(h:xR m ws cs fs F d)(r:jf m ws fs es)(t:(m-1,l,o)∈es)(hc:Nt ws fs es (m-1) l o.2 0 0 0 c):(∃F,Pt ws fs F/\F 0=0/\F (m-1)=dw ws c)/\d<=dw ws c:=by
 obtain⟨D,u⟩:=Ai F es;have y:dw ws c=o.2:=by have:=hc.hrs;omega
 refine⟨⟨Dl F D es,r.pt h.pt u,ie r.cm.nd r.cm.z,by rw[ie r.cm.nd t,y]⟩,?_⟩;have:=lA h.pt hc.Jr hc.jm;rw[h.e,h.z]at this;omega
def DQ(m:Int)(ws:List Wy)(cs:List (List aC×Int)):Prop:=cs.Pairwise (λa b=>dw ws a.1<=dw ws b.1)/\∀h x e,cs=h++x::e->Stg m ws h x
theorem DQ.snoc{y:List aC×Int}(h:DQ m ws cs)(h1:∀x∈cs,dw ws x.1<=dw ws y.1)(A:Stg m ws cs y):DQ m ws (cs++[y]):=by
 refine⟨?_,λu x t e=>?_⟩;.rw[List.pairwise_append];exact⟨h.1,by simp,λa B b C=>by rw[mem_singleton.mp C];exact h1 a B⟩
 . rcases List.eq_nil_or_concat t with rfl|⟨r,z,rfl⟩;.obtain⟨E,G⟩:=List.append_inj' e rfl;cases G;subst E;exact A
   . rw[List.concat_eq_append]at e;have H:cs++[y]=(u++x::r)++[z]:=by rw[e];simp
     exact h.2 u x r (List.append_inj' H rfl).1
structure Ends(m:Int)(ws:List Wy)(cs:List (List aC×Int))(fs:List Int)(F:Int->Int)(d:Int)(es:List En):Prop where
 fl:fs=flow ws.length cs
 iv:xR m ws cs fs F d
 cm:jf m ws fs es
 no:¬ ∃l o,(m-1,l,o)∈es
 ck:∀x∈cs,Chk m ws x
 st:DQ m ws cs
inductive FcE(a0 a1 a2 a3 a4 a5 a6:Sl)(ρ:List Sl):Prop where|mk(s:Sl)(q0:ρ=[a0,a1,a2,a3,a4,a5,a6,s])(q1:fr s=true)
inductive JE(m:Int)(ws:List Wy)(M:Nat)(ρ:List Sl):Prop where|mk(cs:List (List aC×Int))(fs:List Int)(es:List En)(F:Int->Int)(d:Int)(s5 s6:Sl)(q0:ρ=[.val false (aR m ws),.val false (.int (m-1)),.own false (fs.map D.int),.own false (cs.map cD),.val false (jN es),s5,s6])(q1:(fr s5=true/\fr s6=true))(q2:fs=flow ws.length cs)(q3:xR m ws cs fs F d)(q4:jf m ws fs es)(q5:(∃P lam seen,KN m ws cs.length fs P lam seen))(q6:cs.length+M=13286050)(q7:(∀x∈cs,Chk m ws x))(q8:DQ m ws cs)
theorem G7(hw:13286250<=w)(h:HN m ws)(hr:∀v∈ws,0<=v.r)(k:∀cs fs F d es,cs.length<=13286050->Ends m ws cs fs F d es->Q (.own (cs.map cD)) [.val false (aR m ws)]):(run Γ w (n+4) 7 [.val false (aR m ws)]).sat Q:=by
 have hn:=h.len;have m0:=h.m0;have m1:=h.m1;refine aN (d:=f7) rfl rfl (by decide) ?_;symm;simp[f7];refine cU (λρ=>ρ=[.val false (aR m ws),.val false (.int (m-1)),.own false ((flow ws.length []).map D.int),.aQ,.aQ,.aQ,.aQ]) ?_ ?_;.simp[flow];show _<=16777216;omega
 rintro _ rfl;have hh:∀v∈ws,0<=v.h:=λv hv=>(h.ok v hv).2.2;obtain⟨b0,I0⟩:∃b,xR m ws [] (flow ws.length []) (F01 b) b:=xR.zero m0 hh hr;symm;simp;apply ak;simp;refine vK (by omega) I0.pt (.inr ⟨true,rfl⟩) h I0.fit.len λes t=>?_;simp;apply ak;simp;refine jD (JE m ws) ?_ (k:=w) (m:=13286050) (by omega) ⟨[],flow ws.length [],es,F01 b0,b0,.aQ,.aQ,rfl,⟨rfl,rfl⟩,rfl,I0,t,⟨_,_,_,KN.zero hn hh⟩,by simp,by simp,by simp,λbV x ax e=>by cases bV<;>cases e⟩;rintro M _⟨cs,fs,es,F,d,s5,s6,rfl,⟨h5,h6⟩,G,H,t,⟨P,ay,seen,hS⟩,hM,O,hst⟩;have ac:=H.fit.len;by_cases hq:∃l o,(m-1,l,o)∈es
 . obtain⟨l,o,A⟩:=hq;have kt:oM (es.map en) (m-1)=true:=zE.mpr ⟨l,o,A⟩;have ae:=t.l5 h H.pt A;simp[kt];apply ak;simp;refine CW (by omega) t ae A λc hc=>?_;simp[h5];apply ak;have af:c.length<=5:=by have:=hc.len;omega
   have Mu:∀s∈c,∃v g,ws[s.1]?=some v/\fs[s.1]?=some g/\0<nT v g s.2:=λs hs=>by obtain⟨v,e,o⟩:=hc.jm s hs;obtain⟨v',g,B,E,_,e4⟩:=p7 o;exact⟨v',g,B,E,e4⟩
   simp[show c.length<=16777216 by omega];refine bI (FcE _ _ _ _ _ _ _) (rmD ws fs) ⟨.aQ,rfl,rfl⟩ ?_ ?_;.rintro d hd _⟨s',rfl,U⟩;obtain⟨s,hs,rfl⟩:=mem_map.mp hd;obtain⟨v,g,B,E,_⟩:=Mu s hs;simp[U,sD];refine tQ (.inr ⟨true,rfl⟩) B E ?_;simp;refine⟨?_,_,rfl,rfl⟩;show D.int (My ws fs (unS (sD s)))=_;rw[RK];unfold My;rw[B,E]
   rintro _⟨s',rfl,U⟩;have W:(c.map sD).map (rmD ws fs)=(c.map (My ws fs)).map D.int:=by rw[map_map,map_map];rfl
   rw[W];have ag:c≠[]:=by rintro rfl;have:(0:Int)=m-1:=hc.Jr;omega
   obtain⟨x,ah,ai,al⟩:=Iu (ns:=c.map (My ws fs)) (by simpa using ag);obtain⟨s,hs,am⟩:=mem_map.mp ai;obtain⟨v,g,B,E,e3⟩:=Mu s hs;have ap:nT v g s.2=x:=by rw[<-am];unfold My;rw[B,E]
   have ar:0<x:=by omega
   have I:∀s∈c,∃v g,ws[s.1]?=some v/\fs[s.1]?=some g/\x<=nT v g s.2:=λu L=>by obtain⟨v,g,B,E,_⟩:=Mu u L;refine⟨v,g,B,E,?_⟩;have:=al _ (mem_map.mpr ⟨u,L,rfl⟩);unfold My at this;rw[B,E]at this;exact this
   have X:∀s∈c,s.1<ws.length:=λu L=>by obtain⟨v,g,B,_⟩:=Mu u L;exact(eX B).1
   obtain⟨F',J⟩:=H.more t A hc ar I;have Y:DQ m ws (cs++[(c,x)]):=by obtain⟨g1,g2⟩:=H.ht t A hc;refine hst.snoc (λy hy=>Int.le_trans (H.ch y hy).1 g2) ?_;have Z:=H;rw[G]at Z g1 I;exact⟨⟨_,_,Z⟩,g1,by rw[<-G];exact hc.jm,I⟩
   have C:=hS.more h H.pt t A hc hs B E;rw[ap]at C;obtain⟨P',Tz,Js,C⟩:=C;have aE:=C.few hn;generalize c.map (My ws fs)=ns at*;simp[iC,ah,h6];apply ak;simp[show cs.length<16777216 by omega];apply ak;simp;refine vU (.inr ⟨true,rfl⟩) (λu L=>by rw[ac];exact X u L) ?_;simp;apply ak;have av:aug x fs c=flow ws.length (cs++[(c,x)]):=by rw[pJ,<-G]
   simp;refine vK (by omega) J.pt (.inr ⟨true,rfl⟩) h J.fit.len λaw YK=>?_;simp;refine⟨M-1,by omega,cs++[(c,x)],aug x fs c,aw,F',o.2,.val false (.tup (c.map sD)),.val false (.int x),by simp[cD],⟨rfl,rfl⟩,av,J,YK,⟨P',Tz,Js,by rw[length_append];exact C⟩,by simp;omega,λy hy=>?_,Y⟩;rcases mem_append.mp hy with hy|hy;.exact O y hy
   . obtain rfl:y=(c,x):=by simpa using hy
     exact⟨af,X,hc.Jr,hc.nd⟩
 .have kt:oM (es.map en) (m-1)=false:=kin_no hq;simp[kt];apply ak;simp;exact k cs fs F d es (by omega) ⟨G,H,t,hq,O,hst⟩
def BL(m:Int)(ws:List Wy)(cs:List (List aC×Int)):Prop:=(∀v∈ws,1<=v.h)/\∃fs F d es,Ends m ws cs fs F d es
def MT(cs:List (List aC×Int)):Int:=fj (λx=>x.2) cs
def nG:List (List aC×Int)->Int->List (List aC×Int)|[],_=>[]|x::r,q=>(x.1,min q x.2)::nG r (q-min q x.2)
def NZ:List (List aC×Int)->Int->Int|[],q=>q|x::r,q=>NZ r (q-min q x.2)
theorem JD:∀{l:List (List aC×Int)}{q:Int},(nG l q).length=l.length|[],_=>rfl|x::r,q=>by rw[nG,length_cons,JD,length_cons]
theorem Aj:∀{l:List (List aC×Int)}{q:Int}{y:List aC×Int},y∈nG l q->∃x∈l,y.1=x.1
 |[],_,_,h=>by cases h|x::r,q,y,h=>by
   rw[nG,mem_cons]at h;rcases h with rfl|h;.exact⟨x,by simp,rfl⟩
   .obtain⟨z,hz,e⟩:=Aj h;exact⟨z,by simp[hz],e⟩
theorem Oi:∀{l:List (List aC×Int)}{q:Int},(∀x∈l,0<x.2)->0<=q->q<=MT l->NZ l q=0
 |[],q,_,h0,h1=>by have h1:q<=0:=h1;rw[NZ];omega|x::r,q,h,h0,h1=>by
   have A:=h x (by simp);have h1:q<=x.2+MT r:=h1;have hr:0<=MT r:=by
    have:∀(l:List (List aC×Int)),(∀x∈l,0<x.2)->0<=MT l:=λl=>by induction l with|nil=>intro _;exact Int.le_refl _|cons y l t=>intro e;have B:=t λz hz=>e z (by simp[hz]);have C:=e y (by simp);show 0<=y.2+MT l;omega
    exact this r λz hz=>h z (by simp[hz])
   rw[NZ];exact Oi (λy u=>h y (by simp[u])) (by omega) (by omega)
inductive JCu(a0 a1:Sl)(N:Nat)(out:List (List aC×Int))(z:Int)(r:List D)(ρ:List Sl):Prop where|mk(us bV:List (List aC×Int))(q:Int)(s4 s5 s6:Sl)(q0:ρ=[a0,a1,.own false (bV.map cD),.val false (.int q),s4,s5,s6])(q1:A3 (fr s4=true) (fr s5=true) (fr s6=true))(q2:r=us.map cD)(q3:bV++nG us q=out)(q4:NZ us q=z)(q5:bV.length+us.length=N)
theorem CK{q:Int}(E:cs.length<=16000000)(hz:NZ cs q=0)(k:Q (.own ((nG cs q).map cD)) [.own false (cs.map cD),.val false (.int q)]):(run Γ w (n+1) 8 [.own false (cs.map cD),.val false (.int q)]).sat Q:=by
 refine aN (d:=f8) rfl rfl (by decide) ?_;symm;simp[f8];apply ak;simp;apply ak;simp;refine cL (JCu _ _ cs.length (nG cs q) 0) ?_ ?_ ⟨cs,[],q,.aQ,.aQ,.aQ,rfl,⟨rfl,rfl,rfl⟩,rfl,rfl,hz,by simp⟩;.rintro d r _⟨e,h,q,s4,s5,s6,rfl,⟨t,y,A⟩,hr,ho,hz,B⟩;cases e with|nil=>cases hr|cons u e=>
     obtain⟨rfl,rfl⟩:d=cD u/\r=e.map cD:=by simpa using hr
     rw[nG]at ho;rw[NZ]at hz;rw[length_cons]at B;simp[cD,t,y];apply ak;simp[A];apply ak;simp[show h.length<16777216 by omega];apply ak;simp;have C:(if u.2<q then u.2 else q)=min q u.2:=by split<;>omega
     rw[C];exact⟨e,h++[(u.1,min q u.2)],q-min q u.2,_,_,_,by rw[map_append];rfl,⟨rfl,rfl,rfl⟩,rfl,by rw[append_assoc];exact ho,hz,by simp;omega⟩
 . rintro _⟨e,h,q,s4,s5,s6,rfl,⟨t,y,A⟩,hr,ho,hz,B⟩;have:e=[]:=by cases e with|nil=>rfl|cons _ _=>cases hr
   subst this;rw[nG,append_nil]at ho;rw[NZ]at hz;subst ho;subst hz;simp;apply ak;simp;apply ak;simp;exact k
theorem EY{fs:List Int}:∀{c:List aC},aug 0 fs c=fs
 |[]=>rfl|s::c=>by
   show aug 0 (jJ 0 fs s) c=fs;have:jJ 0 fs s=fs:=by
    unfold jJ;have h0:sg 0 s.2=0:=by cases s.2<;>rfl
    rw[h0,Int.add_zero];refine List.ext_getElem? λi=>?_;rw[getElem?_set];split
    . rename_i e;subst e;split;.rename_i h;simp[h]
      .rename_i h;simp at h;simp[h]
    .rfl
   rw[this,EY]
structure U3(m:Int)(ws:List Wy)(ts:List (List aC×Int))(fs:List Int):Prop where
 fit:Ko ws fs
 ht:∃F,Pt ws fs F/\F 0=0
 dt:∀k q,fJ (gap k q) ws fs=fj (λx=>x.2*(q (m-1)-q 0-k*dw ws x.1)) ts
theorem Nf:∀{l:List (List aC×Int)}{fs:List Int}{H:List aC×Int->Int},(∀x∈l,0<x.2)->(∀c,H (c,0)=0)->(nG l 0).foldl nQ fs=fs/\fj H (nG l 0)=0
 |[],_,_,_,_=>⟨rfl,rfl⟩|x::r,fs,H,h,t=>by
   have C:=h x (by simp);have u:=Nf (l:=r) (fs:=fs) (λy A=>h y (by simp[A])) t;have e:nG (x::r) 0=(x.1,0)::nG r 0:=by rw[nG,show min 0 x.2=0 by omega,Int.sub_self]
   rw[e,foldl_cons,fj,t,u.2];have B:nQ fs (x.1,0)=fs:=EY;rw[B];exact⟨u.1,rfl⟩
theorem nZ{H:List aC×Int->Int}{b:List (List aC×Int)}:∀{a:List (List aC×Int)},fj H (a++b)=fj H a+fj H b|[]=>by simp[fj]|x::a=>by rw[cons_append,fj,fj,nZ];omega
theorem Ends.light{d:Int}{fs:List Int}(B:Ends m ws cs fs F d es):∀(t A:List (List aC×Int))(q:Int),A++t=cs->0<=q->U3 m ws (A++nG t q) ((nG t q).foldl nQ (flow ws.length A)):=by
 have pos:∀x∈cs,0<x.2:=λx I=>(B.iv.ch x I).2.1;have C:∀A t,A++t=cs->U3 m ws A (flow ws.length A):=λA t e=>by cases t with|nil=>rw[append_nil]at e;subst e;rw[<-B.fl];exact⟨B.iv.fit,⟨F,B.iv.pt,B.iv.z⟩,B.iv.dt⟩|cons x r=>have s:=B.st.2 A x r e.symm;obtain⟨J,d0,iv⟩:=s.iv;exact⟨iv.fit,⟨J,iv.pt,iv.z⟩,iv.dt⟩
 have zero:∀(t E:List (List aC×Int))(gs:List Int),(∀x∈t,0<x.2)->U3 m ws E gs->U3 m ws (E++nG t 0) ((nG t 0).foldl nQ gs):=λt E gs L h=>by have hz:=λH M=>Nf (l:=t) (fs:=gs) (H:=H) L M;rw[(hz (λ_=>0) λ_=>rfl).1];refine⟨h.fit,h.ht,λk q=>?_⟩;rw[nZ,(hz (λx=>x.2*(q (m-1)-q 0-k*dw ws x.1)) λc=>by simp).2,h.dt,Int.add_zero]
 intro t;induction t with|nil=>intro A q e _;rw[nG,append_nil];exact C A [] e|cons x r O=>
   intro A q e Y;have I:=pos x (by rw[<-e];simp);have hr:∀y∈r,0<y.2:=λy U=>pos y (by rw[<-e];simp[U]);rw[nG];by_cases c:x.2<=q
   . have G:min q x.2=x.2:=by omega
     rw[G];have:=O (A++[x]) (q-x.2) (by rw[append_assoc];exact e) (by omega);rw[append_assoc,pJ]at this;exact this
   . have G:min q x.2=q:=by omega
     rw[G,Int.sub_self,foldl_cons];have s:=B.st.2 A x r e.symm;have ck:=B.ck x (by rw[<-e];simp);obtain⟨F1,p1,p2,p3⟩:=s.ht;obtain⟨J,d0,iv⟩:=s.iv;have g:U3 m ws (A++[(x.1,q)]) (nQ (flow ws.length A) (x.1,q)):=by
      show U3 m ws _ (aug q (flow ws.length A) x.1);refine⟨?_,⟨F1,p1.aug ck.2.2.1 s.op (by rw[p2,p3];omega),p2⟩,λk Z=>?_⟩
      . by_cases z:q=0;.subst z;rw[EY];exact iv.fit
        .refine iv.fit.aug ck.2.2.2 (by omega) λu W=>?_;obtain⟨v,g,h1,X,h3⟩:=s.rm u W;exact⟨v,g,h1,X,by omega⟩
      .rw[o9 iv.fit.len ck.2.2.1,iv.dt,lM]
     have:=zero r _ _ hr g;rw[append_assoc]at this;exact this
def late(ws:List Wy):Int:=vf (λv=>v.h) ws
theorem Az{ws:List Wy}{b:Int}{t:aC}{v:Wy}(e:ws[t.1]?=some v):∀{c:List aC}{a:Int},ik ws b c a->t∈c->frm v t.2∈qM ws c a/\too v t.2∈qM ws c a
 |[],_,_,h=>by cases h|s::c,a,⟨u,r,y,A⟩,h=>by
   have B:qC ws s=too u s.2:=by unfold qC;rw[r]
   rw[qM,B];rcases mem_cons.mp h with rfl|h;.rw[e]at r;cases r;refine⟨by rw[y];simp,mem_cons_of_mem _ ?_⟩;cases c<;>simp[qM]
   .have:=Az e A h;exact⟨mem_cons_of_mem _ this.1,mem_cons_of_mem _ this.2⟩
theorem Bs{ws:List Wy}{b:Int}:∀{c:List aC}{a:Int},ik ws b c a->(qM ws c a).Nodup->(c.map (·.1)).Nodup
 |[],_,_,_=>by simp|s::c,a,⟨v,e,y,A⟩,h=>by
   have B:qC ws s=too v s.2:=by unfold qC;rw[e]
   rw[qM,B,nodup_cons]at h;rw[map_cons,nodup_cons];refine⟨λC=>?_,Bs A h.2⟩;obtain⟨t,ht,u⟩:=mem_map.mp C;have r:=Az (t:=t) (by rw[u];exact e) A ht;by_cases z:t.2=s.2;.rw[z,y]at r;exact h.1 r.1
   .rw[(jX z).2,y]at r;exact h.1 r.2
theorem RZ(t:∀v∈ws,0<=v.h)(u:ik ws b c a)(y:(c.map (·.1)).Nodup):0<=late ws+dw ws c:=by
 have h1:=o9 (k:=1) (x:=1) (q:=λ_=>0) (fs:=replicate ws.length 0) (by simp) u;rw[pQ]at h1;have C:fJ (gap 1 λ_=>0) ws (aug 1 (replicate ws.length 0) c)<=late ws:=by
  refine zK (by rw[mC];simp) λj v g r e=>?_;have E:=t v (mem_of_getElem? r);have A:g=0\/g=1\/g=-1:=by
   by_cases z:j∈c.map (·.1);.obtain⟨s,hs,rfl⟩:=mem_map.mp z;have B:s.1<ws.length:=(eX r).1;rw[uQ y hs (g:=0) (by simp[B])]at e;cases e;cases s.2<;>simp[sg]
   .rw[lO z]at e;exact .inl (uF e)
  unfold gap;rcases A with rfl|rfl|rfl<;>simp<;>omega
 omega
def sX(m:Int)(L:Int)(i:Nat):List (Int×Int):=(0,0)::(List.range i).map λ(j:Nat)=>(1+(j:Int),L)
theorem jT{L:Int}:(a,b)∈sX m L i↔(a=0/\b=0)\/(1<=a/\a<1+(i:Int)/\b=L):=by
 unfold sX;rw[mem_cons,mem_map];constructor
 . rintro(h|⟨j,e,h⟩);.cases h;exact .inl ⟨rfl,rfl⟩
   .cases h;have:=List.mem_range.mp e;exact .inr ⟨by omega,by omega,rfl⟩
 . rintro(⟨rfl,rfl⟩|⟨h1,r,rfl⟩);.exact .inl rfl
   .exact .inr ⟨(a-1).toNat,List.mem_range.mpr (by omega),by rw[Prod.mk.injEq];exact⟨by omega,rfl⟩⟩
theorem Fx{L:Int}:sX m L (i+1)=sX m L i++[(1+(i:Int),L)]:=by unfold sX;rw[List.range_succ,map_append];rfl
theorem Te{L:Int}:((sX m L i).map (·.1)).Nodup:=by
 unfold sX;rw[map_cons,map_map,nodup_cons];refine⟨λh=>?_,?_⟩;.obtain⟨j,_,e⟩:=mem_map.mp h;have e:1+(j:Int)=0:=e;omega
 .refine List.Pairwise.map _ (λa b(h:a≠b)=>?_) List.nodup_range;show 1+(a:Int)≠1+(b:Int);omega
def bD(p:Int×Int):Int×D:=(p.1,.int p.2)
theorem M3{bs:List (Int×Int)}:CG (bs.map bD)=bs.map (·.1):=by simp[CG,bD,Function.comp_def]
theorem Wg{bs:List (Int×Int)}:ZG (bs.map bD)=bs.map λp=>.int p.2:=by simp[ZG,bD,Function.comp_def]
theorem W4{bs:List (Int×Int)}(h:p∉bs.map (·.1)):oM (bs.map bD) p=false:=by cases e:oM (bs.map bD) p with|false=>rfl|true=>have e:(CG (bs.map bD)).contains p=true:=e;rw[M3,contains_iff_mem]at e;exact absurd e h
theorem J0{c:Call}{x:Nat}{k e:Int}{ρ:List Sl}:ex c n (.Jl x k e) ρ=match ρ[x]?with|some .aQ=>.ok .next (ρ.set x (.cN [(k,.int e)]))|some (.cN _)=>.ok .next (ρ.set x (.cN [(k,.int e)]))|some (.val false _)=>.ok .next (ρ.set x (.cN [(k,.int e)]))|_=>.stuck:=(rfl)
def hD4(d:D):D:=match d with|.tup [_,_,_,h]=>h|_=>d
@[simp]theorem aep{a b c h:D}:hD4 (.tup [a,b,c,h])=h:=rfl
theorem xj:∀{ws:List Wy},(ws.map Wy.h).sum=late ws|[]=>rfl|v::ws=>by rw[map_cons,sum_cons,xj];rfl
inductive F6c(a0 a1 a2 a3 a4 a5:Sl)(ρ:List Sl):Prop where|mk(s:Sl)(q0:ρ=[a0,a1,a2,a3,a4,a5,s])(q1:fr s=true)
inductive JFc(m:Int)(ws:List Wy)(a0 a1:Sl)(i:Nat)(ρ:List Sl):Prop where|mk(s4:Sl)(q0:ρ=[a0,a1,.val false (.int (late ws)),.cN ((sX m (late ws) i).map bD),s4,.aQ])(q1:fr s4=true)
def QC(es:List En)(p:Int):Int:=Dl (λ_=>0) 0 es p
def lbD(es:List En):D->D|.int p=>.int (QC es p)|d=>d
theorem zp{s:Sl}{fs:List Int}(Y:100<=w)(hs:Gn s fs)(h:HN m ws)(C:fs.length=ws.length)(H:Pt ws fs F)(k:∀es,xg m ws fs (sX m (late ws) (m-1).toNat) es->Q (.own (((List.range m.toNat).map λ(i:Nat)=>QC es (i:Int)).map D.int)) [.val false (aR m ws),s]):(run Γ w (n+4) 15 [.val false (aR m ws),s]).sat Q:=by
 have m0:=h.m0;have m1:=h.m1;have hn:=h.len;have U:∀v∈ws,0<=v.h:=λv Z=>(h.ok v Z).2.2;have ac:0<=late ws:=by
  have:∀(l:List Wy),(∀v∈l,0<=v.h)->0<=late l:=λl=>by induction l with|nil=>intro _;exact Int.le_refl _|cons v l ih=>intro C;have h1:=C v (by simp);have I:=ih λu hu=>C u (by simp[hu]);show 0<=v.h+late l;omega
  exact this ws U
 refine aN (d:=f15) rfl rfl (by decide) ?_;refine cU (λρ=>ρ=[.val false (aR m ws),s,.val false (.int (late ws)),.aQ,.aQ,.aQ]) ?_ ?_
 . simp[f15,show ws.length<=16777216 by omega];refine bI (F6c _ _ _ _ _ _) hD4 ⟨.aQ,rfl,rfl⟩ ?_ ?_;.rintro d hd _⟨A,rfl,r⟩;obtain⟨v,_,rfl⟩:=mem_map.mp hd;simp[r,Wy.d];exact⟨_,rfl,rfl⟩
   . rintro _⟨A,rfl,r⟩;have e:(ws.map Wy.d).map hD4=(ws.map Wy.h).map D.int:=by rw[map_map,map_map];rfl
     rw[e];have e2:=xj (ws:=ws);generalize ws.map Wy.h=ns at*;simp[iC,e2]
 rintro _ rfl;symm;simp[J0];refine cU (JFc m ws (.val false (aR m ws)) s (m-1).toNat) ?_ ?_
 . simp[show m<=1000000000 by omega,show-1000000000<=m by omega];rw[show m.toNat-1=(m-1).toNat by omega];refine iH (JFc m ws (.val false (aR m ws)) s) ?_ ?_ ⟨.aQ,rfl,rfl⟩
   . rintro i _ hi⟨s4,rfl,E⟩;have J:oM ((sX m (late ws) i).map bD) (1+(i:Int))=false:=W4 λz=>by obtain⟨⟨a,b⟩,t,e⟩:=mem_map.mp z;have e:a=1+(i:Int):=e;rcases jT.mp t with⟨h1,_⟩|⟨h1,I,_⟩<;>omega
     have G:gf ((sX m (late ws) i).map bD) (1+(i:Int)) (.int (late ws))=(sX m (late ws) (i+1)).map bD:=by rw[lN J,Fx,map_append];rfl
     simp[E];apply ak;simp[G];refine⟨λ_=>⟨_,rfl,rfl⟩,?_⟩;have:(sX m (late ws) i).length=i+1:=by simp[sX]
     show _<16777216;omega
   .rintro _⟨s4,rfl,E⟩;exact⟨rfl,_,rfl,E⟩
 rintro _⟨s4,rfl,E⟩;have W:∀a b,(a,b)∈sX m (late ws) (m-1).toNat->0<=a/\a<m:=λa b t=>by rcases jT.mp t with⟨h1,_⟩|⟨h1,I,_⟩<;>omega
 have hZ:∀a b c,(a,b)∈sX m (late ws) (m-1).toNat->ik ws 0 c a->rM ws fs c->0<=b+dw ws c:=λa b c t G ho=>by
  obtain⟨c',X,q2,q3,q4,q5⟩:=short h H (W a b t) _ (dm) G ho;have h1:=RZ U X (Bs X q5);have I:dw ws c'<=dw ws c:=by unfold Le at q4;omega
  rcases jT.mp t with⟨rfl,rfl⟩|⟨_,_,rfl⟩;.have:=lA H G ho;omega
  .omega
 have YL:∀{n:Nat}{Q:R->List Sl->Prop}(A:Sl),Gn A fs->(∀es,xg m ws fs (sX m (late ws) (m-1).toNat) es->Q (.val (jN es)) [.val false (aR m ws),A,vA (sX m (late ws) (m-1).toNat)])->(run Γ w (n+3) 4 [.val false (aR m ws),A,vA (sX m (late ws) (m-1).toNat)]).sat Q:=λA r k'=>tD Y H W (jT.mpr (.inl ⟨rfl,rfl⟩)) Te hZ r h C k';generalize L:sX m (late ws) (m-1).toNat=bs at*;symm;rcases hs with rfl|⟨b,rfl⟩;all_goals
  simp[M3,Wg];refine YL _ (by first|exact .inl rfl|exact .inr ⟨_,rfl⟩) λes y=>?_;simp;apply ak;simp[show m<=1000000000 by omega,show-1000000000<=m by omega];refine⟨λ_=>?_,by show _<=16777216;omega⟩;refine bI (F6c _ _ _ _ _ _) (lbD es) ⟨.aQ,rfl,rfl⟩ ?_ ?_
  . rintro d hd _⟨A,rfl,r⟩;obtain⟨i,hi,rfl⟩:=mem_map.mp hd;have hi:=List.mem_range.mp hi;obtain⟨l,o,z,_⟩:∃l o,((i:Int),l,o)∈es/\True:=by
     have B:∃b,((i:Int),b)∈bs:=by
      rw[<-L];by_cases c:i=0;.exact⟨0,jT.mpr (.inl ⟨by omega,rfl⟩)⟩
      .exact⟨late ws,jT.mpr (.inr ⟨by omega,by omega,rfl⟩)⟩
     obtain⟨b,M⟩:=B;obtain⟨l,o,z,_⟩:=y.bg _ _ M;exact⟨l,o,z,trivial⟩
    have gz:=vH y.cm.nd z;have O:QC es (i:Int)=o.2:=ie y.cm.nd z;simp[r,jN,gz,yU,lbD,O];exact⟨_,rfl,rfl⟩
  . rintro _⟨A,rfl,r⟩;have e:((List.range m.toNat).map λ(k:Nat)=>D.int (k:Int)).map (lbD es)=((List.range m.toNat).map λ(i:Nat)=>QC es (i:Int)).map D.int:=by rw[map_map,map_map];rfl
    rw[e];have J:=k es y;generalize((List.range m.toNat).map λ(i:Nat)=>QC es (i:Int))=ns at*;simp;exact J
def lgD(fs:List Int)(cl:List Int):D:=.tup [.lst (fs.map D.int),.lst (cl.map D.int)]
inductive JLi(m q:Int)(ws:List Wy)(ts:List (List aC×Int))(r:List D)(ρ:List Sl):Prop where|mk(bV us:List (List aC×Int))(s3 s4:Sl)(q0:ρ=[.val false (aR m ws),.val false (.int q),.own false ((flow ws.length bV).map D.int),s3,s4])(q1:(fr s3=true/\fr s4=true))(q2:r=us.map cD)(q3:bV++us=ts)
theorem HB:(flow N cs).length=N:=by
 have:∀(cs:List (List aC×Int))(fs:List Int),(cs.foldl nQ fs).length=fs.length:=λcs=>by induction cs with|nil=>intro fs;rfl|cons x cs e=>intro fs;rw[foldl_cons,e];exact mC
 unfold flow;rw[this];simp
theorem CJ{q:Int}(Y:13286250<=w)(h:dY m ws)(O:0<=q)(Z:∀cs,BL m ws cs->q<=MT cs)(k:∀fs cl:List Int,fs.length=ws.length->cl.length=m.toNat->Q (.val (lgD fs cl)) [.val false (aR m ws),.val false (.int q)]):(run Γ w (n+5) 16 [.val false (aR m ws),.val false (.int q)]).sat Q:=by
 have hn:=h.len;have U:=HN.of h;refine aN (d:=ZS) rfl rfl (by decide) ?_;refine cU (λρ=>ρ=[.val false (aR m ws),.val false (.int q),.own false ((flow ws.length []).map D.int),.aQ,.aQ]) ?_ ?_;.simp[ZS,flow];show _<=16777216;omega
 rintro _ rfl;symm;simp;refine G7 Y U (λv E=>(h.ok v E).r0) λcs fs F d es ac B=>?_;have G:BL m ws cs:=⟨λv E=>(h.ok v E).h0,fs,F,d,es,B⟩;have C:=B.light cs [] q rfl O;have H:(nG cs q).foldl nQ (flow ws.length [])=flow ws.length (nG cs q):=rfl;rw[H,nil_append]at C;have I:=B.ck;simp;refine CK (by omega) (Oi (λx J=>(B.iv.ch x J).2.1) O (Z cs G)) ?_;simp;refine cL (JLi m q ws (nG cs q)) ?_ ?_ ⟨[],nG cs q,.aQ,.aQ,rfl,⟨rfl,rfl⟩,rfl,rfl⟩;.rintro d r _⟨L,t,s3,s4,rfl,⟨W,X⟩,hr,hd⟩;cases t with|nil=>cases hr|cons u t=>
     obtain⟨rfl,rfl⟩:d=cD u/\r=t.map cD:=by simpa using hr
     have M:(L++[u])++t=nG cs q:=by rw[append_assoc];exact hd
     obtain⟨x,J,e⟩:=Aj (l:=cs) (q:=q) (y:=u) (by rw[<-hd];simp);simp[cD,W,X];apply ak;simp;refine vU (.inr ⟨true,rfl⟩) (λs hs=>by rw[HB];exact(I x J).2.1 s (by rw[<-e];exact hs)) ?_;simp;exact⟨L++[u],t,_,_,by rw[pJ],⟨rfl,rfl⟩,rfl,M⟩
 . rintro _⟨L,t,s3,s4,rfl,⟨W,X⟩,hr,hd⟩;have:t=[]:=by cases t with|nil=>rfl|cons _ _=>cases hr
   subst this;rw[append_nil]at hd;subst hd;obtain⟨F1,p1,p2⟩:=C.ht;simp;apply ak;simp;refine zp (by omega) (.inl rfl) U C.fit.len p1 λA YK=>?_;have hk:=k (flow ws.length (nG cs q)) ((List.range m.toNat).map λ(i:Nat)=>QC A (i:Int)) C.fit.len (by simp);generalize((List.range m.toNat).map λ(i:Nat)=>QC A (i:Int))=ns at*;simp;exact hk
def jk(S:List Int):List Wy->Int|[]=>0|w::ws=>(if w.s∈S/\w.t∉S then w.r else 0)+jk S ws
def Z2(m:Int)(S:List Int):Prop:=0∈S/\m-1∉S
theorem sG{m:Int}{S T:List Int}:∀{ws:List Wy},(∀w∈ws,(0<=w.s/\w.s<m)/\(0<=w.t/\w.t<m))->(∀x,0<=x->x<m->(x∈S↔x∈T))->jk S ws=jk T ws|[],_,_=>rfl|w::ws,h,e=>by have r:=h w (by simp);rw[jk,jk,sG (ws:=ws) (λv u=>h v (by simp[u])) e];simp only[e w.s r.1.1 r.1.2,e w.t r.2.1 r.2.2]
theorem Q9(h:dY m ws):∀w∈ws,(0<=w.s/\w.s<m)/\(0<=w.t/\w.t<m):=λw e=>by have:=h.ok w e;exact⟨⟨this.s0,this.s1⟩,⟨this.t0,this.t1⟩⟩
def Wf(S:List Int)(v:Wy):Int:=if v.s∈S/\v.t∉S then v.r else 0
theorem wJ{S:List Int}:∀{ws:List Wy},vf (Wf S) ws=jk S ws|[]=>rfl|v::ws=>by rw[vf,jk,wJ];rfl
def nS(S:List Int)(p:Int):Int:=if p∈S then 0 else 1
theorem BL.cut(h:BL m ws cs):∃S,Z2 m S/\jk S ws<=MT cs:=by
 obtain⟨_,fs,F,d,es,u⟩:=h;have E:∀S,Z2 m S->MT cs=fJ (gap 0 (nS S)) ws fs:=λS B=>by rw[u.iv.dt];refine uN λx _=>?_;show x.2=x.2*((if m-1∈S then 0 else 1)-(if 0∈S then 0 else 1)-0*dw ws x.1);rw[if_neg B.2,if_pos B.1];simp
 refine⟨es.map (·.1),?_,?_⟩;.exact⟨mem_map.mpr ⟨_,u.cm.cm.z,rfl⟩,λz=>by obtain⟨⟨p,l,o⟩,he,e⟩:=mem_map.mp z;have e:p=m-1:=e;exact u.no ⟨l,o,e▸he⟩⟩
 . have B:Z2 m (es.map (·.1)):=⟨mem_map.mpr ⟨_,u.cm.cm.z,rfl⟩,λz=>by obtain⟨⟨p,l,o⟩,he,e⟩:=mem_map.mp z;have e:p=m-1:=e;exact u.no ⟨l,o,e▸he⟩⟩;rw[E _ B,<-wJ];have step:∀(j:Nat)(v:Wy)(g:Int),ws[j]?=some v->fs[j]?=some g->∀f:Bool,frm v f∈es.map (·.1)->too v f∉es.map (·.1)->¬ 0<nT v g f:=λj v g y A f h1 G H=>by obtain⟨⟨p,l,o⟩,he,e⟩:=mem_map.mp h1;have e:p=frm v f:=e;subst e;obtain⟨l2,I,C,_⟩:=u.cm.cl l o (j,f) v y he (by rw[lC (s:=(j,f)) y A];simp[H]);exact G (mem_map.mpr ⟨_,C,rfl⟩)
   refine yN u.iv.fit.len λj v g y A=>?_;have J:=u.iv.fit.ok _ _ _ y A;have s1:=step j v g y A true;have s2:=step j v g y A false;generalize es.map (·.1)=S at*;have s1:v.s∈S->v.t∉S->¬ 0<v.r-g:=s1;have s2:v.t∈S->v.s∉S->¬ 0<g:=s2;unfold gap nS Wf;by_cases a:v.s∈S<;>by_cases b:v.t∈S;.simp[a,b]
   .have:=s1 a b;simp[a,b];omega
   .have:=s2 b a;simp[a,b];omega
   .simp[a,b]
theorem Bq{S:List Int}:∀{ws:List Wy},(∀v∈ws,0<=v.r/\v.r<=1000000000)->0<=jk S ws/\jk S ws<=1000000000*(ws.length:Int)|[],_=>⟨Int.le_refl _,Int.le_refl _⟩|v::ws,h=>by have h1:=h v (by simp);have t:=Bq (S:=S) (ws:=ws) λu e=>h u (by simp[e]);rw[jk,length_cons];split<;>exact⟨by omega,by omega⟩
def oA(S:List Int):D:=.lst (S.map D.int)
structure UW(i:Nat)(SS:List (List Int)):Prop where
 z:∀S∈SS,0∈S/\(∀x∈S,x<=(i:Int))/\S.length<=i+1
 len:SS.length<=2^i
 all:∀P:Int->Bool,∃S∈SS,∀x:Int,x∈S↔x=0\/(1<=x/\x<=(i:Int)/\P x=true)
theorem UW.zero:UW 0 [[0]]:=⟨by simp,by simp,λP=>⟨[0],by simp,λx=>by simp;omega⟩⟩
theorem UW.succ{SS:List (List Int)}(h:UW i SS):UW (i+1) (SS++SS.map λS=>S++[1+(i:Int)]):=by
 refine⟨λS hS=>?_,?_,λP=>?_⟩
 . rcases mem_append.mp hS with hS|hS;.have:=h.z S hS;exact⟨this.1,λx hx=>by have:=this.2.1 x hx;omega,by omega⟩
   . obtain⟨R,t,rfl⟩:=mem_map.mp hS;have:=h.z R t;refine⟨by simp[this.1],λx hx=>?_,by simp;omega⟩;rcases mem_append.mp hx with hx|hx;.have:=this.2.1 x hx;omega
     .rw[mem_singleton.mp hx];omega
 .have:=h.len;rw[length_append,length_map,Nat.pow_succ];omega
 . obtain⟨S,hS,r⟩:=h.all P;by_cases c:P (1+(i:Int))=true
   . refine⟨S++[1+(i:Int)],mem_append.mpr (.inr (mem_map.mpr ⟨S,hS,rfl⟩)),λx=>?_⟩;rw[mem_append,r,mem_singleton];constructor
     . rintro((h|h)|h);.exact .inl h
       .exact .inr ⟨h.1,by omega,h.2.2⟩
       .exact .inr ⟨by omega,by omega,by rw[h];exact c⟩
     . rintro(h|h);.exact .inl (.inl h)
       . by_cases e:x=1+(i:Int);.exact .inr e
         .exact .inl (.inr ⟨h.1,by omega,h.2.2⟩)
   . refine⟨S,mem_append.mpr (.inl hS),λx=>?_⟩;rw[r];constructor
     . rintro(h|h);.exact .inl h
       .exact .inr ⟨h.1,by omega,h.2.2⟩
     . rintro(h|h);.exact .inl h
       .refine .inr ⟨h.1,?_,h.2.2⟩;have:x≠1+(i:Int):=λe=>c (by rw[<-e];exact h.2.2);omega
inductive acP(a0:Sl)(i:Nat)(ρ:List Sl):Prop where|mk(SS:List (List Int))(s2:Sl)(q0:ρ=[a0,.own false (SS.map oA),s2,.aQ,.aQ])(q1:fr s2=true)(q2:UW i SS)
def Z3(i:Int):D->D|.lst ds=>.lst (ds++[.int i])|d=>d
inductive FL(a b c d e:Sl)(ρ:List Sl):Prop where|mk(s:Sl)(q0:ρ=[a,b,c,d,e,s])(q1:fr s=true)
def Y8(S:List Int):D->Option D|.tup [.int s,.int t,.int r,.int _]=>if(S.contains s&&!S.contains t)=true then some (.int r)else none|_=>none
theorem Iv{S:List Int}:∀{ws:List Wy},∃ns:List Int,(ws.map Wy.d).filterMap (Y8 S)=ns.map D.int/\ns.sum=jk S ws
 |[]=>⟨[],rfl,rfl⟩|v::ws=>by
   obtain⟨ns,h1,h⟩:=Iv (S:=S) (ws:=ws);have e:Y8 S v.d=if(S.contains v.s&&!S.contains v.t)=true then some (.int v.r)else none:=rfl;rw[map_cons,filterMap_cons,h1,jk,e];by_cases c:v.s∈S/\v.t∉S;.rw[if_pos c,if_pos (by simp[c.1,c.2])];exact⟨v.r::ns,rfl,by rw[sum_cons,h]⟩
   .rw[if_neg c,if_neg (by simpa using c)];exact⟨ns,rfl,by rw[h];omega⟩
inductive acD(a0:Sl)(ws:List Wy)(SS:List (List Int))(s2:Sl)(r:List D)(ρ:List Sl):Prop where|mk(bV us:List (List Int))(s4:Sl)(q0:ρ=[a0,.lent (SS.map oA),s2,.own false ((bV.map λS=>jk S ws).map D.int),s4])(q1:fr s4=true)(q2:r=us.map oA)(q3:bV++us=SS)
theorem Hg(h:dY m ws)(k:∀A:Int,0<=A->A<=12000000000->(∀S,Z2 m S->A<=jk S ws)->Q (.val (.int A)) [.val false (aR m ws)]):(run Γ w (n+1) 23 [.val false (aR m ws)]).sat Q:=by
 have m0:=h.m0;have m1:=h.m1;have hn:=h.len;refine aN (d:=f23) rfl rfl (by decide) ?_;symm;simp[f23];apply ak;simp[show m-1<=1000000000 by omega,show-1000000000<=m-1 by omega];refine iH (acP (.val false (aR m ws))) ?_ ?_ ⟨[[0]],.aQ,rfl,rfl,.zero⟩
 . rintro i _ hi⟨SS,s2,rfl,M,y⟩;have Y:=y.len;have H:2^i<=16:=Nat.pow_le_pow_right (n:=2) (by decide) (show i<=4 by omega);simp[M];apply ak;simp[show SS.length<=16777216 by omega];refine bI (FL _ _ _ _ _) (Z3 (1+(i:Int))) ⟨.aQ,rfl,rfl⟩ ?_ ?_;.rintro d hd _⟨s,rfl,hs⟩;obtain⟨S,E,rfl⟩:=mem_map.mp hd;have:=(y.z S E).2.2;simp[hs,oA,Z3];exact⟨by show _<=16777216;omega,_,rfl,rfl⟩
   rintro _⟨s,rfl,hs⟩;have e:(SS.map oA).map (Z3 (1+(i:Int)))=(SS.map λS=>S++[1+(i:Int)]).map oA:=by rw[map_map,map_map];refine map_congr_left λS _=>?_;show Z3 _ (.lst (S.map D.int))=.lst ((S++[1+(i:Int)]).map D.int);rw[map_append];rfl
   rw[e];have u:=y.succ;have Z:(SS.map λS=>S++[1+(i:Int)]).length<=16:=by simp;omega
   generalize(SS.map λS=>S++[1+(i:Int)])=TT at*;simp[show SS.length+TT.length<=16777216 by omega];rw[<-map_append];exact⟨_,_,rfl,rfl,u⟩
 . rintro _⟨SS,s2,rfl,M,y⟩;have Y:=y.len;have hj:m.toNat-1-1<=4:=by omega
   have H:2^(m.toNat-1-1)<=16:=Nat.pow_le_pow_right (n:=2) (by decide) hj;symm;simp;apply ak;simp;refine cL (acD (.val false (aR m ws)) ws SS s2) ?_ ?_ ⟨[],SS,.aQ,rfl,rfl,rfl,rfl⟩;.rintro d r _⟨B,C,s4,rfl,O,hr,hd⟩;cases C with|nil=>cases hr|cons S C=>
       obtain⟨rfl,rfl⟩:d=oA S/\r=C.map oA:=by simpa using hr
       have ac:B.length<=SS.length:=by rw[<-hd];simp
       simp[O];apply ak;simp[show ws.length<=16777216 by omega];refine jZ (FL _ _ _ _ _) (Y8 S) ⟨.aQ,rfl,rfl⟩ ?_ ?_;.rintro d hd _⟨s,rfl,hs⟩;obtain⟨v,I,rfl⟩:=mem_map.mp hd;have e:Y8 S v.d=if(S.contains v.s&&!S.contains v.t)=true then some (.int v.r)else none:=rfl;rw[e];have U:=Rh (S:=S) (i:=v.s);have W:=Dw (S:=S) (i:=v.t);cases c1:S.contains v.s<;>cases c2:S.contains v.t<;>rw[c1]at U<;>rw[c2]at W<;>simp[hs,Wy.d,oA,U,W]<;>exact⟨_,rfl,rfl⟩
       rintro _⟨s,rfl,hs⟩;obtain⟨ns,X,e2⟩:=Iv (S:=S) (ws:=ws);rw[X];simp[iC,e2,show B.length<16777216 by omega];refine⟨B++[S],C,.val false (oA S),?_,rfl,rfl,by rw[append_assoc];exact hd⟩;simp[Function.comp_def]
   . rintro _⟨B,C,s4,rfl,O,hr,hd⟩;have:C=[]:=by cases C with|nil=>rfl|cons _ _=>cases hr
     subst this;rw[append_nil]at hd;subst hd;obtain⟨S0,G,_⟩:=y.all λ_=>false;obtain⟨A,hA,J,L⟩:=Iu (ns:=B.map λS=>jk S ws) (by intro e;rw[List.map_eq_nil_iff]at e;rw[e]at G;cases G);obtain⟨S1,E,X⟩:=mem_map.mp J;have hb:=Bq (S:=S1) (ws:=ws) λv I=>⟨(h.ok v I).r0,(h.ok v I).r1⟩;have hk:=k A (by omega) (by omega) λS u=>by
      obtain⟨R,hR,hP⟩:=y.all λx=>S.contains x;have:=L _ (mem_map.mpr ⟨R,hR,rfl⟩);rwa[sG (Q9 h) (T:=S) λx x0 x1=>?_]at this;rw[hP];constructor
      . rintro(e|e);.rw[e];exact u.1
        .exact contains_iff_mem.mp e.2.2
      . intro e;by_cases z:x=0;.exact .inl z
        .have:x≠m-1:=λz=>u.2 (z▸e);exact .inr ⟨by omega,by omega,contains_iff_mem.mpr e⟩
     have hm:=iC (ns:=B.map λS=>jk S ws);generalize(B.map λS=>jk S ws)=ns at*;simp;apply ak;simp[hm,hA];exact hk
def gC(ks:List Nat):List Int:=ks.map λ(k:Nat)=>(k:Int)
def sW(ls:List Int):D->D|.int i=>.int (ls.getD i.toNat 0)|d=>d
theorem wy{ls:List Int}{ks:List Nat}:((gC ks).map D.int).map (sW ls)=(ks.map λk=>ls.getD k 0).map D.int:=by simp only[gC,map_map];apply map_congr_left;intro k _;simp[sW]
def mD(p:Int):Nat->List Wy->List Nat|_,[]=>[]|i,w::ws=>if w.t=p then i::mD p (i+1) ws else mD p (i+1) ws
def lY(p:Int):Nat->List Wy->List Nat|_,[]=>[]|i,w::ws=>if w.s=p then i::lY p (i+1) ws else lY p (i+1) ws
def inD(p:Int):D->Option D|.tup [i,.tup (_::.int t::_)]=>if t==p then some i else none|_=>none
def outD(p:Int):D->Option D|.tup [i,.tup (.int s::_)]=>if s==p then some i else none|_=>none
def yH(ws:List Wy):List D:=(ws.map Wy.d).mapIdx λi d=>D.tup [.int (i:Int),d]
theorem J6{d:D}(h:d∈ds.mapIdx λi d=>D.tup [.int (i:Int),d]):∃(i:Nat)(e:D),d=.tup [.int i,e]/\e∈ds:=by rw[List.mem_mapIdx]at h;obtain⟨i,hi,rfl⟩:=h;exact⟨i,_,rfl,getElem_mem hi⟩
theorem vP{d:D}(h:d∈yH ws):∃(i:Nat)(w:Wy),d=.tup [.int i,w.d]/\w∈ws:=by obtain⟨i,e,rfl,he⟩:=J6 h;obtain⟨w,r,rfl⟩:=mem_map.mp he;exact⟨i,w,rfl,r⟩
theorem pZ(f:D->Option D)(h:Nat->List Wy->List Nat)(h0:∀i,h i []=[])(h1:∀(i:Nat)(w:Wy)(ws:List Wy),(match f (.tup [.int (i:Int),w.d])with|some x=>x=.int (i:Int)/\h i (w::ws)=i::h (i+1) ws|none=>h i (w::ws)=h (i+1) ws)):∀(ws:List Wy)(i:Nat),(((ws.map Wy.d).mapIdx λj d=>D.tup [.int ((i+j:Nat):Int),d]).filterMap f)=(gC (h i ws)).map D.int
 |[],i=>by rw[h0];rfl|w::ws,i=>by
   rw[map_cons,List.mapIdx_cons,filterMap_cons];have r:=pZ f h h0 h1 ws (i+1);have e:(λ(j:Nat)(d:D)=>D.tup [.int ((i+(j+1):Nat):Int),d])=λj d=>D.tup [.int ((i+1+j:Nat):Int),d]:=by funext j d;rw[show i+(j+1)=i+1+j by omega]
   rw[e,r];have:=h1 i w ws;rw[Nat.add_zero];cases hf:f (.tup [.int (i:Int),w.d])with|none=>rw[hf]at this;simp only at this;rw[this]|some x=>rw[hf]at this;simp only at this;rw[this.2,this.1];rfl
theorem Sv:(yH ws).filterMap (inD p)=(gC (mD p 0 ws)).map D.int:=by have:=pZ (inD p) (mD p) (λ_=>rfl) (λi w ws=>by by_cases h:w.t=p<;>simp[inD,Wy.d,mD,h]) ws 0;simpa[yH]using this
theorem Lz:(yH ws).filterMap (outD p)=(gC (lY p 0 ws)).map D.int:=by have:=pZ (outD p) (lY p) (λ_=>rfl) (λi w ws=>by by_cases h:w.s=p<;>simp[outD,Wy.d,lY,h]) ws 0;simpa[yH]using this
inductive F2(a b:Sl)(ρ:List Sl):Prop where|mk(s:Sl)(t:Sl)(q0:ρ=[a,b,s,t])(q1:fr s=true)(q2:fr t=true)
theorem JL(h:dY m ws)(k:Q (.own ((gC (lY p 0 ws)).map D.int)) [.val false (aR m ws),.val false (.int p)]):(run Γ w (n+1) 9 [.val false (aR m ws),.val false (.int p)]).sat Q:=by
 refine aN (d:=f9) rfl rfl (by decide) ?_;symm;have r:=h.len;have h1:ws.length<=lim:=by show _<=16777216;omega
 simp[f9,h1];refine jZ (F2 _ _) (outD p) ⟨.aQ,.aQ,rfl,rfl,rfl⟩ ?_ ?_
 . rintro d hd _⟨s,t,rfl,hs,ht⟩;obtain⟨i,w,rfl,u⟩:=vP hd;by_cases e:w.s=p;.simp[hs,ht,Wy.d,outD,e];exact⟨_,_,rfl,rfl,rfl⟩
   .simp[hs,ht,Wy.d,outD,e];exact⟨_,_,rfl,rfl,rfl⟩
 .rintro _⟨s,t,rfl,hs,ht⟩;rw[show((map Wy.d ws).mapIdx λi d=>D.tup [.int (i:Int),d])=yH ws from rfl,Lz];generalize(gC (lY p 0 ws)).map D.int=L at*;simp;exact k
theorem RB(h:dY m ws)(k:Q (.own ((gC (mD p 0 ws)).map D.int)) [.val false (aR m ws),.val false (.int p)]):(run Γ w (n+1) 10 [.val false (aR m ws),.val false (.int p)]).sat Q:=by
 refine aN (d:=Y9) rfl rfl (by decide) ?_;symm;have r:=h.len;have h1:ws.length<=lim:=by show _<=16777216;omega
 simp[Y9,h1];refine jZ (F2 _ _) (inD p) ⟨.aQ,.aQ,rfl,rfl,rfl⟩ ?_ ?_
 . rintro d hd _⟨s,t,rfl,hs,ht⟩;obtain⟨i,w,rfl,u⟩:=vP hd;by_cases e:w.t=p;.simp[hs,ht,Wy.d,inD,e];exact⟨_,_,rfl,rfl,rfl⟩
   .simp[hs,ht,Wy.d,inD,e];exact⟨_,_,rfl,rfl,rfl⟩
 .rintro _⟨s,t,rfl,hs,ht⟩;rw[show((map Wy.d ws).mapIdx λi d=>D.tup [.int (i:Int),d])=yH ws from rfl,Sv];generalize(gC (mD p 0 ws)).map D.int=L at*;simp;exact k
def lU(p:Int):List Wy->List Int->Int|w::ws,f::fs=>(if w.t=p then f else 0)+lU p ws fs|_,_=>0
def lQ(p:Int):List Wy->List Int->Int|w::ws,f::fs=>(if w.s=p then f else 0)+lQ p ws fs|_,_=>0
theorem wz{p:Int}{F:List Int}:∀(ws:List Wy)(i:Nat),F.length=i+ws.length->((mD p i ws).map λk=>F.getD k 0).sum=lU p ws (F.drop i)/\∀k∈mD p i ws,k<F.length
 |[],i,_=>by simp[mD,lU]|w::ws,i,h=>by
   simp only[length_cons]at h;have hi:i<F.length:=by omega
   obtain⟨r,u⟩:=wz (F:=F) ws (i+1) (by omega);rw[drop_eq_getElem_cons hi,mD,lU];by_cases e:w.t=p
   . rw[if_pos e,if_pos e];refine⟨?_,λk hk=>?_⟩;.rw[map_cons,sum_cons,r];simp[hi]
     . rcases mem_cons.mp hk with rfl|hk;.exact hi
       .exact u k hk
   .rw[if_neg e,if_neg e];exact⟨by rw[r];omega,u⟩
theorem wG{p:Int}{F:List Int}:∀(ws:List Wy)(i:Nat),F.length=i+ws.length->((lY p i ws).map λk=>F.getD k 0).sum=lQ p ws (F.drop i)/\∀k∈lY p i ws,k<F.length
 |[],i,_=>by simp[lY,lQ]|w::ws,i,h=>by
   simp only[length_cons]at h;have hi:i<F.length:=by omega
   obtain⟨r,t⟩:=wG (F:=F) ws (i+1) (by omega);rw[drop_eq_getElem_cons hi,lY,lQ];by_cases e:w.s=p
   . rw[if_pos e,if_pos e];refine⟨?_,λk hk=>?_⟩;.rw[map_cons,sum_cons,r];simp[hi]
     . rcases mem_cons.mp hk with rfl|hk;.exact hi
       .exact t k hk
   .rw[if_neg e,if_neg e];exact⟨by rw[r];omega,t⟩
theorem wA{p:Int}:∀(ws:List Wy)(i:Nat),(mD p i ws).length<=ws.length|[],_=>dm|w::ws,i=>by have:=wA (p:=p) ws (i+1);rw[mD];split<;>simp<;>omega
theorem wO{p:Int}:∀(ws:List Wy)(i:Nat),(lY p i ws).length<=ws.length|[],_=>dm|w::ws,i=>by have:=wO (p:=p) ws (i+1);rw[lY];split<;>simp<;>omega
inductive F4(a b c d:Sl)(ρ:List Sl):Prop where|mk(s:Sl)(q0:ρ=[a,b,c,d,s])(q1:fr s=true)
theorem qI{fs:List Int}(h:dY m ws)(E:fs.length=ws.length)(k:Q (.val (.int (lU p ws fs-lQ p ws fs))) [.val false (aR m ws),.val false (.lst (fs.map D.int)),.val false (.int p)]):(run Γ w (n+2) 11 [.val false (aR m ws),.val false (.lst (fs.map D.int)),.val false (.int p)]).sat Q:=by
 have G:=h.len;refine aN (d:=f11) rfl rfl (by decide) ?_;symm;simp[f11];refine RB h ?_;obtain⟨t1,t2⟩:=wz (p:=p) (F:=fs) ws 0 (by omega);have y:=wA (p:=p) ws 0;generalize mD p 0 ws=ks at*;simp[show(gC ks).length<=lim by simp only[gC,length_map];show _<=16777216;omega];refine bI (F4 _ _ _ _) (sW fs) ⟨.aQ,rfl,rfl⟩ ?_ ?_;.rintro d hd _⟨t,rfl,e⟩;simp only[gC,map_map,mem_map]at hd;obtain⟨k,u,rfl⟩:=hd;obtain⟨f,r⟩:∃f,fs[k]?=some f:=⟨_,getElem?_eq_getElem (t2 k u)⟩;simp[e,fX r,sW,r];exact⟨_,rfl,rfl⟩
 rintro _⟨t,rfl,e⟩;rw[wy];generalize(ks.map λk=>fs.getD k 0)=ns at*;simp[t1];apply ak;simp;refine JL h ?_;obtain⟨A,B⟩:=wG (p:=p) (F:=fs) ws 0 (by omega);have C:=wO (p:=p) ws 0;generalize lY p 0 ws=ks at*;simp[show(gC ks).length<=lim by simp only[gC,length_map];show _<=16777216;omega];refine bI (F4 _ _ _ _) (sW fs) ⟨.aQ,rfl,rfl⟩ ?_ ?_;.rintro d hd _⟨t,rfl,e⟩;simp only[gC,map_map,mem_map]at hd;obtain⟨k,u,rfl⟩:=hd;obtain⟨f,r⟩:∃f,fs[k]?=some f:=⟨_,getElem?_eq_getElem (B k u)⟩;simp[e,fX r,sW,r];exact⟨_,rfl,rfl⟩
 rintro _⟨t,rfl,e⟩;rw[wy];generalize(ks.map λk=>fs.getD k 0)=ns at*;simp[A];exact k
theorem Dz{fs:List Int}(h:dY m ws)(e:fs.length=ws.length)(k:Q (.val (.int (lQ 0 ws fs-lU 0 ws fs))) [.val false (aR m ws),.val false (.lst (fs.map D.int))]):(run Γ w (n+3) 12 [.val false (aR m ws),.val false (.lst (fs.map D.int))]).sat Q:=by refine aN (d:=Z4) rfl rfl (by decide) ?_;symm;simp[Z4];refine qI h e ?_;simp;rw[show-(lU 0 ws fs-lQ 0 ws fs)=lQ 0 ws fs-lU 0 ws fs by omega];exact k
def Within(ws:List Wy)(fs:List Int):Prop:=∀(k:Nat)(w:Wy)(f:Int),ws[k]?=some w->fs[k]?=some f->0<=f/\f<=w.r
def over(p:Int)(ws:List Wy)(fs:List Int):Int:=lQ p ws fs-lU p ws fs
def kZ(m:Int)(ws:List Wy)(fs:List Int):Prop:=fs.length=ws.length/\Within ws fs/\0<=over 0 ws fs/\∀p,1<=p->p<m-1->over p ws fs=0
def ZD:D->D|.tup [.int f,.tup (_::_::.int r::_)]=>.bl (decide (0<=f)&&decide (f<=r))|d=>d
theorem NT:∀(fs:List Int)(ws:List Wy),((fs.map D.int).zip (ws.map Wy.d)).map (λp=>D.tup [p.1,p.2])=(fs.zip ws).map λp=>D.tup [.int p.1,p.2.d]|[],_=>by simp|_::_,[]=>by simp|f::fs,w::ws=>by simp[NT fs ws]
theorem Q0(e:List (Int×Wy)):(e.map λp=>D.tup [.int p.1,p.2.d]).map ZD=(e.map λp=>(decide (0<=p.1)&&decide (p.1<=p.2.r))).map D.bl:=by rw[map_map,map_map];rfl
theorem Gx:∀{ws:List Wy}{fs:List Int},((fs.zip ws).map λp=>(decide (0<=p.1)&&decide (p.1<=p.2.r))).all id=true↔Within ws fs
 |[],fs=>by simp[Within]|_::_,[]=>by simp[Within]|w::ws,f::fs=>by
   rw[List.zip_cons_cons,map_cons,all_cons,and_eq_true,Gx (ws:=ws) (fs:=fs)];constructor;.rintro⟨h1,u⟩k v g e t;cases k with|zero=>simp at e t;subst e t;simpa using h1|succ k=>exact u k v g (by simpa using e) (by simpa using t)
   .intro h;exact⟨by simpa using h 0 w f rfl rfl,λk v g e t=>h (k+1) v g (by simpa using e) (by simpa using t)⟩
inductive FW(b:Sl)(a:Sl)(ρ:List Sl):Prop where|mk(s:Sl)(t:Sl)(q0:ρ=[a,b,s,t])(q1:fr s=true)(q2:fr t=true)
theorem yx{fs:List Int}(h:dY m ws)(y:fs.length=ws.length)(k:∀b:Bool,(b=true↔Within ws fs)->Q (.val (.bl b)) [.val false (aR m ws),.val false (.lst (fs.map D.int))]):(run Γ w (n+1) 13 [.val false (aR m ws),.val false (.lst (fs.map D.int))]).sat Q:=by
 have A:=h.len;refine aN (d:=Y6) rfl rfl (by decide) ?_;symm;have u:=k _ Gx
 . skip;simp[Y6,show fs.length<=lim by show _<=16777216;omega];rw[NT];refine⟨λ_=>?_,by show _<=16777216;omega⟩;refine bI (FW _ _) ZD ⟨.aQ,.aQ,rfl,rfl,rfl⟩ ?_ ?_
   . rintro d hd _⟨s1,s2,rfl,h1,t⟩;obtain⟨⟨f,v⟩,_,rfl⟩:=mem_map.mp hd;by_cases e:0<=f;.simp[h1,t,Wy.d,ZD,e];exact⟨_,_,rfl,rfl,rfl⟩
     .simp[h1,t,Wy.d,ZD,e];exact⟨_,_,rfl,rfl,rfl⟩
   .rintro _⟨s1,s2,rfl,h1,t⟩;rw[Q0];generalize((fs.zip ws).map λp=>(decide (0<=p.1)&&decide (p.1<=p.2.r)))=bs at u ⊢;simp;simpa using u
def Y5(ws:List Wy)(fs:List Int):D->D|.int p=>.bl (decide (lU p ws fs-lQ p ws fs=0))|d=>d
inductive FO(a b:Sl)(ρ:List Sl):Prop where|mk(s:Sl)(q0:ρ=[a,b,s])(q1:fr s=true)
theorem IW{fs:List Int}(m0:2<=m):(((List.range (m-1-1).toNat).map λ(k:Nat)=>decide (lU (1+(k:Int)) ws fs-lQ (1+(k:Int)) ws fs=0)).all id=true)↔∀p,1<=p->p<m-1->over p ws fs=0:=by
 rw[all_map,all_eq_true];constructor;.intro h p h1 r;have:=h (p-1).toNat (List.mem_range.mpr (by omega));simp only[Function.comp,id,decide_eq_true_eq]at this;rw[show 1+((p-1).toNat:Int)=p by omega]at this;unfold over;omega
 .intro h k e;rw[List.mem_range]at e;have:=h (1+k) (by omega) (by omega);simp only[Function.comp,id,decide_eq_true_eq];unfold over at this;omega
theorem Hn{fs:List Int}:((List.range N).map λ(k:Nat)=>D.int (1+(k:Int))).map (Y5 ws fs)=((List.range N).map λ(k:Nat)=>decide (lU (1+(k:Int)) ws fs-lQ (1+(k:Int)) ws fs=0)).map D.bl:=by rw[map_map,map_map];rfl
theorem CN{fs:List Int}(h:dY m ws)(k:∀b:Bool,(b=true↔kZ m ws fs)->Q (.val (.bl b)) [.val false (aR m ws),.val false (.lst (fs.map D.int))]):(run Γ w (n+4) 14 [.val false (aR m ws),.val false (.lst (fs.map D.int))]).sat Q:=by
 have G:=h.len;have m0:=h.m0;have m1:=h.m1;refine aN (d:=Vz) rfl rfl (by decide) ?_;symm;by_cases e:fs.length=ws.length
 . . simp[Vz,e];refine yx h e λH r=>?_;simp;refine⟨λt=>?_,λt=>?_⟩;.subst t;symm;simp;exact k false ⟨λz=>Bool.noConfusion z,λz=>Bool.noConfusion (r.mpr z.2.1)⟩
     subst t;have u:=r.mp rfl;symm;simp;refine Dz h e ?_;simp;refine⟨λB=>?_,λC=>?_⟩;.symm;simp;exact k false ⟨λz=>Bool.noConfusion z,λz=>by have:=z.2.2.1;unfold over at this;omega⟩
     symm;simp[show m-1<=1000000000 by omega,show-1000000000<=m-1 by omega];refine⟨λ_=>?_,by omega⟩;rw[show m.toNat-1-1=(m-1-1).toNat by omega];refine bI (FO _ _) (Y5 ws fs) ⟨.aQ,rfl,rfl⟩ ?_ ?_;.rintro d hd _⟨s1,rfl,h1⟩;obtain⟨j,_,rfl⟩:=mem_map.mp hd;simp[h1];refine qI h e ?_;simp[Y5];exact⟨rfl,_,rfl,rfl⟩
     .rintro _⟨s1,rfl,h1⟩;have y:=IW (m:=m) (ws:=ws) (fs:=fs) m0;rw[Hn];generalize((List.range (m-1-1).toNat).map λ(k:Nat)=>decide (lU (1+(k:Int)) ws fs-lQ (1+(k:Int)) ws fs=0))=bs at y ⊢;simp;have E:=k (bs.all id) ⟨λz=>⟨e,u,by unfold over;omega,y.mp z⟩,λz=>y.mpr z.2.2.2⟩;simpa using E
 . have A:¬(fs.length:Int)=(ws.length:Int):=by omega
   .simp[Vz,A];symm;simp;exact k false ⟨λz=>Bool.noConfusion z,λz=>absurd z.1 e⟩
@[simp]theorem NP{i n:Nat}{a h:P}{r:List Nat}{one:Bool}{e:Option P}:isVar (.tZ i a n r one e h)=none:=rfl
@[simp]theorem WR{c:Call}{i n:Nat}{a t:P}{y:List Nat}{one:Bool}{h:Option P}{ρ:List Sl}:ev c (.tZ i a n y one h t) ρ=(Fv i (ev c a) ρ).bind λu e=>if u.1.length<=lim then(lZ c y one h t u.1 (e++replicate n .aQ)).bind λxs r=>.ok (.own xs) (aU u.2 (some i) (r.take e.length))else .stuck:=(rfl)
theorem Kw{f:Ev}{ρ:List Sl}:Fv i f ρ=(f ρ).bind λr e=>(lift (items r.d) e).bind λes e=>match e[i]?with|some (.val _ d)=>(lift (items d) e).bind λds e=>.ok ((es.zip ds).map λp=>D.tup [p.1,p.2],e) e|some (.own _ ds)=>.ok ((es.zip ds).map λp=>D.tup [p.1,p.2],e) (e.set i (.lent ds))|some (.lent ds)=>.ok ((es.zip ds).map λp=>D.tup [p.1,p.2],e) e|_=>.stuck:=rfl
theorem Rw:Eb v.d (.int 0)=some (.val (.int v.s)):=by simp[Wy.d]
theorem Pr:Eb v.d (.int 1)=some (.val (.int v.t)):=by simp[Wy.d]
theorem qQ:Eb v.d (.int 2)=some (.val (.int v.r)):=by simp[Wy.d]
theorem O7:Eb v.d (.int 3)=some (.val (.int v.h)):=by simp[Wy.d]
def iU(cl:List Int)(p:Int):Int:=cl.getD p.toNat 0
def Dr(cl:List Int)(v:Wy)(g:Int):Bool:=(decide (v.r<=g)||decide (iU cl v.t<=iU cl v.s+v.h))&&(decide (g<=0)||decide (iU cl v.s+v.h<=iU cl v.t))
theorem jb(h0:0<=p)(h1:p<(cl.length:Int)):at' (cl.map D.int) p=some (.int (iU cl p)):=by
 obtain⟨j,rfl⟩:∃j:Nat,p=j:=⟨p.toNat,by omega⟩;have e:j<cl.length:=by omega
 rw[fX (x:=cl[j]) (by simp[e])];unfold iU;simp[e]
theorem Dv(e:v.Ok m)(A:(cl.length:Int)=m)(k:Q (.val (.bl (Dr cl v g))) [.val false v.d,.val false (.int g),.val false (.lst (cl.map D.int))]):(run Γ w (n+1) 17 [.val false v.d,.val false (.int g),.val false (.lst (cl.map D.int))]).sat Q:=by have u:=jb (cl:=cl) e.s0 (by have:=e.s1;omega);have y:=jb (cl:=cl) e.t0 (by have:=e.t1;omega);refine aN (d:=f17) rfl rfl (by decide) ?_;symm;simp[f17,Rw,O7,u];apply ak;unfold Dr at k;by_cases c1:v.r<=g<;>by_cases c2:iU cl v.t<=iU cl v.s+v.h<;>by_cases c3:g<=0<;>simp[c1,c2,c3,y,Pr,qQ]<;>simpa[c1,c2,c3]using k
structure KQ(m:Int)(ws:List Wy)(fs cl:List Int):Prop where
 len:(cl.length:Int)=m
 z:iU cl 0=0
 all:∀z∈ws.zip fs,Dr cl z.1 z.2=true
def hoD(cl:List Int):D->D|.tup [.tup [.int s,.int t,.int r,.int h],.int g]=>.bl (Dr cl ⟨s,t,r,h⟩ g)|d=>d
theorem BW:∀(ws:List Wy)(fs:List Int),((ws.map Wy.d).zip (fs.map D.int)).map (λp=>D.tup [p.1,p.2])=(ws.zip fs).map λp=>D.tup [p.1.d,.int p.2]|[],_=>by simp|_::_,[]=>by simp|w::ws,f::fs=>by simp[BW ws fs]
inductive FC(a b c:Sl)(ρ:List Sl):Prop where|mk(s:Sl)(t:Sl)(q0:ρ=[a,b,c,s,t])(q1:fr s=true)(q2:fr t=true)
theorem vY{fs:List Int}(h:dY m ws)(E:fs.length<=1000)(G:cl.length<=1000)(k:∀b:Bool,(b=true↔kZ m ws fs/\KQ m ws fs cl)->Q (.val (.bl b)) [.val false (aR m ws),.val false (.lst (fs.map D.int)),.val false (.lst (cl.map D.int))]):(run Γ w (n+5) 18 [.val false (aR m ws),.val false (.lst (fs.map D.int)),.val false (.lst (cl.map D.int))]).sat Q:=by have L:=h.len;have m0:=h.m0;refine aN (d:=ZW) rfl rfl (by decide) ?_;symm;simp[ZW];refine CN h λb t=>?_;have u:(¬(kZ m ws fs/\KQ m ws fs cl))->Q (.val (.bl false)) [.val false (aR m ws),.val false (.lst (fs.map D.int)),.val false (.lst (cl.map D.int))]:=λz=>k false ⟨λy=>Bool.noConfusion y,λy=>absurd y z⟩;cases b with|false=>simp;apply ak;simp;exact u λz=>Bool.noConfusion (t.mpr z.1)|true=>
   have H:=t.mp rfl;by_cases c1:(cl.length:Int)=m
   . have B:=jb (cl:=cl) (p:=0) (by omega) (by omega);by_cases c2:iU cl 0=0
     . simp[c1,B,c2];symm;have r:(ws.zip fs).length<=16777216:=by rw[length_zip];omega
       simp[Kw];rw[BW];simp at r;refine⟨λ_=>?_,r⟩;refine bI (FC _ _ _) (hoD cl) ⟨.aQ,.aQ,rfl,rfl,rfl⟩ ?_ ?_;.rintro d hd _⟨s1,s2,rfl,h1,C⟩;obtain⟨⟨v,g⟩,hz,rfl⟩:=mem_map.mp hd;have I:=h.ok v (of_mem_zip hz).1;simp[h1,C];refine Dv I c1 ?_;simp;exact⟨rfl,_,_,rfl,rfl,rfl⟩
       rintro _⟨s1,s2,rfl,h1,C⟩;have e:((ws.zip fs).map λp=>D.tup [p.1.d,.int p.2]).map (hoD cl)=((ws.zip fs).map λp=>Dr cl p.1 p.2).map D.bl:=by rw[map_map,map_map];rfl
       rw[e];have J:=k (((ws.zip fs).map λp=>Dr cl p.1 p.2).all id) ⟨λz=>⟨H,c1,c2,λp A=>all_eq_true.mp z _ (mem_map.mpr ⟨p,A,rfl⟩)⟩,λz=>all_eq_true.mpr λb t=>by obtain⟨p,A,rfl⟩:=mem_map.mp t;exact z.2.all p A⟩;generalize((ws.zip fs).map λp=>Dr cl p.1 p.2)=bs at*;simp;simpa using J
     .simp[c1,B,c2];symm;simp;exact u λz=>c2 z.2.z
   .simp[c1];symm;simp;exact u λz=>c1 z.2.len
def cM:Sl->Sl|.own b ds=>.val b (.lst ds)|s=>s
theorem Dt{w:Wy}{f:Int}{fs:List Int}:over p (w::ws) (f::fs)=(if w.s=p then f else 0)-(if w.t=p then f else 0)+over p ws fs:=by simp only[over,lQ,lU];omega
theorem Gi{fs:List Int}:Within (v::ws) (g::fs)↔(0<=g/\g<=v.r)/\Within ws fs:=by
 constructor;.intro h;exact⟨h 0 v g rfl rfl,λk u f e t=>h (k+1) u f (by simpa using e) (by simpa using t)⟩
 .rintro⟨h1,y⟩k u f e t;cases k with|zero=>simp at e t;subst e t;exact h1|succ k=>exact y k u f (by simpa using e) (by simpa using t)
def Zy:D->Option D|.int i=>if i=0 then none else some (.int i)|_=>none
theorem Bk:∀{l:List Int},(l.map D.int).filterMap Zy=(l.filter λi=>decide (i≠0)).map D.int
 |[]=>rfl|i::l=>by
   rw[map_cons,filterMap_cons,Bk,List.filter_cons];rw[show Zy (.int i)=if i=0 then none else some (.int i)from rfl];by_cases c:i=0;.simp[c]
   .simp[c]
structure LsP(m:Int)(ws us:List Wy)(fs gs ls:List Int):Prop where
 len:(ls.length:Int)=m
 ov:∀p,0<=p->p<m->iU ls p+over p us gs=over p ws fs
 wi:Within ws fs↔Within us gs
 fl:gs.length=us.length
 ok:∀v∈us,v.Ok m
inductive JLr(m:Int)(ws:List Wy)(fs:List Int)(a0 a1 a2 a3:Sl)(r:List D)(ρ:List Sl):Prop where|mk(us:List Wy)(gs ls:List Int)(s5 s6:Sl)(q0:ρ=[a0,a1,a2,a3,.own false (ls.map D.int),s5,s6])(q1:(fr s5=true/\fr s6=true))(q2:r=(us.zip gs).map (λp=>D.tup [p.1.d,.int p.2]))(q3:LsP m ws us fs gs ls)
theorem Aq{ls:List Int}{x:Int}(e:j<ls.length)(h0:0<=p):iU (ls.set j x) p=if p=j then x else iU ls p:=by
 unfold iU;by_cases c:p=j;.subst c;rw[if_pos rfl];simp[e]
 .rw[if_neg c,getD_eq_getElem?_getD,getElem?_set_ne (by omega),<-getD_eq_getElem?_getD]
theorem abT:yK (.lst ds) (part (.con (.int 1)) (.int 1)) (part (.neg (.con (.int 1))) (.int (-1)))=some (.own (cut ds (some 1) (some (-1)))):=rfl
inductive FLr(a b c d e f g:Sl)(ρ:List Sl):Prop where|mk(s:Sl)(q0:ρ=[a,b,c,d,e,f,g,s])(q1:fr s=true)
theorem Kd{ls:List Int}(h:2<=ls.length):((cut ls (some 1) (some (-1))).filter λi=>decide (i≠0))=[]↔∀p:Int,1<=p->p<(ls.length:Int)-1->iU ls p=0:=by
 have e:cut ls (some 1) (some (-1))=(ls.drop 1).take (ls.length-1-1):=by show(ls.drop (min 1 ls.length)).take ((-1+(ls.length:Int)).toNat-min 1 ls.length)=_;rw[show min 1 ls.length=1 by omega,show(-1+(ls.length:Int)).toNat=ls.length-1 by omega]
 rw[e,List.filter_eq_nil_iff];constructor;.intro z p y p1;have:=z (iU ls p) (mem_of_getElem? (i:=p.toNat-1) (by rw[List.getElem?_take_of_lt (by omega),List.getElem?_drop,show 1+(p.toNat-1)=p.toNat by omega];unfold iU;rw[getD_eq_getElem?_getD,getElem?_eq_getElem (by omega)];rfl));simpa using this
 .intro z a u;obtain⟨j,r⟩:=getElem?_of_mem u;have t:=(eX r).1;rw[length_take,List.length_drop]at t;rw[List.getElem?_take_of_lt (by omega),List.getElem?_drop]at r;have:=z (((1+j:Nat)):Int) (by omega) (by omega);unfold iU at this;rw[getD_eq_getElem?_getD,Int.toNat_natCast,r]at this;simpa using this
theorem Df{s:Sl}{fs:List Int}(hs:Gn s fs)(h:dY m ws)(hf:fs.length=ws.length)(k:∀d:D,(d=.non/\¬ kZ m ws fs\/(∃i,d=.int i)/\kZ m ws fs)->Q (.val d) [.val false (aR m ws),cM s]):(run Γ w (n+1) 24 [.val false (aR m ws),s]).sat Q:=by
 have hn:=h.len;have m0:=h.m0;have m1:=h.m1;obtain⟨M,hM⟩:∃M:Nat,m=M:=⟨m.toNat,by omega⟩;refine aN (d:=Zo) rfl rfl (by decide) ?_;refine cU (λρ=>ρ=[.val false (aR m ws),s,.val false (.int m),.val false (.tup (ws.map Wy.d)),.aQ,.aQ,.aQ]) ?_ ?_;.rcases hs with rfl|⟨b,rfl⟩<;>simp[Zo,aR]
 rintro _ rfl;refine cU (λρ=>ρ=[.val false (aR m ws),s,.val false (.int m),.val false (.tup (ws.map Wy.d)),.own false ((replicate M (0:Int)).map D.int),.aQ,.aQ]) ?_ ?_;.subst hM;simp;show _<=16777216;omega
 rintro _ rfl;have ae:(0:Int)<m:=by omega
 have j0:LsP m ws ws fs fs (replicate M 0):=⟨by simp[hM],λp B p1=>by
  have:iU (replicate M 0) p=0:=by unfold iU;simp[getD_eq_getElem?_getD,getElem?_replicate];split<;>rfl
  omega,Iff.rfl,hf,h.ok⟩;have af:(ws.zip fs).length<=16777216:=by rw[length_zip];omega
 have X:=BW ws fs;symm;rcases hs with rfl|⟨b,rfl⟩;all_goals
  simp only[cM]at k;simp;rw[X];refine cL (JLr m ws fs _ _ _ _) ?_ ?_ ⟨ws,fs,replicate M 0,.aQ,.aQ,by rw[List.map_replicate],⟨rfl,rfl⟩,rfl,j0⟩;.rintro d r _⟨E,gs,ls,s5,s6,rfl,⟨h5,h6⟩,hr,A⟩;cases E with|nil=>simp at hr|cons v E=>cases gs with|nil=>simp at hr|cons g gs=>
        obtain⟨rfl,rfl⟩:d=D.tup [v.d,.int g]/\r=(E.zip gs).map (λp=>D.tup [p.1.d,.int p.2]):=by simpa using hr
        have I:=A.ok v (by simp);have J:=A.len;have s0:=I.s0;have s1:=I.s1;have t0:=I.t0;have t1:=I.t1;have ne:=I.ne;have O:=Gi (v:=v) (g:=g) (ws:=E) (fs:=gs);have kn:¬(0<=g/\g<=v.r)->¬ kZ m ws fs:=λz y=>z (O.mp (A.wi.mp y.2.1)).1;simp[h5,h6];apply ak;by_cases c1:g<0;.simp[c1];symm;simp;exact k _ (.inl ⟨rfl,kn (by omega)⟩)
        by_cases c2:v.r<g;.simp[c1,c2,qQ];symm;simp;exact k _ (.inl ⟨rfl,kn (by omega)⟩)
        simp[c1,c2,qQ];have a1:=jb (cl:=ls) s0 (by omega);have x1:iy ls.length v.s=some v.s.toNat:=by unfold iy;rw[if_pos s0,if_pos (by omega)]
        have x2:iy ls.length v.t=some v.t.toNat:=by unfold iy;rw[if_pos t0,if_pos (by omega)]
        symm;simp[Rw,a1,x1];have Y:(ls.map D.int).set v.s.toNat (.int (iU ls v.s+g))=(ls.set v.s.toNat (iU ls v.s+g)).map D.int:=by rw[map_set]
        rw[Y];have q1:=λp h0=>Aq (ls:=ls) (j:=v.s.toNat) (x:=iU ls v.s+g) (p:=p) (by omega) h0;have l1:(ls.set v.s.toNat (iU ls v.s+g)).length=ls.length:=by simp
        generalize ls.set v.s.toNat (iU ls v.s+g)=l2 at*;have a2:=jb (cl:=l2) t0 (by omega);symm;rw[<-l1]at x2;simp[Pr,a2,x2];have e2:(l2.map D.int).set v.t.toNat (.int (iU l2 v.t-g))=(l2.set v.t.toNat (iU l2 v.t-g)).map D.int:=by rw[map_set]
        rw[e2];refine⟨E,gs,l2.set v.t.toNat (iU l2 v.t-g),_,_,rfl,⟨rfl,rfl⟩,rfl,⟨by rw[length_set];omega,λp B p1=>?_,?_,by have:=A.fl;simpa using this,λu hu=>A.ok u (by simp[hu])⟩⟩
        . have:=A.ov p B p1;rw[Dt]at this;have qt:iU l2 v.t=iU ls v.t:=by rw[q1 v.t t0,if_neg (by omega)]
          rw[Aq (by omega) B,qt,q1 p B,show((v.t.toNat:Nat):Int)=v.t by omega,show((v.s.toNat:Nat):Int)=v.s by omega];by_cases U:p=v.t;.rw[if_pos U];rw[if_neg (by omega),if_pos U.symm]at this;rw[<-U];omega
          . rw[if_neg U];rw[if_neg (c:=v.t=p) (λz=>U z.symm)]at this;by_cases W:p=v.s;.rw[if_pos W];rw[if_pos W.symm]at this;rw[<-W];omega
            .rw[if_neg W];rw[if_neg λz=>W z.symm]at this;omega
        .rw[A.wi,O];exact⟨λz=>z.2,λz=>⟨⟨by omega,by omega⟩,z⟩⟩
  . rintro _⟨E,gs,ls,s5,s6,rfl,⟨h5,h6⟩,hr,A⟩;have:E=[]:=by have:=A.fl;cases E with|nil=>rfl|cons _ _=>cases gs with|nil=>simp at this|cons _ _=>simp at hr
    subst this;have C:∀p,0<=p->p<m->iU ls p=over p ws fs:=λp B p1=>by have:=A.ov p B p1;have e:over p [] gs=0:=rfl;omega
    have Z:Within ws fs:=A.wi.mpr λk u f Y _=>by simp at Y
    have J:=A.len;have a0:=jb (cl:=ls) (p:=0) (by omega) (by omega);symm;by_cases c0:iU ls 0<0;.simp[a0,c0];symm;simp;exact k _ (.inl ⟨rfl,λz=>by have:=z.2.2.1;rw[<-C 0 (by omega) (by omega)]at this;omega⟩)
    have ac:(cut ls (some 1) (some (-1))).length<=16777216:=le_trans qW (by omega);have G:=Kd (ls:=ls) (by omega);simp[a0,c0,abT,pA,ac];refine jZ (FLr _ _ _ _ _ _ _) Zy ⟨.aQ,rfl,rfl⟩ ?_ ?_
    . rintro d hd _⟨s,rfl,hs⟩;obtain⟨i,hi,rfl⟩:=mem_map.mp hd;rw[show Zy (.int i)=if i=0 then none else some (.int i)from rfl];by_cases c:i=0;.simp[hs,c];exact⟨_,rfl,rfl⟩
      .simp[hs,c];exact⟨_,rfl,rfl⟩
    rintro _⟨s,rfl,hs⟩;rw[Bk];generalize((cut ls (some 1) (some (-1))).filter λi=>decide (i≠0))=L at*;simp[Mg];refine⟨λH=>?_,λH=>?_⟩;.symm;simp[a0];exact k _ (.inr ⟨⟨_,rfl⟩,hf,Z,by rw[<-C 0 (by omega) (by omega)];omega,λp B p1=>by rw[<-C p (by omega) (by omega)];exact G.mp H p B (by omega)⟩)
    .symm;simp;exact k _ (.inl ⟨rfl,λz=>H (G.mpr λp B p1=>by rw[C p (by omega) (by omega)];exact z.2.2.2 p B (by omega))⟩)
inductive JCk(m:Int)(ws:List Wy)(fs cl:List Int)(a0 a1 a2:Sl)(r:List D)(ρ:List Sl):Prop where|mk(bV us:List (Wy×Int))(s3 s4 s5:Sl)(q0:ρ=[a0,a1,a2,s3,s4,s5])(q1:A3 (fr s3=true) (fr s4=true) (fr s5=true))(q2:r=us.map (λp=>D.tup [p.1.d,.int p.2]))(q3:bV++us=ws.zip fs)(q4:∀z∈bV,Dr cl z.1 z.2=true)
theorem HD{b:Bool}{t:Sl}{fs:List Int}(ht:Gn t cl)(h:dY m ws)(k:∀x:Bool,(x=true↔KQ m ws fs cl)->Q (.val (.bl x)) [.val false (aR m ws),.val b (.lst (fs.map D.int)),t]):(run Γ w (n+1) 25 [.val false (aR m ws),.val b (.lst (fs.map D.int)),t]).sat Q:=by
 have m0:=h.m0;have hn:=h.len;have O:(¬ KQ m ws fs cl)->Q (.val (.bl false)) [.val false (aR m ws),.val b (.lst (fs.map D.int)),t]:=λz=>k false ⟨λy=>Bool.noConfusion y,λy=>absurd y z⟩;refine aN (d:=Ua) rfl rfl (by decide) ?_;symm;by_cases c1:(cl.length:Int)=m
 . have U:=jb (cl:=cl) (p:=0) (by omega) (by omega);by_cases c2:iU cl 0=0;.rcases ht with rfl|⟨b2,rfl⟩;all_goals
      simp[Ua,c1,U,c2];apply ak;simp;rw[BW];refine cL (JCk m ws fs cl _ _ _) ?_ ?_ ⟨[],ws.zip fs,.aQ,.aQ,.aQ,rfl,⟨rfl,rfl,rfl⟩,rfl,rfl,by simp⟩;.rintro d r _⟨C,A,s3,s4,s5,rfl,⟨Y,Z,W⟩,hr,hd,E⟩;cases A with|nil=>cases hr|cons u A=>
          obtain⟨rfl,rfl⟩:d=D.tup [u.1.d,.int u.2]/\r=A.map (λp=>D.tup [p.1.d,.int p.2]):=by simpa using hr
          have X:u∈ws.zip fs:=by rw[<-hd];simp
          have L:=h.ok u.1 (of_mem_zip X).1;have x1:=jb (cl:=cl) L.s0 (by have:=L.s1;omega);have x2:=jb (cl:=cl) L.t0 (by have:=L.t1;omega);simp[Y,Z,W];apply ak;simp[Rw,Pr,O7,x1,x2,W];have G:Dr cl u.1 u.2=true↔(u.1.r<=u.2\/iU cl u.1.t<=iU cl u.1.s+u.1.h)/\(u.2<=0\/iU cl u.1.s+u.1.h<=iU cl u.1.t):=by unfold Dr;simp
          generalize ac:iU cl u.1.t-iU cl u.1.s-u.1.h=lt;have bad:¬(Dr cl u.1 u.2=true)->Q (.val (.bl false)) _:=λz=>O λy=>z (y.all u X);have e:Dr cl u.1 u.2=true->∀z∈C++[u],Dr cl z.1 z.2=true:=λy z hz=>by
           rcases mem_append.mp hz with hz|hz;.exact E z hz
           .rw[mem_singleton.mp hz];exact y
          have B:(C++[u])++A=ws.zip fs:=by rw[append_assoc];exact hd
          symm;by_cases H:u.2<u.1.r
          . by_cases M:0<lt;.simp[qQ,H,M];symm;simp;exact bad λz=>by have:=G.mp z;omega
            . by_cases I:0<u.2
              . by_cases J:lt<0;.simp[qQ,H,M,I,J];symm;simp;exact bad λz=>by have:=G.mp z;omega
                .simp[qQ,H,M,I,J];exact⟨C++[u],A,_,_,_,rfl,⟨rfl,rfl,rfl⟩,rfl,B,e (G.mpr ⟨by omega,by omega⟩)⟩
              .simp[qQ,H,M,I];exact⟨C++[u],A,_,_,_,rfl,⟨rfl,rfl,rfl⟩,rfl,B,e (G.mpr ⟨by omega,by omega⟩)⟩
          . by_cases I:0<u.2
            . by_cases J:lt<0;.simp[qQ,H,I,J];symm;simp;exact bad λz=>by have:=G.mp z;omega
              .simp[qQ,H,I,J];exact⟨C++[u],A,_,_,_,rfl,⟨rfl,rfl,rfl⟩,rfl,B,e (G.mpr ⟨by omega,by omega⟩)⟩
            .simp[qQ,H,I];exact⟨C++[u],A,_,_,_,rfl,⟨rfl,rfl,rfl⟩,rfl,B,e (G.mpr ⟨by omega,by omega⟩)⟩
      . rintro _⟨C,A,s3,s4,s5,rfl,_,hr,hd,E⟩;have:A=[]:=by cases A with|nil=>rfl|cons _ _=>cases hr
        subst this;rw[append_nil]at hd;symm;simp;exact k true ⟨λ_=>⟨c1,c2,by rw[<-hd];exact E⟩,λ_=>rfl⟩
   .rcases ht with rfl|⟨b2,rfl⟩;all_goals simp[Ua,c1,U,c2];apply ak;simp;exact O λz=>c2 z.z
 .rcases ht with rfl|⟨b2,rfl⟩;all_goals simp[Ua,c1];apply ak;simp;exact O λz=>c1 z.len
theorem Hr{S:List Int}:il 7 (.lst (S.map D.int))=true:=by show(S.map D.int).all (il 6)=true;rw[all_eq_true];intro d hd;obtain⟨p,_,rfl⟩:=mem_map.mp hd;rfl
theorem uG:∀{S:List Int},iw (S.map D.int) (S.map D.int)=true|[]=>rfl|u::e=>by show(decide (u=u)&&iw (e.map D.int) (e.map D.int))=true;rw[uG];simp
theorem Px{S T:List Int}:cm .eq (.tup [.lst (S.map D.int),.lst (T.map D.int)]) (.tup [.lst (S.map D.int),.lst (T.map D.int)])=some true:=by
 show yl _ _=_;unfold yl;have h1:il 8 (.tup [.lst (S.map D.int),.lst (T.map D.int)])=true:=by show(il 7 (.lst (S.map D.int))&&(il 7 (.lst (T.map D.int))&&true))=true;rw[Hr,Hr];rfl
 have e:jo (.tup [.lst (S.map D.int),.lst (T.map D.int)]) (.tup [.lst (S.map D.int),.lst (T.map D.int)])=true:=by show(iw (S.map D.int) (S.map D.int)&&(iw (T.map D.int) (T.map D.int)&&true))=true;rw[uG,uG];rfl
 rw[h1,e];rfl
theorem Xd{a b:Bool}(h:a=b):cm .eq (.bl a) (.bl b)=some true:=by subst h;cases a<;>rfl
theorem dq{s t:Sl}{fs:List Int}(hs:Gn s fs)(ht:Gn t cl)(h:dY m ws)(y:fs.length<=1000)(A:cl.length<=1000)(k:Q (.val (.bl true)) [.val false (aR m ws),cM s,cM t]):(run Γ w (n+6) 26 [.val false (aR m ws),s,t]).sat Q:=by
 have L:=h.len;refine aN (d:=f26) rfl rfl (by decide) ?_;refine cU (λρ=>ρ=[.val false (aR m ws),s,t,.val false (.tup [.lst (fs.map D.int),.lst (cl.map D.int)]),.aQ,.aQ]) ?_ ?_;.rcases hs with rfl|⟨b1,rfl⟩<;>rcases ht with rfl|⟨b2,rfl⟩<;>simp[f26]<;>exact⟨by show _<=16777216;omega,by show _<=16777216;omega⟩
 rintro _ rfl;symm;simp;refine vY h y A λb G=>?_;simp;refine cU (λρ=>∃e,(e=s\/e=cM s)/\ρ=[.val false (aR m ws),e,t,.val false (.tup [.lst (fs.map D.int),.lst (cl.map D.int)]),.val false (.bl b),.val false (.bl b)]) ?_ ?_
 . have H:¬ kZ m ws fs->b=false:=λz=>by cases b with|false=>rfl|true=>exact absurd (G.mp rfl).1 z
   by_cases B:fs.length=ws.length
   . rcases hs with rfl|⟨b1,rfl⟩;all_goals rcases ht with rfl|⟨b2,rfl⟩
     all_goals
      simp[B];refine Df (by first|exact .inl rfl|exact .inr ⟨_,rfl⟩) h B λd hd=>?_;rcases hd with⟨rfl,hd⟩|⟨⟨i,rfl⟩,hd⟩;.have:=H hd;subst this;simp[cM]
      .simp[cM];refine HD (by first|exact .inl rfl|exact .inr ⟨_,rfl⟩) h λx I=>?_;have:x=b:=Bool.eq_iff_iff.mpr (by rw[I,G];exact⟨λz=>⟨hd,z⟩,λz=>z.2⟩);subst this;simp
   . have:=H λz=>B z.1;subst this;have C:¬(fs.length:Int)=(ws.length:Int):=by omega
     rcases hs with rfl|⟨b1,rfl⟩<;>rcases ht with rfl|⟨b2,rfl⟩<;>simp[C]
 rintro _⟨e,r,rfl⟩;symm;have J:=Xd (a:=b) (b:=b) rfl;have E:cM e=cM s:=by
  rcases r with rfl|rfl;.rfl
  .cases s<;>rfl
 have u:(∃b1,e=.val b1 (.lst (fs.map D.int)))\/∃b1,e=.own b1 (fs.map D.int):=by
  rcases hs with rfl|⟨b1,rfl⟩<;>rcases r with rfl|rfl;.exact .inl ⟨_,rfl⟩
  .exact .inl ⟨_,rfl⟩
  .exact .inr ⟨_,rfl⟩
  .exact .inl ⟨_,rfl⟩
 rw[<-E]at k;rcases u with⟨b1,rfl⟩|⟨b1,rfl⟩;all_goals rcases ht with rfl|⟨b2,rfl⟩
 all_goals simp only[cM]at k;simp[J,Px];exact k
theorem adf:yK (.lst ds) (part (.con .non) .non) (part (.neg (.con (.int 1))) (.int (-1)))=some (.own (cut ds none (some (-1)))):=rfl
theorem adF{i:Int}{x:Nat}:yK (.lst ds) (part (.con .non) .non) (part (.var x) (.int i))=some (.own (cut ds none (some i))):=rfl
theorem abq{i:Int}{x:Nat}:yK (.lst ds) (part (.bin .add (.var x) (.con (.int 1))) (.int i)) (part (.con .non) .non)=some (.own (cut ds (some i) none)):=rfl
inductive JCh(a0 a1:Sl)(N:Nat)(i:Nat)(ρ:List Sl):Prop where|mk(rs:List (List Int))(s3:Sl)(q0:ρ=[a0,a1,.own false (rs.map oA),s3])(q1:fr s3=true)(q2:(∀r∈rs,r.length<=N))(q3:rs.length<=i+2)
theorem nY{fs:List Int}(u:fs.length<=100)(k:∀e:List (List Int),(∀r∈e,r.length<=300)->e.length<=102->Q (.own (e.map oA)) [.val false (.lst (fs.map D.int)),.val false (.int b)]):(run Γ w (n+1) 27 [.val false (.lst (fs.map D.int)),.val false (.int b)]).sat Q:=by
 refine aN (d:=f27) rfl rfl (by decide) ?_;refine cU (λρ=>ρ=[.val false (.lst (fs.map D.int)),.val false (.int b),.own false ([fs++[b],cut fs none (some (-1))].map oA),.aQ]) ?_ ?_;.simp[f27,adf,pA,oA];show _<=16777216;omega
 rintro _ rfl;symm;simp[show(fs.length:Int)<=1000000000 by omega];refine iH (JCh _ _ 300) ?_ ?_ ⟨[fs++[b],cut fs none (some (-1))],.aQ,rfl,rfl,?_,by simp⟩
 . rintro i _ hi⟨e,s3,rfl,y,hr,A⟩;have B:at' (fs.map D.int) (i:Int)=some (.int fs[i]):=fX (by simp[hi]);have C:(cut fs none (some (i:Int))).length<=100:=le_trans qW u;have l2:(cut fs (some ((i:Int)+1)) none).length<=100:=le_trans qW u;simp[y];apply ak;simp[adF,abq,pA,B];generalize cut fs none (some (i:Int))=h at*;generalize cut fs (some ((i:Int)+1)) none=t at*;simp[show h.length+1<=16777216 by omega,show h.length+(t.length+1)<=16777216 by omega,show h.length+1+t.length<=16777216 by omega,show e.length<16777216 by omega];refine⟨e++[h++(fs[i]+b)::t],.val false (.int i),?_,rfl,λr hr2=>?_,by simp;omega⟩;.simp[oA]
   . rcases mem_append.mp hr2 with hr2|hr2;.exact hr r hr2
     .rw[mem_singleton.mp hr2];simp;omega
 .rintro _⟨e,s3,rfl,y,hr,A⟩;symm;simp;exact k e hr (by omega)
 . intro r hr;simp at hr;rcases hr with rfl|rfl;.simp;omega
   .exact le_trans qW (by omega)
inductive JDw(y N f:Int)(ρ:List Sl):Prop where|mk(x z:Int)(s:Sl)(q0:ρ=[.own true [.int x,.int y,.int z],.val false (.int N),.val false (.int f),s])(q1:fr s=true)
theorem ints_of:∀{ds:List D},(∀d∈ds,∃i,d=D.int i)->∃ns:List Int,ds=ns.map D.int|[],_=>⟨[],rfl⟩|d::ds,h=>by obtain⟨i,rfl⟩:=h d (by simp);obtain⟨ns,rfl⟩:=ints_of (ds:=ds) λd hd=>h d (by simp[hd]);exact⟨i::ns,rfl⟩
theorem sr{x y N:Int}(h0:0<=N)(h1:N<=100)(k:∀(x z:Int)(ns:List Int),ns.length<=100->Q (.own (ns.map D.int)) [.own true [.int x,.int y,.int z],.val false (.int N)]):(run Γ w (n+3) 28 [.own true [.int x,.int y,.int z],.val false (.int N)]).sat Q:=by
 refine aN (d:=f28) rfl rfl (by decide) ?_;symm;simp[f28];refine bH (by decide) (by decide) λe x z h t=>?_;obtain⟨p,ep,C,p1⟩:=tO (ns:=[3,1000000,100000000000000000000000000000]) (lo:=1) (hi:=100000000000000000000000000000) h (by simpa using t) (by simp);simp only[map_cons,map_nil]at ep;simp[ep];apply ak;simp[show N<=1000000000 by omega,show-1000000000<=N by omega];refine⟨λ_=>?_,by omega⟩;refine sy (JDw y N p) (λd=>∃i,d=D.int i) ⟨x,z,.aQ,rfl,rfl⟩ ?_ ?_
 . rintro d hd _⟨x,z,s,rfl,hs⟩;obtain⟨i,hi,rfl⟩:=mem_map.mp hd;simp[hs];refine fP (by omega) (by show _<(1606938044258990275541962092341162602522202993782792835301376:Int);omega) λr x z r0 r1=>?_;simp;refine bH (by decide) (by decide) λc x z c0 c1=>?_;have u:ju (.int (p/2)) (.int c)=some (.val (.int (p/2*c))):=by show(if _ then _ else _)=_;rw[if_pos];right;omega
   simp[u];exact⟨x,z,_,rfl,rfl⟩
 rintro xs _⟨x,z,s,rfl,hs⟩A B;obtain⟨ns,rfl⟩:=ints_of B;simp at A;simp;exact k x z ns (by omega)
theorem FJ:blt .xH [.tup ds]=(ds.mapM gn).bind λns=>ns.min?.map λi=>.val (.int i):=rfl
theorem Eu:blt .Ef [.tup ds]=(ds.mapM gn).bind λns=>ns.max?.map λi=>.val (.int i):=rfl
theorem acO:yK v.d (part (.con .non) .non) (part (.con (.int 2)) (.int 2))=some (.val (.tup [.int v.s,.int v.t])):=rfl
theorem Yc:yK v.d (part (.con (.int 2)) (.int 2)) (part (.con .non) .non)=some (.val (.tup [.int v.r,.int v.h])):=rfl
theorem Wl:yK (.tup ds) (part (.con .non) .non) (part (.con (.int 11)) (.int 11))=some (.val (.tup (cut ds none (some 11)))):=rfl
def sw(v:Wy):Wy:=⟨min v.s v.t,max v.s v.t,v.r,v.h⟩
def swD:D->D|.tup [.int s,.int t,.int r,.int h]=>(sw ⟨s,t,r,h⟩).d|d=>d
inductive F8(a b c d e f g h:Sl)(ρ:List Sl):Prop where|mk(s:Sl)(q0:ρ=[a,b,c,d,e,f,g,h,s])(q1:fr s=true)
theorem Sd{a b:Option Int}:cut (ws.map Wy.d) a b=(cut ws a b).map Wy.d:=by unfold cut;simp
theorem Kq{e:Type}{xs:List e}{lo hi:Option Int}{x:e}(h:x∈cut xs lo hi):x∈xs:=by unfold cut at h;exact List.mem_of_mem_drop (List.mem_of_mem_take h)
theorem Qo{c:Call}{x:Nat}{i e:P}{ρ:List Sl}:ex c n (.ins x i e) ρ=(lift (zx ρ x) ρ).bind λ_ ρ=>(cW (isVar i) (ev c i) ρ).bind λk ρ=>(ev c e ρ).bind λr ρ=>match ρ[x]?,k with|some (.own b ds),.int j=>if 0<=j/\j<=1000000/\ds.length<lim then .ok .next (ρ.set x (.own b (ds.take j.toNat++r.d::ds.drop j.toNat)))else .stuck|_,_=>.stuck:=(rfl)
theorem SM:blt .int [.bl true]=some (.val (.int 1)):=rfl
theorem Qn:blt .int [.bl false]=some (.val (.int 0)):=rfl
theorem Jb{x y:Int}(h:dY m ws)(k:∀x z:Int,Q (.val (.bl true)) [.own true [.int x,.int y,.int z],.val false (aR m ws)]):(run Γ w (n+7) 29 [.own true [.int x,.int y,.int z],.val false (aR m ws)]).sat Q:=by
 have hn:=h.len;have m0:=h.m0;have m1:=h.m1;refine aN (d:=ZP) rfl rfl (by decide) ?_;symm;have B:(cut ws none (some 11)).length<=11:=by show((ws.drop 0).take (min 11 ws.length-0)).length<=11;rw[length_take];omega
 have hok:∀v∈(cut ws none (some 11)).map sw,v.Ok m:=λv hv=>by obtain⟨u,I,rfl⟩:=mem_map.mp hv;have o:=h.ok u (Kq I);have J:=o.s0;have a2:=o.s1;have a3:=o.t0;have a4:=o.t1;have a5:=o.ne;exact⟨by show 0<=min _ _;omega,by show min _ _<m;omega,by show 0<=max _ _;omega,by show max _ _<m;omega,by show min u.s u.t≠max u.s u.t;omega,o.r0,o.r1,o.h0,o.h1⟩
 have L:((cut ws none (some 11)).map sw).length<=11:=by simpa using B
 simp[ZP,Wl,Sd,show(cut ws none (some 11)).length<=16777216 by omega];refine bI (F8 _ _ _ _ _ _ _ _) swD ⟨.aQ,rfl,rfl⟩ ?_ ?_;.rintro d hd _⟨s,rfl,hs⟩;obtain⟨v,hv,rfl⟩:=mem_map.mp hd;simp[hs,acO,Yc,FJ,Eu];exact⟨by decide,rfl,_,rfl,rfl⟩
 rintro _⟨s,rfl,hs⟩;have e:((cut ws none (some 11)).map Wy.d).map swD=((cut ws none (some 11)).map sw).map Wy.d:=by rw[map_map,map_map];rfl
 rw[e];generalize(cut ws none (some 11)).map sw=A at*;simp;apply ak;simp;refine bH (by decide) (by decide) λr x z r0 r1=>?_;simp;apply ak;simp;refine bH (by decide) (by decide) λh x z h0 h1=>?_;simp;apply ak;simp;refine bH (by omega) (gU (by omega)) λa x z a0 J=>?_;simp;apply ak;simp[Qo,show 0<=a by omega,show a<=1000000 by omega,show A.length<16777216 by omega];have G:dY m (A.take a.toNat++⟨m-1,0,1+r,1+h⟩::A.drop a.toNat):=by
  refine⟨m0,m1,by simp;omega,λv hv=>?_⟩;rcases mem_append.mp hv with hv|hv;.exact hok v (List.mem_of_mem_take hv)
  . rcases mem_cons.mp hv with rfl|hv;.exact⟨by show 0<=m-1;omega,by show m-1<m;omega,by show(0:Int)<=0;omega,by show(0:Int)<m;omega,by show m-1≠0;omega,by show 0<=1+r;omega,by show 1+r<=_;omega,by show 1<=1+h;omega,by show 1+h<=_;omega⟩
    .exact hok v (List.mem_of_mem_drop hv)
 have O:(A.map Wy.d).take a.toNat++D.tup [.int (m-1),.int 0,.int (1+r),.int (1+h)]::(A.map Wy.d).drop a.toNat=(A.take a.toNat++⟨m-1,0,1+r,1+h⟩::A.drop a.toNat).map Wy.d:=by rw[map_append,map_cons,List.map_take,List.map_drop];rfl
 rw[O];generalize(A.take a.toNat++(⟨m-1,0,1+r,1+h⟩:Wy)::A.drop a.toNat)=vs at*;have U:=G.len;symm;simp[show(vs.length:Int)<=1000000000 by omega,show vs.length<=16777216 by omega];refine sy (F8 _ _ _ _ _ _ _ _) (λd=>∃i,d=D.int i) ⟨.aQ,rfl,rfl⟩ ?_ ?_
 . rintro d hd _⟨s,rfl,hs⟩;obtain⟨i,hi,rfl⟩:=mem_map.mp hd;have H:∀c:Int,0<=c->c<=1->ju (.int (1+r)) (.int c)=some (.val (.int ((1+r)*c))):=λc c0 c1=>by show(if _ then _ else _)=_;rw[if_pos];right;omega
   have h0:=H 0 (by omega) (by omega);have h1:=H 1 (by omega) (by omega);by_cases c:(i:Int)=a;.simp[hs,c,SM,h1];exact⟨_,rfl,rfl⟩
   . have W:((i:Int)==a)=false:=by simp[c]
     simp[hs,W,Qn,h0];exact⟨_,rfl,rfl⟩
 rintro xs _⟨s,rfl,hs⟩X Y;obtain⟨ns,rfl⟩:=ints_of Y;simp at X;simp;apply ak;simp;refine bH (by decide) (by decide) λc x z c0 c1=>?_;obtain⟨M,Z⟩:∃M:Nat,m-1=M:=⟨(m-1).toNat,by omega⟩;have C:∀q:Int,ju (.lst [.int q]) (.int (m-1))=some (.own ((replicate M q).map D.int)):=λq=>by rw[Z];show(if _ then _ else _)=_;rw[if_pos ⟨by omega,by simp,by simp;show _<=16777216;omega⟩];simp
 simp[C];refine⟨by show _<=16777216;omega,?_⟩;have e3:D.int 0::replicate M (D.int (-(1+h)-c))=(0::replicate M (-(1+h)-c)).map D.int:=by simp
 rw[e3];have E:(0::replicate M (-(1+h)-c)).length<=1000:=by simp;omega
 generalize(0::replicate M (-(1+h)-c))=cl at*;symm;simp;have e4:D.tup [.int m,.tup (vs.map Wy.d)]=aR m vs:=rfl;rw[e4];refine dq (.inr ⟨_,rfl⟩) (.inr ⟨_,rfl⟩) G (by omega) E ?_;simp[cM];exact k x z
def tlD:D->D|.tup [.int _,.int _,.int r,.int h]=>(⟨0,1,r,h⟩:Wy).d|d=>d
def G3(f:Wy->Int):D->D|.tup [.int s,.int t,.int r,.int h]=>.int (f ⟨s,t,r,h⟩)|d=>d
inductive F4n(a b c d:Sl)(ρ:List Sl):Prop where|mk(s:Sl)(q0:ρ=[a,b,c,d,s])(q1:fr s=true)
@[simp]theorem Xw{ds:List D}:blt .Jh [.lst ds]=(ds.mapM gn).map λns=>.val (.int (ns.max?.getD 0)):=rfl
theorem Ie{x y:Int}(h:dY m ws)(k:∀x z:Int,Q (.val (.bl true)) [.own true [.int x,.int y,.int z],.val false (aR m ws)]):(run Γ w (n+7) 30 [.own true [.int x,.int y,.int z],.val false (aR m ws)]).sat Q:=by
 have H:=h.len;refine aN (d:=YS) rfl rfl (by decide) ?_;symm;have G:dY 2 (ws.map λv=>(⟨0,1,v.r,v.h⟩:Wy)):=⟨by omega,by omega,by simpa using H,λv A=>by obtain⟨u,I,rfl⟩:=mem_map.mp A;have o:=h.ok u I;exact⟨by show(0:Int)<=0;omega,by show(0:Int)<2;omega,by show(0:Int)<=1;omega,by show(1:Int)<2;omega,by show(0:Int)≠1;omega,o.r0,o.r1,o.h0,o.h1⟩⟩;simp[YS,show ws.length<=16777216 by omega];refine bI (F4n _ _ _ _) tlD ⟨.aQ,rfl,rfl⟩ ?_ ?_;.rintro d hd _⟨s,rfl,hs⟩;obtain⟨v,A,rfl⟩:=mem_map.mp hd;simp[hs,Yc];exact⟨by decide,rfl,_,rfl,rfl⟩
 rintro _⟨s,rfl,hs⟩;have e:(ws.map Wy.d).map tlD=(ws.map λv=>(⟨0,1,v.r,v.h⟩:Wy)).map Wy.d:=by rw[map_map,map_map];rfl
 rw[e];generalize(ws.map λv=>(⟨0,1,v.r,v.h⟩:Wy))=vs at*;have J:=G.len;simp;apply ak;simp[show vs.length<=16777216 by omega];refine bI (λρ=>∃s,ρ=[_,_,.lent (vs.map Wy.d),_,s]/\fr s=true) (G3 Wy.h) ⟨.aQ,rfl,rfl⟩ ?_ ?_;.rintro d hd _⟨s,rfl,hs⟩;obtain⟨v,A,rfl⟩:=mem_map.mp hd;simp[hs,O7];rfl
 rintro _⟨s,rfl,hs⟩;have L:(vs.map Wy.d).map (G3 Wy.h)=(vs.map Wy.h).map D.int:=by rw[map_map,map_map];rfl
 rw[L];have B:=iC (ns:=vs.map Wy.h);generalize vs.map Wy.h=C at*;simp[B];refine bH (by decide) (by decide) λt x z t0 t1=>?_;obtain⟨p,ep,W,p1⟩:=tO (ns:=[0,-1,1,10000000000000000000000000000]) (lo:=-1) (hi:=10000000000000000000000000000) t0 (by simpa using t1) (by simp);simp only[map_cons,map_nil]at ep;simp[ep];apply ak;simp[show vs.length<=16777216 by omega];refine bI (λρ=>∃s,ρ=[_,_,.lent (vs.map Wy.d),_,s]/\fr s=true) (G3 Wy.r) ⟨.aQ,rfl,rfl⟩ ?_ ?_;.rintro d hd _⟨s,rfl,hs⟩;obtain⟨v,A,rfl⟩:=mem_map.mp hd;simp[hs,qQ];rfl
 rintro _⟨s,rfl,hs⟩;have M:(vs.map Wy.d).map (G3 Wy.r)=(vs.map Wy.r).map D.int:=by rw[map_map,map_map];rfl
 rw[M];have E:(vs.map Wy.r).length<=1000:=by simp;omega
 generalize vs.map Wy.r=X at*;simp;have O:D.tup [.int 2,.tup (vs.map Wy.d)]=aR 2 vs:=rfl;rw[O];generalize C.max?.getD 0+p=q;have U:[D.int 0,.int q]=[0,q].map D.int:=rfl;rw[U];refine dq (cl:=[0,q]) (.inr ⟨_,rfl⟩) (.inr ⟨_,rfl⟩) G E (by simp) ?_;simp[cM];exact k x z
inductive ab3(ns:List Int)(_:Nat)(ρ:List Sl):Prop where|mk(cs:List Int)(s:Sl)(q0:ρ=[.val false (.lst (ns.map D.int)),.val false (.int 6),.own false (cs.map D.int),s])(q1:fr s=true)(q2:cs.length=6)
theorem zf{ns:List Int}(A:ns.length<=63)(k:∀cs:List Int,cs.length<=6->Q (.own (cs.map D.int)) [.val false (.lst (ns.map D.int)),.val false (.int 6)]):(run Γ w (n+1) 31 [.val false (.lst (ns.map D.int)),.val false (.int 6)]).sat Q:=by
 refine aN (d:=YX) rfl rfl (by decide) ?_;refine cU (λρ=>ρ=[.val false (.lst (ns.map D.int)),.val false (.int 6),.own false ((replicate 6 (0:Int)).map D.int),.aQ]) ?_ ?_;.simp[YX];decide
 rintro _ rfl;symm;simp[show(ns.length:Int)<=1000000000 by omega];refine iH (ab3 ns) ?_ ?_ ⟨replicate 6 0,.aQ,by simp,rfl,by simp⟩;.rintro i _ hi⟨cs,s,rfl,hs,e⟩;obtain⟨j,r,h⟩:∃j:Nat,(i:Int)%6=(j:Int)/\j<cs.length:=⟨i%6,by omega,by omega⟩;have t:at' (cs.map D.int) (j:Int)=some (.int cs[j]):=fX (by simp[h]);have u:at' (ns.map D.int) (i:Int)=some (.int ns[i]):=fX (by simp[hi]);have y:iy cs.length (j:Int)=some j:=Qc h;simp[hs];apply ak;simp[r,t,u,y];exact⟨cs.set j (cs[j]*1000003+ns[i]),.val false (.int i),by simp[map_set],rfl,by simpa using e⟩
 .rintro _⟨cs,s,rfl,hs,e⟩;symm;simp[abv,pA];exact k _ (le_trans qW (by omega))
inductive J32(v:Sl)(r:List D)(ρ:List Sl):Prop where|mk(s1:Sl)(s2:Sl)(s3:Sl)(s4:Sl)(s5:Sl)(s6:Sl)(q0:ρ=[v,s1,s2,s3,s4,s5,s6])(q1:A6 (fr s1=true) (fr s2=true) (fr s3=true) (fr s4=true) (fr s5=true) (fr s6=true))(q2:∀d∈r,∃i,d=D.int i)
theorem An{e:Type}{l:List e}:(l.map λ_=>D.bl true).mapM zb=some (l.map λ_=>true):=by induction l with|nil=>rfl|cons a l h=>simp[h]
theorem all_true{e:Type}{l:List e}:(l.map λ_=>true).all id=true:=by simp
inductive F8n(a b c d e f g:Sl)(ρ:List Sl):Prop where|mk(s:Sl)(q0:ρ=[a,b,c,d,e,f,g,s])(q1:fr s=true)
theorem JQ(ns:List Int)(M:ns.length<=63):∃as,run Γ 100000000 40 32 [.val false (.lst (ns.map D.int))]=.ok (.val (.bl true)) as:=by
 suffices h:(run Γ 100000000 40 32 [.val false (.lst (ns.map D.int))]).sat λr _=>r=.val (.bl true)by obtain⟨a,ρ,e,rfl⟩:=sat_iff.mp h;exact⟨ρ,e⟩
 refine aN (d:=Zk) rfl rfl (by decide) ?_;symm;simp[Zk];refine zf M λcs O=>?_;simp;refine cL (J32 (.val false (.lst (ns.map D.int)))) ?_ ?_ ⟨_,_,_,_,_,_,rfl,⟨rfl,rfl,rfl,rfl,rfl,rfl⟩,λd hd=>?_⟩
 . rintro d r _⟨s1,s2,s3,s4,s5,s6,rfl,⟨h1,U,W,Z,h5,h6⟩,hd⟩;obtain⟨x,rfl⟩:=hd d (by simp);simp[h1];apply ak;simp;refine HR λa y c=>?_;simp[U];apply ak;simp;refine K3 λx z m ws u=>?_;have G:=u.len;have m0:=u.m0;have m1:=u.m1;simp[W];apply ak;simp;refine Jb u λx z=>?_;simp;refine Ie u λx z=>?_;simp;apply ak;simp;refine Hg u λA A0 A1 hA=>?_;simp;refine fP (by omega) (gU (by omega)) λq x z q0 q1=>?_;simp;refine CJ (by decide) u q0 (λcs hE=>?_) λfs cl ac ae=>?_;.obtain⟨S,hS,hc⟩:=hE.cut;have:=hA S hS;omega
   simp[lgD,Z,h5];apply ak;simp;refine bH (by decide) (by decide) λt x z t0 t1=>?_;obtain⟨p,ep,p0,p1⟩:=tO (ns:=[1,-1,1,10000000000000000000000000000,-1000000000]) (lo:=-1000000000) (hi:=10000000000000000000000000000) t0 (by simpa using t1) (by simp);simp only[map_cons,map_nil]at ep;simp[ep,h6];have rep:∀j:Nat,j<=12->ju (.lst [.int 0]) (.int (j:Int))=some (.own ((replicate j (0:Int)).map D.int)):=λj hj=>by show(if _ then _ else _)=_;rw[if_pos ⟨by omega,by simp,by simp;show _<=16777216;omega⟩];simp
   have H:=rep ws.length G;have C:=rep m.toNat (by omega);rw[show((m.toNat:Nat):Int)=m by omega]at C;have l1:(replicate ws.length (0:Int)).length<=1000:=by simp;omega
   have l2:(replicate m.toNat (0:Int)).length<=1000:=by simp;omega
   generalize replicate ws.length (0:Int)=z1 at*;generalize replicate m.toNat (0:Int)=z2 at*;symm;simp;refine dq (.inl rfl) (.inl rfl) u (by omega) (by omega) ?_;simp[cM,H,C];refine dq (.inr ⟨_,rfl⟩) (.inr ⟨_,rfl⟩) u l1 l2 ?_;simp;apply ak;simp;refine nY (by omega) λB hr hl=>?_;simp[show B.length<=16777216 by omega];refine bI (F8n _ _ _ _ _ _ _) (λ_=>.bl true) ⟨.aQ,rfl,rfl⟩ ?_ ?_;.rintro d hd _⟨s,rfl,hs⟩;obtain⟨R,I,rfl⟩:=mem_map.mp hd;simp[hs,oA];refine dq (.inl rfl) (.inl rfl) u (by have:=hr R I;omega) (by omega) ?_;simp[cM];exact⟨_,rfl,rfl⟩
   rintro _⟨s,rfl,hs⟩;have J:=An (l:=B.map oA);have L:=all_true (l:=B.map oA);generalize((B.map oA).map λ_=>D.bl true)=X at*;generalize((B.map oA).map λ_=>true)=Y at*;simp[J,L];apply ak;simp;refine nY (by omega) λB hr hl=>?_;simp[show B.length<=16777216 by omega];refine bI (F8n _ _ _ _ _ _ _) (λ_=>.bl true) ⟨.aQ,rfl,rfl⟩ ?_ ?_;.rintro d hd _⟨s,rfl,hs⟩;obtain⟨R,I,rfl⟩:=mem_map.mp hd;simp[hs,oA];refine dq (.inl rfl) (.inl rfl) u (by omega) (by have:=hr R I;omega) ?_;simp[cM];exact⟨_,rfl,rfl⟩
   rintro _⟨s,rfl,hs⟩;have J:=An (l:=B.map oA);have L:=all_true (l:=B.map oA);generalize((B.map oA).map λ_=>D.bl true)=X at*;generalize((B.map oA).map λ_=>true)=Y at*;simp[J,L];apply ak;simp;refine sr (by omega) (by omega) λx z d1 af=>?_;simp;refine dq (.inr ⟨_,rfl⟩) (.inl rfl) u (by omega) (by omega) ?_;simp[cM];apply ak;simp;refine sr (by omega) (by omega) λx z d2 E=>?_;simp;refine⟨by show _<=16777216;omega,?_⟩;have e6:D.int 0::d2.map D.int=(0::d2).map D.int:=rfl;rw[e6];refine dq (.inl rfl) (.inr ⟨_,rfl⟩) u (by omega) (by simp;omega) ?_;simp[cM];exact⟨_,_,_,_,_,_,rfl,⟨rfl,rfl,rfl,rfl,rfl,rfl⟩,λd E=>hd d (by simp[E])⟩
 .rintro _⟨s1,s2,s3,s4,s5,s6,rfl,_,hd⟩;symm;simp
 .obtain⟨i,_,rfl⟩:=mem_map.mp hd;exact⟨i,rfl⟩
end T
end
structure PySem.W.Fast:Prop where(tw5021427084383559386 tw18093834238602560686 tw10821729270435348965 tw16835762693412682328 tw4073875455996442563 tw12633165737865007424 tw975763546417642227 tw7902754240303911651 tw16133340101300890305 tw6332550637351023054 tw16626463949514309508 tw8219257766744006778 tw3787298556603431340 tw1816008617170682078 tw7241177098663297273 tw11589264087172560658 tw15443410789521311339 tw7456407454858044184 tw18040330587442329329 tw11387029293313678911 tw5510712467800726919 tw9852717507341835782 tw8199878845108891947 tw11500577101509149679 tw10115084485244859822 tw9671757050028022552 tw8473576594441072368 tw13529844756325773644 tw6496894781713666123 tw18275560002895471104 tw17143223181901336195 tw9594102521960361216 tw14715434423265870106 tw9924696231379498232 tw9047429988714218956 tw14598154608179094746 tw7382645068898951583 tw3064269470345345766 tw14589244604935634636 tw10256675300383672852 tw9241898254124042407 tw2094354968181201251 tw12075200498717600930 tw8104371997030482227 tw10230242088453810857 tw15163410395566980915 tw15643331002674554020 tw2892044721007181110 tw5302100720370044368 tw10554607093669697295 tw14962834259853056692 tw13387599908998678492 tw2453097824668058097 tw14569719077235504608 tw17482473287675623627 tw17580742314331988261 tw1227770369123561548 tw1528015664972256009 tw4971401327699568695 tw8176038256436869690 tw13393236640010122958 tw3446253413461232774 tw10962354043967507766 tw18157221004196875699 tw2569615381254462185 tw2939292495775147646 tw18025233941579105673 tw5374474628361865495 tw3986234531463451660 tw5802725980703259923 tw8707359672076109368 tw4650181467227686312 tw14795909922431978533 tw10889193810349902273 tw16829445714159772209 tw8620331642921586542 tw13675291220626492288 tw5585843667986064589 tw3948041321418944224 tw13857963566857912910 tw7889574654776070686 tw2445493960886366583 tw13218507302231095022 tw8916556789660634208 tw3285821090881594280 tw16908123122994309825 tw1778710080650442149 tw4071352225337112389 tw5194710798438833635 tw11440294133496778595 tw3972177163009375207 tw3884912881589576942 tw11302876624021084692 tw3629445665495462877 tw454019206900035857 tw15778544261445701550 tw12661034656106908772 tw5200053566124891952 tw2630864817717589883 tw13986195071645187889 tw6616668718663389867 tw2177382721205360675 tw7535307088944167119 tw10429417167722998050 tw6561291723432615872 tw9753568432684560955 tw7616867451174431897 tw11300854283522186597 tw14073546148607469055 tw13297029520693444536 tw14886077449233347542 tw6643973473693829982 tw12247463179819590619 tw6023432224262681357 tw11827102398396084057 tw11288395457702400289 tw8410713941280897500 tw8545143824206496832 tw3017088822480544935 tw14044238357220016382 tw3914491488235574108 tw10358787544384629232 tw4821005123303747215 tw10260376490647430209 tw6564734252155657092 tw520950137124982640 tw9921485724065355978 tw16308936446865299708 tw17214502563234783446 tw9581420481944009483 tw8187149104443523607 tw2098446192513699317 tw11747057098817987963 tw8145405200140344878 tw16660027053098355705 tw4662198988913652543 tw16914780903850718246 tw1926595993486807985 tw9028813897750733709 tw1356374863333767292 tw6649790083051688133 tw14576143899433551688 tw1155190612761923514 tw6509415265046058189 tw13873787880155155821 tw11846955380549647757 tw9840902046294115098 tw17928532740420735469 tw13862606393016660009 tw8497448621596446469 tw10190490932940995086 tw8209050031717551343 tw14333630763989017190 tw2939348933582161203 tw15139955384726414869 tw14198652696339364124 tw10414287405505978150 tw5675677712389062291 tw10683434233573196785 tw13635293331420801071 tw14525417631871360048 tw11501363858927579247 tw7404119969592538560 tw10469511422022918762 tw17083888244981243990 tw3618872156287676519 tw13361907488717957341 tw2373862970425302919 tw15018283926820675193 tw6629805330728328748 tw9933784344223612480 tw16525705323935071544 tw2006474057245261221 tw2941179007195545895 tw500705976949252853 tw8704168417904351706 tw7691231714920473660 tw16896624486622959987 tw7935449004758050298 tw3928619576124236663 tw10310443984277107931 tw1227273406088877361 tw7316804637234835644 tw4550874158196005665 tw2711778531884995629 tw17044618925484603520 tw7959389579116085292 tw18009398230842473442 tw6072324277341690685 tw2942553500981716599 tw5491636916485521374 tw15119674495786646557 tw8278408441646720879 tw10105614026255200939 tw1784780602651445789 tw9060085962882297040 tw8372159898857851764 tw16710585257099075365 tw17547272114290234958 tw9369538871986732247 tw5392943913069111478 tw859781127647397883 tw1927771583591916725 tw6821266455751657477 tw5164775147992068703 tw7479515301035960189 tw15181899349506846723 tw11695014501845084247 tw3261996448698581701 tw1405344107698996368 tw12098274531686319658 tw10118318867122226672 tw10545921637543823658 tw17992475571068935047 tw12460892882703410710 tw14137961926568447086 tw5671737706302862162 tw3858216855568604369 tw3324826178911644782 tw18011106352278182739 tw2671455520930405812 tw12066799100885011740:True)
namespace T
open PySem L2 PySem.Spec PyProof.Rows HH
theorem Wc{P:List Value → Prop}{n:Nat}(h:∀(a:Value)(b:List Value),b.length=n → P (a::b))(b:List Value)(c:b.length=n+1):P b:=by cases b with|nil=>cases c|cons a b=>exact h a b (Nat.succ.inj c)
theorem lk0{P:List Value → Prop}(h:P [])(b:List Value)(c:b.length=0):P b:=by cases b with|nil=>exact h|cons a b=>cases c
theorem Ke{P:List Value → Prop}(h:∀a,P [a]):∀b:List Value,b.length=1 → P b:=Wc λa=>lk0 (h a)
theorem iG{P:List Value → Prop}(h:∀a b,P [a,b]):∀c:List Value,c.length=2 → P c:=Wc λa=>Ke (h a)
theorem uh{P:List Value → Prop}(h:∀a b c,P [a,b,c]):∀e:List Value,e.length=3 → P e:=Wc λa=>iG (h a)
theorem lk4{P:List Value → Prop}(h:∀a b c d,P [a,b,c,d]):∀e:List Value,e.length=4 → P e:=Wc λa=>uh (h a)
theorem lk5{P:List Value → Prop}(h:∀a b c d e,P [a,b,c,d,e]):∀f:List Value,f.length=5 → P f:=Wc λa=>lk4 (h a)
local macro_rules|`(term|‹$p›)=>`(λ_ _ _ _ _ _=>$p)
structure Txt(K:PySem.W.Frag):Prop where
 D0:bO K "step_places" s0
 D1:bO K "step_hours" s1
 D2:bO K "step_room" s2
 D3:bO K "open_steps" s3
 D4:bO K "shortest_come" s4
 D5:bO K "steps_to" s5
 D6:bO K "stream_with" s6
 D7:bO K "chains_to_end" s7
 D8:bO K "cut_to_rate" s8
 D9:bO K "ways_out" s9
 D10:bO K "ways_in" rF
 D11:bO K "stays_at" YZ
 D12:bO K "stream_rate" s12
 D13:bO K "within_rooms" s13
 D14:bO K "stream_right" s14
 D15:bO K "found_clocks" s15
 D16:bO K "light_stream" s16
 D17:bO K "clock_holds" s17
 D18:bO K "clocks_right" s18
 D19:bO K "_law_pool" s19
 D20:bO K "_law_next" s20
 D21:bO K "_law_wide" s21
 D22:bO K "_law_net" s22
 D23:bO K "_law_most_rate" s23
 D24:bO K "_law_rate" s24
 D25:bO K "_law_clocks" s25
 D26:bO K "_law_right" s26
 D27:bO K "_law_changed" s27
 D28:bO K "_law_drawn" s28
 D29:bO K "_law_back_right" s29
 D30:bO K "_law_full_right" s30
 D31:bO K "_law_folded" s31
 D32:bO K "law" s32
 gR:PySem.W.nsIn K mainGlobals "all"=some none
 zW:PySem.W.nsIn K mainGlobals "bool"=some none
 dW:PySem.W.nsIn K mainGlobals "enumerate"=some none
 Jq:PySem.W.nsIn K mainGlobals "int"=some none
 jh:PySem.W.nsIn K mainGlobals "isinstance"=some none
 bu:PySem.W.nsIn K mainGlobals "len"=some none
 gK:PySem.W.nsIn K mainGlobals "list"=some none
 gM:PySem.W.nsIn K mainGlobals "max"=some none
 fc:PySem.W.nsIn K mainGlobals "min"=some none
 aX:PySem.W.nsIn K mainGlobals "range"=some none
 lH:PySem.W.nsIn K mainGlobals "reversed"=some none
 kW:PySem.W.nsIn K mainGlobals "sum"=some none
 dI:PySem.W.nsIn K mainGlobals "tuple"=some none
 jj:PySem.W.nsIn K mainGlobals "zip"=some none
noncomputable def jn{K:PySem.W.Frag}(T:Txt K):Nat->Addr:=λk=>0
structure Oks(Pg:Program)(w:World)(K:PySem.W.Frag)(mg:Str->Option Value)(base:Heap)(cl:Nat->Addr)(n:Nat):Prop where
 c0:aW Pg w K mg base n (run Γ 100000000 n) 0 "step_places" 2
 c1:aW Pg w K mg base n (run Γ 100000000 n) 1 "step_hours" 2
 c2:aW Pg w K mg base n (run Γ 100000000 n) 2 "step_room" 3
 c3:aW Pg w K mg base n (run Γ 100000000 n) 3 "open_steps" 2
 c4:aW Pg w K mg base n (run Γ 100000000 n) 4 "shortest_come" 3
 c5:aW Pg w K mg base n (run Γ 100000000 n) 5 "steps_to" 3
 c6:aW Pg w K mg base n (run Γ 100000000 n) 6 "stream_with" 3
 c7:aW Pg w K mg base n (run Γ 100000000 n) 7 "chains_to_end" 1
 c8:aW Pg w K mg base n (run Γ 100000000 n) 8 "cut_to_rate" 2
 c9:aW Pg w K mg base n (run Γ 100000000 n) 9 "ways_out" 2
 c10:aW Pg w K mg base n (run Γ 100000000 n) 10 "ways_in" 2
 c11:aW Pg w K mg base n (run Γ 100000000 n) 11 "stays_at" 3
 c12:aW Pg w K mg base n (run Γ 100000000 n) 12 "stream_rate" 2
 c13:aW Pg w K mg base n (run Γ 100000000 n) 13 "within_rooms" 2
 c14:aW Pg w K mg base n (run Γ 100000000 n) 14 "stream_right" 2
 c15:aW Pg w K mg base n (run Γ 100000000 n) 15 "found_clocks" 2
 c16:aW Pg w K mg base n (run Γ 100000000 n) 16 "light_stream" 2
 c17:aW Pg w K mg base n (run Γ 100000000 n) 17 "clock_holds" 3
 c18:aW Pg w K mg base n (run Γ 100000000 n) 18 "clocks_right" 3
 c19:aW Pg w K mg base n (run Γ 100000000 n) 19 "_law_pool" 1
 Mv:aW Pg w K mg base n (run Γ 100000000 n) 20 "_law_next" 2
 c21:aW Pg w K mg base n (run Γ 100000000 n) 21 "_law_wide" 2
 c22:aW Pg w K mg base n (run Γ 100000000 n) 22 "_law_net" 2
 c23:aW Pg w K mg base n (run Γ 100000000 n) 23 "_law_most_rate" 1
 c24:aW Pg w K mg base n (run Γ 100000000 n) 24 "_law_rate" 2
 c25:aW Pg w K mg base n (run Γ 100000000 n) 25 "_law_clocks" 3
 Vy:aW Pg w K mg base n (run Γ 100000000 n) 26 "_law_right" 3
 c27:aW Pg w K mg base n (run Γ 100000000 n) 27 "_law_changed" 2
 c28:aW Pg w K mg base n (run Γ 100000000 n) 28 "_law_drawn" 2
 c29:aW Pg w K mg base n (run Γ 100000000 n) 29 "_law_back_right" 2
 c30:aW Pg w K mg base n (run Γ 100000000 n) 30 "_law_full_right" 2
 c31:aW Pg w K mg base n (run Γ 100000000 n) 31 "_law_folded" 2
 c32:aW Pg w K mg base n (run Γ 100000000 n) 32 "law" 1
set_option maxHeartbeats 0 in
theorem Hh{Pg:Program}{w:World}{K:PySem.W.Frag}{mg:Str->Option Value}{base:Heap}(T:Txt K)(X:K.In base)(G:base.Ns mainGlobals mg):∀n,Oks Pg w K mg base (jn T) n
 |0=>{
   c0:=cg (ps:=["net","step"]) X G T.D0 rfl ‹iG λ_ _=>rfl›
   c1:=cg (ps:=["net","step"]) X G T.D1 rfl ‹iG λ_ _=>rfl›
   c2:=cg (ps:=["net","stream","step"]) X G T.D2 rfl ‹uh λ_ _ _=>rfl›
   c3:=cg (ps:=["net","stream"]) X G T.D3 rfl ‹iG λ_ _=>rfl›
   c4:=cg (ps:=["net","stream","begun"]) X G T.D4 rfl ‹uh λ_ _ _=>rfl›
   c5:=cg (ps:=["net","come","place"]) X G T.D5 rfl ‹uh λ_ _ _=>rfl›
   c6:=cg (ps:=["stream","steps","loads"]) X G T.D6 rfl ‹uh λ_ _ _=>rfl›
   c7:=cg (ps:=["net"]) X G T.D7 rfl ‹Ke λ_=>rfl›
   c8:=cg (ps:=["pairs","rate"]) X G T.D8 rfl ‹iG λ_ _=>rfl›
   c9:=cg (ps:=["net","place"]) X G T.D9 rfl ‹iG λ_ _=>rfl›
   c10:=cg (ps:=["net","place"]) X G T.D10 rfl ‹iG λ_ _=>rfl›
   c11:=cg (ps:=["net","stream","place"]) X G T.D11 rfl ‹uh λ_ _ _=>rfl›
   c12:=cg (ps:=["net","stream"]) X G T.D12 rfl ‹iG λ_ _=>rfl›
   c13:=cg (ps:=["net","stream"]) X G T.D13 rfl ‹iG λ_ _=>rfl›
   c14:=cg (ps:=["net","stream"]) X G T.D14 rfl ‹iG λ_ _=>rfl›
   c15:=cg (ps:=["net","stream"]) X G T.D15 rfl ‹iG λ_ _=>rfl›
   c16:=cg (ps:=["net","rate"]) X G T.D16 rfl ‹iG λ_ _=>rfl›
   c17:=cg (ps:=["way","loads","clocks"]) X G T.D17 rfl ‹uh λ_ _ _=>rfl›
   c18:=cg (ps:=["net","stream","clocks"]) X G T.D18 rfl ‹uh λ_ _ _=>rfl›
   c19:=cg (ps:=["cell"]) X G T.D19 rfl ‹Ke λ_=>rfl›
   Mv:=cg (ps:=["pool","base"]) X G T.D20 rfl ‹iG λ_ _=>rfl›
   c21:=cg (ps:=["pool","base"]) X G T.D21 rfl ‹iG λ_ _=>rfl›
   c22:=cg (ps:=["pool","most"]) X G T.D22 rfl ‹iG λ_ _=>rfl›
   c23:=cg (ps:=["net"]) X G T.D23 rfl ‹Ke λ_=>rfl›
   c24:=cg (ps:=["net","stream"]) X G T.D24 rfl ‹iG λ_ _=>rfl›
   c25:=cg (ps:=["net","stream","clocks"]) X G T.D25 rfl ‹uh λ_ _ _=>rfl›
   Vy:=cg (ps:=["net","stream","clocks"]) X G T.D26 rfl ‹uh λ_ _ _=>rfl›
   c27:=cg (ps:=["row","by"]) X G T.D27 rfl ‹iG λ_ _=>rfl›
   c28:=cg (ps:=["pool","many"]) X G T.D28 rfl ‹iG λ_ _=>rfl›
   c29:=cg (ps:=["pool","net"]) X G T.D29 rfl ‹iG λ_ _=>rfl›
   c30:=cg (ps:=["pool","net"]) X G T.D30 rfl ‹iG λ_ _=>rfl›
   c31:=cg (ps:=["script","most"]) X G T.D31 rfl ‹iG λ_ _=>rfl›
   c32:=cg (ps:=["script"]) X G T.D32 rfl ‹Ke λ_=>rfl›}|n+1=>have a:=Hh (Pg:=Pg) (w:=w) (base:=base) T X G n
   {c0:=cu (ps:=["net","step"]) X G T.D0 rfl rfl ‹iG λ_ _=>rfl› λ_ _ F=>d0 (cl:=jn T) F
    c1:=cu (ps:=["net","step"]) X G T.D1 rfl rfl ‹iG λ_ _=>rfl› λ_ _ F=>d1 (cl:=jn T) F
    c2:=cu (ps:=["net","stream","step"]) X G T.D2 rfl rfl ‹uh λ_ _ _=>rfl› λ_ _ F=>d2 (cl:=jn T) F
    c3:=cu (ps:=["net","stream"]) X G T.D3 rfl rfl ‹iG λ_ _=>rfl› λ_ _ F=>d3 (cl:=jn T) F (mg_none_of X G T.bu) (mg_none_of X G T.aX) a.c0 a.c2
    c4:=cu (ps:=["net","stream","begun"]) X G T.D4 rfl rfl ‹uh λ_ _ _=>rfl› λ_ _ F=>d4 (cl:=jn T) F (mg_none_of X G T.bu) (mg_none_of X G T.gK) a.c3 a.c1 a.c0
    c5:=cu (ps:=["net","come","place"]) X G T.D5 rfl rfl ‹uh λ_ _ _=>rfl› λ_ _ F=>d5 (cl:=jn T) F (mg_none_of X G T.lH) (mg_none_of X G T.dI) a.c0
    c6:=cu (ps:=["stream","steps","loads"]) X G T.D6 rfl rfl ‹uh λ_ _ _=>rfl› λ_ _ F=>d6 (cl:=jn T) F (mg_none_of X G T.gK)
    c7:=cu (ps:=["net"]) X G T.D7 rfl rfl ‹Ke λ_=>rfl› λ_ _ F=>d7 (cl:=jn T) F (mg_none_of X G T.bu) (mg_none_of X G T.fc) a.c4 a.c2 a.c5 a.c6
    c8:=cu (ps:=["pairs","rate"]) X G T.D8 rfl rfl ‹iG λ_ _=>rfl› λ_ _ F=>d8 (cl:=jn T) F (mg_none_of X G T.fc)
    c9:=cu (ps:=["net","place"]) X G T.D9 rfl rfl ‹iG λ_ _=>rfl› λ_ _ F=>d9 (cl:=jn T) F (mg_none_of X G T.dW)
    c10:=cu (ps:=["net","place"]) X G T.D10 rfl rfl ‹iG λ_ _=>rfl› λ_ _ F=>d10 (cl:=jn T) F (mg_none_of X G T.dW)
    c11:=cu (ps:=["net","stream","place"]) X G T.D11 rfl rfl ‹uh λ_ _ _=>rfl› λ_ _ F=>d11 (cl:=jn T) F (mg_none_of X G T.kW) a.c10 a.c9
    c12:=cu (ps:=["net","stream"]) X G T.D12 rfl rfl ‹iG λ_ _=>rfl› λ_ _ F=>d12 (cl:=jn T) F a.c11
    c13:=cu (ps:=["net","stream"]) X G T.D13 rfl rfl ‹iG λ_ _=>rfl› λ_ _ F=>d13 (cl:=jn T) F (mg_none_of X G T.gR) (mg_none_of X G T.jj)
    c14:=cu (ps:=["net","stream"]) X G T.D14 rfl rfl ‹iG λ_ _=>rfl› λ_ _ F=>d14 (cl:=jn T) F (mg_none_of X G T.gR) (mg_none_of X G T.bu) (mg_none_of X G T.aX) a.c11 a.c12 a.c13
    c15:=cu (ps:=["net","stream"]) X G T.D15 rfl rfl ‹iG λ_ _=>rfl› λ_ _ F=>d15 (cl:=jn T) F (mg_none_of X G T.aX) (mg_none_of X G T.kW) a.c4
    c16:=cu (ps:=["net","rate"]) X G T.D16 rfl rfl ‹iG λ_ _=>rfl› λ_ _ F=>d16 (cl:=jn T) F (mg_none_of X G T.bu) a.c7 a.c8 a.c15 a.c6
    c17:=cu (ps:=["way","loads","clocks"]) X G T.D17 rfl rfl ‹uh λ_ _ _=>rfl› λ_ _ F=>d17 (cl:=jn T) F
    c18:=cu (ps:=["net","stream","clocks"]) X G T.D18 rfl rfl ‹uh λ_ _ _=>rfl› λ_ _ F=>d18 (cl:=jn T) F (mg_none_of X G T.gR) (mg_none_of X G T.bu) (mg_none_of X G T.jj) a.c17 a.c14
    c19:=cu (ps:=["cell"]) X G T.D19 rfl rfl ‹Ke λ_=>rfl› λ_ _ F=>d19 (cl:=jn T) F (mg_none_of X G T.gM)
    Mv:=cu (ps:=["pool","base"]) X G T.D20 rfl rfl ‹iG λ_ _=>rfl› λ_ _ F=>d20 (cl:=jn T) F
    c21:=cu (ps:=["pool","base"]) X G T.D21 rfl rfl ‹iG λ_ _=>rfl› λ_ _ F=>d21 (cl:=jn T) F a.Mv
    c22:=cu (ps:=["pool","most"]) X G T.D22 rfl rfl ‹iG λ_ _=>rfl› λ_ _ F=>d22 (cl:=jn T) F (mg_none_of X G T.gM) (mg_none_of X G T.fc) (mg_none_of X G T.aX) (mg_none_of X G T.dI) a.Mv a.c21
    c23:=cu (ps:=["net"]) X G T.D23 rfl rfl ‹Ke λ_=>rfl› λ_ _ F=>d23 (cl:=jn T) F (mg_none_of X G T.fc) (mg_none_of X G T.aX) (mg_none_of X G T.kW)
    c24:=cu (ps:=["net","stream"]) X G T.D24 rfl rfl ‹iG λ_ _=>rfl› λ_ _ F=>d24 (cl:=jn T) F (mg_none_of X G T.jj)
    c25:=cu (ps:=["net","stream","clocks"]) X G T.D25 rfl rfl ‹uh λ_ _ _=>rfl› λ_ _ F=>d25 (cl:=jn T) F (mg_none_of X G T.bu) (mg_none_of X G T.jj)
    Vy:=cu (ps:=["net","stream","clocks"]) X G T.D26 rfl rfl ‹uh λ_ _ _=>rfl› λ_ _ F=>d26 (cl:=jn T) F (mg_none_of X G T.zW) (mg_none_of X G T.jh) (mg_none_of X G T.bu) (mg_none_of X G T.gK) a.c25 a.c24 a.c18
    c27:=cu (ps:=["row","by"]) X G T.D27 rfl rfl ‹iG λ_ _=>rfl› λ_ _ F=>d27 (cl:=jn T) F (mg_none_of X G T.bu) (mg_none_of X G T.aX)
    c28:=cu (ps:=["pool","many"]) X G T.D28 rfl rfl ‹iG λ_ _=>rfl› λ_ _ F=>d28 (cl:=jn T) F (mg_none_of X G T.aX) a.Mv a.c21
    c29:=cu (ps:=["pool","net"]) X G T.D29 rfl rfl ‹iG λ_ _=>rfl› λ_ _ F=>d29 (cl:=jn T) F (mg_none_of X G T.Jq) (mg_none_of X G T.bu) (mg_none_of X G T.gM) (mg_none_of X G T.fc) (mg_none_of X G T.aX) (mg_none_of X G T.dI) a.Mv a.Vy
    c30:=cu (ps:=["pool","net"]) X G T.D30 rfl rfl ‹iG λ_ _=>rfl› λ_ _ F=>d30 (cl:=jn T) F (mg_none_of X G T.gM) (mg_none_of X G T.dI) a.Mv a.Vy
    c31:=cu (ps:=["script","most"]) X G T.D31 rfl rfl ‹iG λ_ _=>rfl› λ_ _ F=>d31 (cl:=jn T) F (mg_none_of X G T.bu) (mg_none_of X G T.gM) (mg_none_of X G T.fc) (mg_none_of X G T.aX)
    c32:=cu (ps:=["script"]) X G T.D32 rfl rfl ‹Ke λ_=>rfl› λ_ _ F=>d32 (cl:=jn T) F (mg_none_of X G T.gR) (mg_none_of X G T.bu) a.c29 a.c27 a.c28 a.c31 a.c30 a.c23 a.c22 a.Mv a.c19 a.Vy a.c21 a.c16}
set_option maxHeartbeats 0 in
theorem RL{Pg:Program}{w:World}{K:PySem.W.Frag}{mg:Str->Option Value}{h:Heap}{i:Addr}(T:Txt K)(X:K.In h)(G:h.Ns mainGlobals mg)(g:mg "law"=some (.ref i)):∃fd:FuncData,(∀(s:Shared)(u:Value),BindsTo s fd ⟨[u],[]⟩ [("script",u)])/\∀base:Heap,K.In base->base.Ns mainGlobals mg->m9 Pg w K mg base Fw 40 i fd ["script"] (JK K 1 (run Γ 100000000 40 32)):=by
 obtain⟨f,fd,a,F⟩:=T.D32.ex;have e:=g.symm.trans (mg_of X G a);cases e;refine⟨fd,λs u=>?_,λbase j l=>?_⟩;.obtain⟨oc,q,kV,m,r,t,cdv,ct,o,rfl,lk,p⟩:=F.ex;exact .of_eq rfl
 .have b:=Hh (Pg:=Pg) (w:=w) (base:=base) T j l 39;exact d32 (cl:=jn T) (k:=39) (n:=100000000) (c:=run Γ 100000000 39) F (mg_none_of X G T.gR) (mg_none_of X G T.bu) b.c29 b.c27 b.c28 b.c31 b.c30 b.c23 b.c22 b.Mv b.c19 b.Vy b.c21 b.c16
end T
open PySem PySem.W PyProof.Rows
set_option maxRecDepth 100000 in
set_option maxHeartbeats 0 in
theorem PySem.Challenge.cw_hourhaul_k32_clocks_judged_holds : PySem.Challenge.rw_hourhaul_k32_clocks_judged.Holds := by
 w_on;o_law;k_head;(case hw=>w_witness2);k_fill;refine L2.FQ (l:=PySem.Challenge.rw_hourhaul_k32_clocks_judged) (n:=63) (k:=40) (x:="script") (CX:=L2.Fw) (sp:=λK=>HH.JK K 1 (HH.run T.Γ 100000000 40 32)) rfl (by decide) rfl ⟨rfl,by decide,by decide⟩ (λw h Y=>PySem.W.kIn_of Y) ?F ?S ?C;case F=>
  intro w mg j h f G b;refine T.RL ?T f G b;constructor;iterate 33(· refine' HH.Q7 ?a ?l ?c ?k;case a|l|c|k=>k_is)
  iterate 14(· k_is)
 case S=>intro K H a ns g m i;obtain⟨as,e⟩:=T.JQ ns g;exact HH.DX i e
 case C=>exact λH s e o z=>z
