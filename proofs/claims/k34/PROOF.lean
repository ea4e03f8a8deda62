import PyProof.Rows.All
import Wide.All
import OpenK.AllK
import Wide.FinOn
import Lean
import PyProof.EqAt
import PyProof.EqKinds
import PyProof.TupleCall
import PySem.Str
import PySem.Builtin.Int.W1All
import PyProof.NeKinds
import PyProof.ZipIter
import PyProof.SumWalkG
import PyProof.MinMaxWalk
import PyProof.WalksMore
import PyProof.SeqI3
import PyProof.WalkInts
import PyProof.Rows.CallKwBuiltin
import PyProof.Rows.Tup
import PyProof.CollectIter
import PyProof.EnumMake
import PyProof.TupleOfSeq
import PyProof.ListNew
import PyProof.ReprLoop
import PyProof.StationsW
import PyProof.ExcClass3
import PyProof.Rows.CatchBare
import OpenK.KOwn
import KE.KIsAll
import PyProof.NsDelKeeps
import PyProof.RulesAs
import PyProof.ExcArgsOwn
import PyProof.ListRange
import KE.RegKIsAll
import KE.KRevIter
import PyProof.Rows.SortRuns
import KE.KSortTup
import PyProof.DictWalks
import KE.KDictList
import KE.KItemsList
import PyProof.ExcBaseAll.ValueError
import PySem.Challenge.RW_hourhaul_k34_whole_bends_of_changed_nets
set_option Elab.async false
set_option linter.all false
set_option maxRecDepth 100000
set_option genSizeOf false
set_option compiler.extract_closed false
set_option bootstrap.genMatcherCode false
open List(replicate mem_map getElem?_set_ne size_toArray getElem?_set_self map_cons mem_cons map_map length_map mem_of_getElem? length_cons mem_append mem_singleton nodup_cons length_append mem_cons_of_mem all_eq_true getElem?_append_left lookup_cons find?_cons getElem?_map append_nil mem_filter mem_append_right append_assoc map_congr_left map_append any_cons reverse_cons map_nil toArray mem_cons_self all_cons replicate_succ foldl length_range getElem_mem filterMap_cons getElem?_append_right cons_append pairwise_map mem_flatMap length_take drop_eq_getElem_cons getElem?_eq_getElem map nodup_append contains_iff_mem flatten_cons drop_eq_nil_iff ext_getElem any_eq_true map_set filter_cons of_mem_zip nil_append range_succ length_nil sum_cons)
open Nat(le_refl ne_of_lt zero_le lt_of_lt_of_le le_trans lt_irrefl le_of_lt)
open PySem.W(mg_none_of keepIn methodObj mg_of)
open PySem.Heap(lt_size get?_push_of_some get?_push_size get?_update_other size_push get?_update_self SameBut)
open PySem.Builtin.Tuple(tupleExact tupleItemsOf)
open PySem.Builtin.Slice(slicePlaces sliceAdjust sliceApplied sliceFields)
open Bool(and_eq_true false_eq_true or_eq_true not_eq_true')
open Option(map_eq_some_iff bind_some isSome_map getD_none getD_some)
open Int(mul_comm mul_add mul_sub mul_one mul_le_mul_of_nonneg_left sub_zero emod_lt_of_pos max_eq_left add_mul emod_nonneg mul_zero max_eq_right mul_nonneg mul_neg sub_mul)
open PySem.Builtin.List(listTooLong listExtendWith listLengthHint listSameRef)
open Array(length_toList toList)
open PySem.SeqAt.EqAt(int_str str_int none_bool none_int none_str bool_none bool_bool bool_int bool_str int_none int_bool int_int str_none str_bool str_str)
open PySem.F(slot_tuple_add entry_tuple_add args_tuple_add_2 slot_tuple_mul plainAttrs_list slot_dict_get)
open PySem.SeqAt.RcAt(lists_lengths)
open PySem.SeqAt.RcNeAt(int_list str_list list_int list_str)
theorem fJ{h:PySem.Heap}{o b:PySem.Obj}{a:PySem.Addr}(e:h.get? a=some o):(h.push b).get? a=some o:=PySem.Heap.get?_push_of_some _ e
theorem eG{b:Type}{l:List b}{i:Nat}{a:b}(h:l[i]?=some a):∃h:i<l.length,l[i]=a:=List.getElem?_eq_some_iff.mp h
theorem eV{b:Type}{l:List b}{i j:Nat}{a:b}(h:j≠i):(l.set i a)[j]?=l[j]?:=List.getElem?_set_ne (Ne.symm h)
theorem n8{n:Nat}:0<=n:=Nat.zero_le n
theorem cO{n:Nat}:n<=n:=Nat.le_refl n
section
namespace L2
open PySem PySem.Spec PyProof.Rows
variable{w:World}{h:Heap}{t' i:Nat}{M:Model}{A:Around}{s:Shared}{pos:Pos}{pins:List (Addr×Obj)}{op:CmpOp}{K:PySem.W.Frag}{tg:Expr}{us:List Value}
noncomputable abbrev Key:=Sum Int Str
noncomputable def nY:Key->Value->Bool|.inl k,v=>Value.isInt k v|.inr x,v=>Value.isStrOf x v
noncomputable def abP(w:World):Key->Int|.inl k=>hashInt k|.inr x=>hashStr w x
theorem bA:∀{k:Key}{v:Value},nY k v=true->(∃i t,k=Sum.inl i/\v=Value.int i t)\/(∃x t,k=Sum.inr x/\v=Value.str x t)|.inl i,v,h=>by obtain⟨t,e⟩:=Value.isInt_shape (k:=i) (v:=v) h;exact .inl ⟨i,t,rfl,e⟩|.inr x,v,h=>by obtain⟨t,e⟩:=Value.isStrOf_shape (x:=x) (v:=v) h;exact .inr ⟨x,t,rfl,e⟩
theorem CW(i:Int)(t:Tok):nY (.inl i) (.int i t)=true:=by simp[nY,Value.isInt]
theorem Ds(x:Str)(t:Tok):nY (.inr x) (.str x t)=true:=by simp[nY,Value.isStrOf]
theorem Ui(a b:Int):decide ((Sum.inl a:Key)=Sum.inl b)=(a==b):=by
 by_cases e:a=b;.subst e;simp
 .have h:¬(Sum.inl a:Key)=Sum.inl b:=λq=>e (Sum.inl.inj q);rw[decide_eq_false h];exact(beq_eq_false_iff_ne.mpr e).symm
theorem Tr(a b:Str):decide ((Sum.inr a:Key)=Sum.inr b)=decide (a=b):=by
 by_cases e:a=b;.subst e;simp
 .have h:¬(Sum.inr a:Key)=Sum.inr b:=λq=>e (Sum.inr.inj q);rw[decide_eq_false h,decide_eq_false e]
theorem Up(a:Int)(b:Str):decide ((Sum.inl a:Key)=Sum.inr b)=false:=decide_eq_false (λq=>nomatch q)
theorem Rv(a:Str)(b:Int):decide ((Sum.inr a:Key)=Sum.inl b)=false:=decide_eq_false (λq=>nomatch q)
noncomputable def aV(prog:Program)(w:World):PySem.KeyKind prog w Key where
 is:=nY;hash:=abP w;inj:=λv a b g f=>by
  rcases bA g with⟨i,t,rfl,rfl⟩|⟨x,t,rfl,rfl⟩
  . rcases bA f with⟨j,u,rfl,e⟩|⟨y,u,rfl,e⟩;.injection e with e1 _;rw[e1]
    .exact nomatch e
  . rcases bA f with⟨j,u,rfl,e⟩|⟨y,u,rfl,e⟩;.exact nomatch e
    .injection e with e1 _;rw[e1]
 byValue:=λk v h=>by rcases bA h with⟨i,t,rfl,rfl⟩|⟨x,t,rfl,rfl⟩<;>rfl
 pyHash:=λc h=>by
  rcases bA c with⟨i,t,rfl,rfl⟩|⟨x,t,rfl,rfl⟩;.exact wpAny_pyHash_int h
  .exact wpAny_pyHash_str h
 eqBool:=λl c h=>by
  rcases bA l with⟨i,t,rfl,rfl⟩|⟨x,t,rfl,rfl⟩
  . rcases bA c with⟨j,u,rfl,rfl⟩|⟨y,u,rfl,rfl⟩;.rw[Ui]at h;exact wpAny_eqBool_int h
    .rw[Up]at h;exact int_str i t y u _ _ _ _ h
  . rcases bA c with⟨j,u,rfl,rfl⟩|⟨y,u,rfl,rfl⟩;.rw[Rv]at h;exact str_int x t j u _ _ _ _ h
    .rw[Tr]at h;exact wpAny_eqBool_str h
 «strs»:=λk x t v h=>by
  rcases bA h with⟨i,u,rfl,e⟩|⟨y,u,rfl,e⟩;.exact nomatch e
  .injection e with e1 _;subst e1;cases v<;>rfl
theorem xm(prog:Program)(w:World)(i:Int)(t:Tok):(aV prog w).is (.inl i) (.int i t)=true:=CW i t
theorem xM(prog:Program)(w:World)(x:Str)(t:Tok):(aV prog w).is (.inr x) (.str x t)=true:=Ds x t
inductive V where|non|bl(b:Bool)|int(i:Int)|str(x:Str)|byt(b:Array UInt8)|flt(b:UInt64)|ref(a:Addr)|ty(n:String)deriving DecidableEq
def RelV:V->Value->Prop|.non,u=>u=Value.none|.bl b,u=>u=Value.bool b|.int i,u=>∃t,u=Value.int i t|.str x,u=>∃t,u=Value.str x t|.byt b,u=>∃t,u=Value.bytes b t|.flt b,u=>∃t,u=Value.float b t|.ref a,u=>u=Value.ref a|.ty n,u=>u=Value.type n
abbrev Vals:List V->List Value->Prop:=Paired RelV
theorem Vals.length{xs:List V}{us:List Value}(r:Vals xs us):xs.length=us.length:=Paired.length r
theorem Vals.get:∀{xs:List V}{us:List Value}{i:Nat}{x:V},Vals xs us->xs[i]?=some x->∃u,us[i]?=some u/\RelV x u|_,_,_,_,.nil,e=>by simp at e|_,_,0,_,.cons r _,e=>by simp at e;subst e;exact⟨_,rfl,r⟩|_,_,i+1,x,.cons _ t,e=>by obtain⟨u,h1,a⟩:=Vals.get (i:=i) (x:=x) t (by simpa using e);exact⟨u,by simpa using h1,a⟩
theorem Vals.set{x:V}{u:Value}(r:RelV x u):∀{xs:List V}{us:List Value}(i:Nat),Vals xs us->Vals (xs.set i x) (us.set i u)|_,_,_,.nil=>.nil|_,_,0,.cons _ t=>.cons r t|_,_,i+1,.cons q t=>.cons q (Vals.set r i t)
theorem Vals.append:∀{xs ys:List V}{us ws:List Value},Vals xs us->Vals ys ws->Vals (xs++ys) (us++ws)|_,_,_,_,.nil,s=>s|_,_,_,_,.cons r t,s=>.cons r (Vals.append t s)
theorem Vals.take:∀{xs:List V}{us:List Value}(n:Nat),Vals xs us->Vals (xs.take n) (us.take n)|_,_,0,_=>.nil|_,_,_+1,.nil=>.nil|_,_,n+1,.cons r t=>.cons r (Vals.take n t)
theorem Vals.drop:∀{xs:List V}{us:List Value}(n:Nat),Vals xs us->Vals (xs.drop n) (us.drop n)|_,_,0,r=>r|_,_,_+1,.nil=>.nil|_,_,n+1,.cons _ t=>Vals.drop n t
def oO:Option V->Option Value->Prop|some v,some u=>RelV v u|none,none=>True|_,_=>False
def KV{κ:Type}:List (κ×V)->List (κ×Value)->Prop:=Paired λ(p:κ×V)(q:κ×Value)=>p.1=q.1/\RelV p.2 q.2
noncomputable def kV:Key->V|.inl i=>.int i|.inr x=>.str x
inductive HO where|lst(xs:List V)|tup(xs:List V)|dK(kvs:List (Key×V))|dT(kvs:List (List Key×V))|set(S:Int->Bool)(n:Nat)|ins(C dx:Addr)(fs:List (Str×V))|own(x:Addr)|xd(fs:List (Str×V))|met(f x:Addr)|yc(lo hi:Int)|dh(o:Obj)(u:HO)|Ur(ps:Array Value)|ext(φ:Heap->Prop)
noncomputable abbrev Hp:=Addr->Option HO
variable{H:Hp}
noncomputable def upd(H:Hp)(a:Addr)(o:HO):Hp:=λb=>if b=a then some o else H b
theorem aJ{a:Addr}{o:HO}:upd H a o a=some o:=by unfold upd;rw[if_pos rfl]
theorem aA{a b:Addr}{o:HO}(h:b≠a):upd H a o b=H b:=by unfold upd;rw[if_neg h]
theorem Bl{a:Addr}{o u:HO}:upd (upd H a o) a u=upd H a u:=by funext b;unfold upd;split<;>rfl
theorem Xp{a b:Addr}{o u:HO}(h:H a=some o)(h':H b=some u)(d:o≠u):a≠b:=by intro e;subst e;rw[h]at h';exact d (Option.some.inj h')
theorem gj{a b:Addr}{o:HO}(h:H a=some o)(h':H b=none):a≠b:=by intro e;subst e;rw[h]at h';cases h'
section
variable(P:Program)(w:World)
def bz(H:Hp)(h:Heap)(a:Addr):HO->Prop|.lst xs=>xs.length<=sizeLine/\∃(b:List Value)(n:Nat),Vals xs b/\h.get? a=some {cls:=.type "list",data:=.seq b.toArray n}|.tup xs=>xs.length<=sizeLine/\∃b:List Value,Vals xs b/\IsTup h a b.toArray|.dK kvs=>kvs.length<=sizeLine/\(a==sysModules)=false/\∃vs,KV kvs vs/\h.DictOf (aV P w) a vs|.dT kvs=>kvs.length<=sizeLine/\(a==sysModules)=false/\∃xs:List (List Key×Addr×Value),Paired (λ(p:List Key×V)(q:List Key×Addr×Value)=>p.1=q.1/\H q.2.1=some (.tup (p.1.map kV))/\RelV p.2 q.2.2) kvs xs/\∃o es ep,h.get? a=some o/\o.ExactDict/\o.data=.dict es ep/\es.toList=xs.map (entryOfKey (tupleKind (aV P w)))/\(xs.map (·.1)).Nodup|.set S n=>h.SetOf (intKind P w) a S n|.ins C e fs=>H e=some (.own a)/\fs.length<=1000/\e≠a/\h.get? a=some (PySem.W.instObj C e)/\∃c,h.Ns1 e c/\(∀f,oO (fs.lookup f) (c f))/\PySem.Within c (fs.map (·.1))|.own _=>∃o,h.get? a=some o|.xd fs=>∃c,h.Ns1 a c/\∀f,oO (fs.lookup f) (c f)|.yc lo hi=>∃t u v,h.get? a=some {cls:=.type "range",data:=.fields #[.int lo t,.int hi u,.int 1 v]}|.dh o u=>h.get? a=some o/\bz H h a u|.Ur ps=>h.get? a=some {cls:=.none,data:=.fields ps}|.met f x=>h.get? a=some (methodObj (.ref f) (.ref x))|.ext g=>g h/\(∃o,h.get? a=some o)/\∀h1 j:Heap,g h1->(∀o,h1.get? a=some o->j.get? a=some o)->g j
def mO(H:Hp)(h:Heap):Prop:=∀a o,H a=some o->bz P w H h a o
end
section
variable{P:Program}{w:World}{H H':Hp}{h h':Heap}{a:Addr}{o:HO}
theorem bz.lt(x:bz P w H h a o):a<h.objs.size:=by cases o with|lst xs=>obtain⟨_,_,_,_,e⟩:=x;exact lt_size e|tup xs=>obtain⟨_,_,_,p⟩:=x;exact p.lt|dK kvs=>obtain⟨_,_,_,_,o,_,_,e,_⟩:=x;exact lt_size e|dT kvs=>obtain⟨_,_,_,_,o,_,_,e,_⟩:=x;exact lt_size e|set S n=>obtain⟨o,_,_,_,e,_⟩:=x;exact lt_size e|ins C b fs=>obtain⟨_,_,_,e,_⟩:=x;exact lt_size e|own y=>obtain⟨_,e⟩:=x;exact lt_size e|xd fs=>obtain⟨_,⟨_,_,_,e,_⟩,_⟩:=x;exact lt_size e|yc lo hi=>obtain⟨_,_,_,e⟩:=x;exact lt_size e|dh c u=>obtain⟨e,_⟩:=x;exact lt_size e|Ur ps=>exact lt_size (show h.get? a=some _ from x)|met f y=>exact lt_size (show h.get? a=some _ from x)|ext g=>obtain⟨_,⟨_,e⟩,_⟩:=x;exact lt_size e
theorem Paired.Q4{g j:Type}{F G:g->j->Prop}:∀{c:List g}{e:List j},Paired F c e->(∀a b,F a b->G a b)->Paired G c e|_,_,.nil,_=>.nil|_,_,.cons r t,f=>.cons (f _ _ r) (Paired.Q4 t f)
theorem bz.stay(x:bz P w H h a o)(k:∀b u,(b=a\/H b=some (.own a))->h.get? b=some u->h'.get? b=some u)(ho:∀b,H b=some (.own a)->H' b=some (.own a))(ht:∀b xs,H b=some (.tup xs)->H' b=some (.tup xs)):bz P w H' h' a o:=by induction o with|lst xs=>obtain⟨z,j,n,r,e⟩:=x;exact⟨z,j,n,r,k _ _ (.inl rfl) e⟩|tup xs=>obtain⟨z,j,r,g,e,c⟩:=x;exact⟨z,j,r,g,k _ _ (.inl rfl) e,c⟩|dK kvs=>obtain⟨z,y,vs,r,g,es,ep,e,c⟩:=x;exact⟨z,y,vs,r,g,es,ep,k _ _ (.inl rfl) e,c⟩|dT kvs=>obtain⟨z,y,xs,r,g,es,ep,e,c⟩:=x;exact⟨z,y,xs,Paired.Q4 r λp q z=>⟨z.1,ht _ _ z.2.1,z.2.2⟩,g,es,ep,k _ _ (.inl rfl) e,c⟩|set S n=>obtain⟨g,es,ep,t,e,c⟩:=x;exact⟨g,es,ep,t,k _ _ (.inl rfl) e,c⟩|ins C G fs=>obtain⟨d,z,ne,e,l,⟨m,es,ep,B,c⟩,r⟩:=x;exact⟨ho _ d,z,ne,k _ _ (.inl rfl) e,l,⟨m,es,ep,k _ _ (.inr d) B,c⟩,r⟩|own y=>obtain⟨g,e⟩:=x;exact⟨g,k _ _ (.inl rfl) e⟩|xd fs=>obtain⟨l,⟨m,es,ep,e,c⟩,r⟩:=x;exact⟨l,⟨m,es,ep,k _ _ (.inl rfl) e,c⟩,r⟩|yc lo hi=>obtain⟨t,u,v,e⟩:=x;exact⟨t,u,v,k _ _ (.inl rfl) e⟩|dh g u E=>obtain⟨e,q⟩:=x;exact⟨k _ _ (.inl rfl) e,E q⟩|Ur ps=>have e:h.get? a=some {cls:=.none,data:=.fields ps}:=x;show h'.get? a=some {cls:=.none,data:=.fields ps};exact k a _ (.inl rfl) e|met f y=>have e:h.get? a=some (methodObj (.ref f) (.ref y)):=x;show h'.get? a=some (methodObj (.ref f) (.ref y));exact k a _ (.inl rfl) e|ext I=>obtain⟨p,⟨o,e⟩,st⟩:=x;exact⟨st _ _ p λo q=>k _ _ (.inl rfl) q,⟨o,k _ _ (.inl rfl) e⟩,st⟩
theorem mO.lt(x:mO P w H h)(e:H a=some o):a<h.objs.size:=(x a o e).lt
theorem mO.fresh(x:mO P w H h)(e:h.objs.size<=a):H a=none:=by cases q:H a with|none=>rfl|some u=>exact absurd (lt_of_lt_of_le (x.lt q) e) (lt_irrefl _)
theorem mO.kept(x:mO P w H h)(k:∀b u,h.get? b=some u->h'.get? b=some u):mO P w H h':=λa o e=>(x a o e).stay (λb u _ q=>k b u q) (λ_ q=>q) λ_ _ q=>q
theorem mO.laid(x:mO P w H h)(k:∀b u,h.get? b=some u->h'.get? b=some u)(l:h.objs.size<=a)(f:bz P w (upd H a o) h' a o):mO P w (upd H a o) h':=λb u e=>by
 have g:=x.fresh l;by_cases j:b=a;.subst j;rw[aJ]at e;cases e;exact f
 .rw[aA j]at e;exact(x b u e).stay (λc v _ q=>k c v q) (λc q=>by rw[aA (gj q g)];exact q) λc xs q=>by rw[aA (gj q g)];exact q
end
def Rd(H:Hp)(a:Addr)(u:HO):Prop:=H a=some u\/∃o,H a=some (.dh o u)
theorem Rd.ok{P:Program}{a:Addr}{u:HO}(r:Rd H a u)(x:mO P w H h):bz P w H h a u:=by
 rcases r with r|⟨o,r⟩;.exact x a u r
 .obtain⟨_,q⟩:=x a _ r;exact q
def YL:Option HO->Prop|some (.lst _)=>True|some (.dK _)=>True|some (.dT _)=>True|some (.set _ _)=>True|some (.ins _ _ _)=>True|some (.ext _)=>True|_=>False
section
variable{P:Program}{w:World}{H:Hp}{h h':Heap}{x e:Addr}{o':HO}
theorem mO.write(ok:mO P w H h)(f:YL (H x))(he:e=x\/H e=some (.own x))(k:∀b u,b≠e->h.get? b=some u->h'.get? b=some u)(j:∃u,h'.get? e=some u)(l:bz P w (upd H x o') h' x o'):mO P w (upd H x o') h':=λb u q=>by
 have n:∀c y,H c=some (.own y)->c≠x:=λc y r z=>by subst z;rw[r]at f;exact f
 have m:∀c xs,H c=some (.tup xs)->c≠x:=λc xs r z=>by subst z;rw[r]at f;exact f
 by_cases g:b=x;.subst g;rw[aJ]at q;cases q;exact l
 . rw[aA g]at q;by_cases a:b=e
   . have o:H b=some (.own x):=by
      rcases he with z|z;.exact absurd (a.trans z) g
      .rw[a];exact z
     rw[q]at o;cases o;obtain⟨v,p⟩:=j;exact⟨v,by rw[a];exact p⟩
   . refine(ok b u q).stay (λc v hc r=>k c v ?_ r) (λc r=>by rw[aA (n c b r)];exact r) λc xs r=>by rw[aA (m c xs r)];exact r
     rcases hc with rfl|hc;.exact a
     . rintro rfl;rcases he with z|z;.exact n c b hc z
       .rw[hc]at z;cases z;exact g rfl
end
structure Un(fs ex:List Addr)(H H':Hp)(h h':Heap):Prop where
 keep:∀b o,h.get? b=some o->H b=none->b∉fs->b∉ex->h'.get? b=some o
 slot:∀b o,h.get? b=some o->H b=none->b∈fs->b∉ex->∃sl,h'.get? b=some {o with slots:=sl}free:∀b o,h.get? b=some o->H b=none->b∉ex->H' b=none
 there:∀b o,h.get? b=some o->b∉ex->∃o',h'.get? b=some o'
 tups:∀b xs,H b=some (.tup xs)->H' b=some (.tup xs)vJ:∀b o u,H b=some (.dh o u)->H' b=some (.dh o u)yd:∀b ps,H b=some (.Ur ps)->∃more,H' b=some (.Ur (ps++more))
section
variable{fs fs' ex ex':List Addr}{H H1 H2:Hp}{h h1 h2 h':Heap}{a x e:Addr}{o:HO}
theorem Un.any(u:Un fs ex H H1 h h1){b:Addr}{c:Obj}(q:h.get? b=some c)(n:H b=none)(f:b∉ex):∃sl,h1.get? b=some {c with slots:=sl}:=by
 by_cases g:b∈fs;.exact u.slot b c q n g f
 .exact⟨c.slots,u.keep b c q n g f⟩
theorem Un.kept(k:∀b u,h.get? b=some u->h'.get? b=some u):Un fs ex H H h h':=⟨λb c q _ _ _=>k b c q,λb c q _ _ _=>⟨c.slots,k b c q⟩,λ_ _ _ n _=>n,λb c q _=>⟨c,k b c q⟩,λ_ _ q=>q,λ_ _ _ q=>q,λ_ ps q=>⟨#[],by rw[q];simp⟩⟩
theorem Un.refl:Un fs ex H H h h:=Un.kept λ_ _ q=>q
theorem Un.laid(k:∀b u,h.get? b=some u->h'.get? b=some u)(f:h.objs.size<=a)(c:H a=none):Un fs ex H (upd H a o) h h' where
 keep:=λb u q _ _ _=>k b u q;slot:=λb u q _ _ _=>⟨u.slots,k b u q⟩;free:=λb u q n _=>by rw[aA (ne_of_lt (lt_of_lt_of_le (lt_size q) f))];exact n
 there:=λb u q _=>⟨u,k b u q⟩;tups:=λb xs q=>by rw[aA (gj q c)];exact q
 vJ:=λb u xs q=>by rw[aA (gj q c)];exact q
 yd:=λb ps q=>⟨#[],by rw[aA (gj q c),q];simp⟩
theorem Un.write(f:YL (H x))(he:e=x\/H e=some (.own x))(k:∀b u,b≠e->h.get? b=some u->h'.get? b=some u)(g:∃u,h'.get? e=some u):Un fs ex H (upd H x o) h h':=by
 have l:∀b,H b=none->b≠x:=λb n z=>by subst z;rw[n]at f;exact f
 have m:∀b,H b=none->b≠e:=λb n z=>by
  subst z;rcases he with r|r;.exact l b n r
  .rw[n]at r;cases r
 have j:∀b u,H b=some u->¬ YL (some u)->b≠x:=λb u q p z=>by subst z;rw[q]at f;exact p f
 refine⟨λb u q n _ _=>k b u (m b n) q,λb u q n _ _=>⟨u.slots,k b u (m b n) q⟩,λb u q n _=>by rw[aA (l b n)];exact n,λb u q _=>?_,λb xs q=>by rw[aA (j b _ q λz=>z)];exact q,λb u xs q=>by rw[aA (j b _ q λz=>z)];exact q,λb ps q=>⟨#[],by rw[aA (j b _ q λz=>z),q];simp⟩⟩;by_cases c:b=e;.subst c;exact g
 .exact⟨u,k b u c q⟩
end
noncomputable def ZR(h:Heap)(H:Hp):List Addr:=(List.range h.objs.size).filter λa=>(H a).isSome
noncomputable def uX(h:Heap)(H:Hp):Heap:=PySem.W.hideAll h (ZR h H)
theorem DK(h:Heap)(H:Hp):(uX h H).objs.size=h.objs.size:=PySem.W.hideAll_size _ _
theorem Jo{b:Addr}{o:Obj}(e:h.get? b=some o)(n:H b=none):(uX h H).get? b=some o:=PySem.W.hideAll_get _ e λa=>by have q:(H b).isSome=true:=(mem_filter.mp a).2;rw[n]at q;simp at q
theorem LQ{b:Addr}{o:Obj}(e:(uX h H).get? b=some o):h.get? b=some o/\H b=none:=by have a:h.get? b=some o:=PySem.W.of_hideAll (ZR h H) e;refine⟨a,?_⟩;cases q:H b with|none=>rfl|some x=>have c:b∈ZR h H:=mem_filter.mpr ⟨List.mem_range.mpr (lt_size a),by simp[q]⟩;have z:(uX h H).get? b=none:=PySem.W.hideAll_none (ZR h H) c;rw[z]at e;cases e
structure Mod(K:PySem.W.Frag)(mg:Str->Option Value)(base:Heap):Prop where
 rG:K.In base
 glob:base.Ns mainGlobals mg
 blt:∃mb,base.Ns builtinsNs mb/\∀x:Str,x≠"__name__"->mb x=bootBuiltins x
 nolimit:base.NoLimit
structure Cx where
 prog:Program
 w:World
 K:PySem.W.Frag
 mg:Str->Option Value
 base:Heap
 A:Around
 N:List Str
 s₀:Shared
 H₀:Hp
 env:Env
 outer:List Env
 stack:List Env
 ex:List Addr
 fn:Str->Bool
 calm:Bool
 pn:List (Addr×Obj)xe:Value->Shared->Prop
variable{X:Cx}
noncomputable def frs(l:List Env):List Addr:=l.filterMap (·.frame)
noncomputable abbrev Cx.fs(X:Cx):List Addr:=frs X.outer
def vQ(a:Scope)(x:Str):Prop:=a.names.lookup x=some .local\/a.names.lookup x=some .cell\/a.names.lookup x=some .free
def Loc(a:Scope)(x:Str):Prop:=a.names.lookup x=some .local\/a.names.lookup x=some .cell
def Look(env:Env)(h:Heap)(m:Str->Option Value)(x:Str)(u:Value):Prop:=(env.kindOf x=some .local/\m x=some u)\/((env.kindOf x=some .cell\/env.kindOf x=some .free)/\∃c,env.cells.lookup x=some c/\h.IsCell c (some u))
structure Cx.Ok(X:Cx):Prop where
 mod:Mod X.K X.mg X.base
 kind:X.env.scope.kind=.function
 glob:X.env.globals=mainGlobals
 blt:X.env.builtins=builtinsNs
 above:X.s₀.heap.objs.size<=X.env.locals
 inj:∀x y c,X.env.cells.lookup x=some c->X.env.cells.lookup y=some c->x=y
 has:∀x,(X.env.kindOf x=some .cell\/X.env.kindOf x=some .free)->∃c,X.env.cells.lookup x=some c
 cab:∀x c,X.fn x=true->X.env.cells.lookup x=some c->X.s₀.heap.objs.size<=c
 hd:X.calm=true->X.A.handled=none
 frames:X.A.frames=some X.stack
 stk:X.stack=X.outer\/(X.stack=X.env::X.outer/\X.env.frame=some X.env.locals)exf:∀b∈X.ex,b≠X.env.locals/\∀x c,X.env.cells.lookup x=some c->c≠b
 bs:∀b o,X.base.get? b=some o->X.s₀.heap.get? b=some o/\X.H₀ b=none
 PK:X.base.objs.size<=X.s₀.heap.objs.size
 JG:∀b o,X.base.get? b=some o->b∉X.ex
 Nh:∀b∈X.ex,b∉X.fs
 qy:X.s₀.heap.FunFrames X.base X.outer
 Wm:∀b∈X.fs,X.H₀ b=none
structure Inv(X:Cx)(pins:List (Addr×Obj))(σ:List (Option V))(H:Hp)(s:Shared):Prop where
 ok:X.Ok
 os:s.os=X.s₀.os
 bare:AllBare s.gens
 base:Un X.fs X.ex X.H₀ H X.s₀.heap s.heap
 loc:∃m,s.heap.Ns X.env.locals m/\∀(i:Nat)(x:Str)(v:V),X.N[i]?=some x->σ[i]?=some (some v)->vQ X.env.scope x->∃u,RelV v u/\Look X.env s.heap m x u
 cell:∀x c,X.env.cells.lookup x=some c->∃v,s.heap.IsCell c v
 free:H X.env.locals=none
 jY:∀x c,X.env.cells.lookup x=some c->H c=none
 pin:∀p∈X.pn++pins,s.heap.get? p.1=some p.2/\H p.1=none/\p.1≠X.env.locals/\p.1∉X.fs/\∀v,p.2.data≠.cell v
 hok:mO X.prog X.w H s.heap
 len:σ.length=X.N.length
section
variable{X:Cx}{pins:List (Addr×Obj)}{σ:List (Option V)}{H H':Hp}{s:Shared}{h':Heap}
theorem Cx.Ok.abu(ok:X.Ok){b:Addr}{o:Obj}(e:X.base.get? b=some o):b∉X.fs:=λa=>by have:=(ok.qy.mem a).1;rw[e]at this;cases this
theorem Inv.bs(I:Inv X pins σ H s):∀b o,X.base.get? b=some o->s.heap.get? b=some o/\H b=none:=λb o e=>⟨I.base.keep b o (I.ok.bs b o e).1 (I.ok.bs b o e).2 (I.ok.abu e) (I.ok.JG b o e),I.base.free b o (I.ok.bs b o e).1 (I.ok.bs b o e).2 (I.ok.JG b o e)⟩
theorem Inv.bk(I:Inv X pins σ H s):∀b o,X.base.get? b=some o->s.heap.get? b=some o:=λb o e=>(I.bs b o e).1
theorem Inv.mod(I:Inv X pins σ H s):Mod X.K X.mg X.base:=I.ok.mod
theorem Inv.U0(I:Inv X pins σ H s):X.K.In s.heap:=I.ok.mod.rG.keeps I.bk
theorem Inv.lt(I:Inv X pins σ H s):X.env.locals<s.heap.objs.size:=let⟨_,hn,_⟩:=I.loc;hn.lt
theorem Inv.sz(I:Inv X pins σ H s):X.s₀.heap.objs.size<=s.heap.objs.size:=le_trans I.ok.above (le_of_lt I.lt)
theorem Inv.acM(I:Inv X pins σ H s){a:Addr}(h:s.heap.objs.size<=a):a∉X.fs:=λb=>by obtain⟨_,o,ho,_⟩:=I.ok.qy.mem b;exact absurd (lt_of_lt_of_le (lt_size ho) (le_trans I.sz h)) (lt_irrefl _)
theorem Inv.QC(I:Inv X pins σ H s):∀x c,X.env.cells.lookup x=some c->c≠X.env.locals:=λx c e z=>by obtain⟨v,o,ho,hd⟩:=I.cell x c e;obtain⟨m,⟨f,es,ep,a,b,_⟩,_⟩:=I.loc;rw[z,a]at ho;cases ho;rw[b]at hd;cases hd
theorem Inv.qy(I:Inv X pins σ H s):s.heap.FunFrames X.base X.outer:=by
 have all:∀(l:List Env),(∀b∈frs l,b∈X.fs)->X.s₀.heap.FunFrames X.base l->s.heap.FunFrames X.base l:=by intro l;induction l with|nil=>intro _ _;trivial|cons env r g=>intro hs j;obtain⟨k,⟨L,o,a,m,ho,hd⟩,hr⟩:=j;have c:L∈X.fs:=hs L (by unfold frs;rw[filterMap_cons,a];exact mem_cons_self);obtain⟨sl,e⟩:=I.base.slot L o ho (I.ok.Wm L c) c λz=>I.ok.Nh L z c;exact⟨k,⟨L,_,a,m,e,hd⟩,g (λb f=>hs b (by unfold frs;rw[filterMap_cons,a];exact mem_cons_of_mem _ f)) hr⟩
 exact all X.outer (λ_ f=>f) I.ok.qy
theorem Inv.stack(I:Inv X pins σ H s):s.heap.FunFrames X.base X.stack:=by
 rcases I.ok.stk with e|⟨e,a⟩;.rw[e];exact I.qy
 .rw[e];obtain⟨m,b,_⟩:=I.loc;refine .cons (by rw[I.ok.kind];decide) a b ?_ I.qy;exact Heap.get?_none_of_le (le_trans I.ok.PK I.ok.above)
theorem Inv.vA(I:Inv X pins σ H s):∀b∈frs X.stack,b∈X.env.locals::X.fs:=λb a=>by
 rcases I.ok.stk with e|⟨e,c⟩;.rw[e]at a;exact mem_cons_of_mem _ a
 .rw[e]at a;unfold frs at a;rw[filterMap_cons,c]at a;exact a
theorem Inv.Bw(I:Inv X pins σ H s):∀b∈frs X.stack,H b=none:=λb hb=>by
 rcases mem_cons.mp (I.vA b hb)with e|hb;.rw[e];exact I.free
 .obtain⟨_,o,ho,_⟩:=I.ok.qy.mem hb;exact I.base.free b o ho (I.ok.Wm b hb) λz=>I.ok.Nh b z hb
theorem Inv.step{g':Array GenState}{d':Drawn}{ch:List Addr}(I:Inv X pins σ H s)(f:∀b∈ch,(b∈X.ex\/X.s₀.heap.objs.size<=b)/\b≠X.env.locals/\(∀x c,X.env.cells.lookup x=some c->c≠b)/\∀p∈X.pn++pins,p.1≠b)(keep:∀b o,b≠X.env.locals->b∉X.fs->b∉ch->s.heap.get? b=some o->H b=none->h'.get? b=some o)(slot:∀b o,b≠X.env.locals->b∈X.fs->b∉ch->s.heap.get? b=some o->H b=none->∃sl,h'.get? b=some {o with slots:=sl})(free:∀b o,b∉ch->s.heap.get? b=some o->H b=none->H' b=none)(there:∀b o,b∉ch->s.heap.get? b=some o->∃B,h'.get? b=some B)(tups:∀b xs,H b=some (.tup xs)->H' b=some (.tup xs))(vJ:∀b o u,H b=some (.dh o u)->H' b=some (.dh o u))(yd:∀b ps,H b=some (.Ur ps)->∃more,H' b=some (.Ur (ps++more)))(ns:∀m,s.heap.Ns X.env.locals m->h'.Ns X.env.locals m)(hok:mO X.prog X.w H' h')(O:AllBare g'):Inv X pins σ H' {s with heap:=h',gens:=g',drawn:=d',toks:=t'}:=by
 have C:∀b o,X.s₀.heap.get? b=some o->b≠X.env.locals:=λb o e=>ne_of_lt (lt_of_lt_of_le (lt_size e) I.ok.above);have j:∀b o,X.s₀.heap.get? b=some o->b∉X.ex->b∉ch:=λb o e a y=>by
  rcases(f b y).1 with z|z;.exact a z
  .exact absurd (lt_of_lt_of_le (lt_size e) z) (lt_irrefl _)
 have g:∀x c,X.env.cells.lookup x=some c->∀v,s.heap.IsCell c v->h'.IsCell c v:=λx c e v⟨o,ho,hd⟩=>by
  have E:c∉ch:=λz=>(f c z).2.2.1 x c e rfl;by_cases hc:c∈X.fs;.obtain⟨sl,q⟩:=slot c o (I.QC x c e) hc E ho (I.jY x c e);exact⟨_,q,hd⟩
  .exact⟨o,keep c o (I.QC x c e) hc E ho (I.jY x c e),hd⟩
 refine⟨I.ok,I.os,O,⟨λb o e n y a=>?_,λb o e n y a=>?_,λb o e n a=>?_,λb o e a=>?_,λb xs e=>tups b xs (I.base.tups b xs e),λb o xs e=>vJ b o xs (I.base.vJ b o xs e),λb ps e=>?_⟩,?_,λx c e=>?_,?_,λx c e=>?_,λp L=>?_,hok,I.len⟩;.exact keep b o (C b o e) y (j b o e a) (I.base.keep b o e n y a) (I.base.free b o e n a)
 .obtain⟨sl,t⟩:=I.base.slot b o e n y a;obtain⟨J,G⟩:=slot b _ (C b o e) y (j b o e a) t (I.base.free b o e n a);exact⟨J,G⟩
 .obtain⟨B,t⟩:=I.base.there b o e a;exact free b B (j b o e a) t (I.base.free b o e n a)
 .obtain⟨B,t⟩:=I.base.there b o e a;exact there b B (j b o e a) t
 .obtain⟨m1,t⟩:=I.base.yd b ps e;obtain⟨Q,G⟩:=yd b _ t;exact⟨m1++Q,by rw[G,Array.append_assoc]⟩
 . obtain⟨m,U,W⟩:=I.loc;refine⟨m,ns m U,λi x v t G Y=>?_⟩;obtain⟨u,r,l⟩:=W i x v t G Y;refine⟨u,r,?_⟩;rcases l with l|⟨k,c,e,z⟩;.exact .inl l
   .exact .inr ⟨k,c,e,g x c e _ z⟩
 .obtain⟨v,z⟩:=I.cell x c e;exact⟨v,g x c e v z⟩
 .obtain⟨m,⟨o,_,_,ho,_⟩,_⟩:=I.loc;exact free _ o (λz=>(f _ z).2.1 rfl) ho I.free
 .obtain⟨v,o,ho,hd⟩:=I.cell x c e;exact free c o (λz=>(f c z).2.2.1 x c e rfl) ho (I.jY x c e)
 .obtain⟨e,n,ne,N,d⟩:=I.pin p L;have E:p.1∉ch:=λz=>(f p.1 z).2.2.2 p L rfl;exact⟨keep p.1 p.2 ne N E e n,free p.1 p.2 E e n,ne,N,d⟩
theorem Inv.un(I:Inv X pins σ H s)(u:Un X.fs [] H H' s.heap h')(hok:mO X.prog X.w H' h'):Inv X pins σ H' {s with heap:=h',toks:=t'}:=by obtain⟨m,⟨o,es,ep,ho,r⟩,_⟩:=id I.loc;obtain⟨sl,j⟩:=u.any ho I.free (by simp);exact I.step (g':=s.gens) (d':=s.drawn) (ch:=[]) (λ_ z=>nomatch z) (λb o _ c _ e n=>u.keep b o e n c (by simp)) (λb o _ c _ e n=>u.slot b o e n c (by simp)) (λb o _ e n=>u.free b o e n (by simp)) (λb o _ e=>u.there b o e (by simp)) u.tups u.vJ u.yd (λp k=>by obtain⟨q,f,g,a,l⟩:=k;rw[ho]at a;cases a;exact⟨_,f,g,j,l⟩) hok I.bare
theorem Inv.call{g':Array GenState}{d':Drawn}{ch:List Addr}(I:Inv X pins σ H s)(u:Un (frs X.stack) ch H H' s.heap h')(hok:mO X.prog X.w H' h')(l:AllBare g')(a:∀b∈ch,(b∈X.ex\/X.s₀.heap.objs.size<=b)/\b≠X.env.locals/\(∀x c,X.env.cells.lookup x=some c->c≠b)/\∀p∈X.pn++pins,p.1≠b):Inv X pins σ H' {s with heap:=h',gens:=g',drawn:=d',toks:=t'}:=by obtain⟨m,⟨o,es,ep,ho,r⟩,_⟩:=id I.loc;obtain⟨sl,g⟩:=u.any ho I.free λz=>(a _ z).2.1 rfl;exact I.step (ch:=ch) a (λb o g q hc e n=>u.keep b o e n (λz=>(mem_cons.mp (I.vA b z)).elim g q) hc) (λb o _ _ hc e n=>u.any e n hc) (λb o hc e n=>u.free b o e n hc) (λb o hc e=>u.there b o e hc) u.tups u.vJ u.yd (λy t=>by obtain⟨B,j,k,f,v⟩:=t;rw[ho]at f;cases f;exact⟨_,j,k,g,v⟩) hok l
theorem Inv.turned{it:Addr}(I:Inv X pins σ H s)(k:∀b o,b≠it->s.heap.get? b=some o->h'.get? b=some o)(g:H it=none)(f:it≠X.env.locals)(h1:it∈X.ex\/X.s₀.heap.objs.size<=it)(j:∀x c,X.env.cells.lookup x=some c->c≠it)(l:∀p∈X.pn++pins,p.1≠it):Inv X pins σ H {s with heap:=h',toks:=t'}:=by
 have a:∀b u,H b=some u->b≠it:=λb u e z=>by rw[z,g]at e;cases e
 refine I.step (g':=s.gens) (d':=s.drawn) (ch:=[it]) (λb t=>?_) (λb o _ _ hc e _=>k b o (λz=>hc (by simp[z])) e) (λb o _ _ hc e _=>⟨o.slots,k b o (λz=>hc (by simp[z])) e⟩) (λ_ _ _ _ n=>n) (λb o hc e=>⟨o,k b o (λz=>hc (by simp[z])) e⟩) (λ_ _ e=>e) (λ_ _ _ e=>e) (λb ps e=>⟨#[],by rw[e];simp⟩) (λm y=>?_) (λb u e=>?_) I.bare
 . have e:b=it:=by simpa using t
   subst e;exact⟨h1,f,j,l⟩
 .obtain⟨o,es,ep,ho,r⟩:=y;exact⟨o,es,ep,k _ o (Ne.symm f) ho,r⟩
 . refine(I.hok b u e).stay (λc v hc q=>k c v ?_ q) (λ_ q=>q) λ_ _ q=>q;rcases hc with z|z;.rw[z];exact a b u e
   .exact a c _ z
theorem Inv.tok(I:Inv X pins σ H s)(t:Nat):Inv X pins σ H {s with toks:=t}:=I.un (h':=s.heap) (t':=t) Un.refl I.hok
theorem Inv.kept{t':Nat}(I:Inv X pins σ H s)(k:∀b u,s.heap.get? b=some u->h'.get? b=some u):Inv X pins σ H {s with heap:=h',toks:=t'}:=I.un (Un.kept k) (I.hok.kept k)
theorem Inv.laid{a:Addr}{o:HO}{t':Nat}(I:Inv X pins σ H s)(k:∀b u,s.heap.get? b=some u->h'.get? b=some u)(c:s.heap.objs.size<=a)(e:bz X.prog X.w (upd H a o) h' a o):Inv X pins σ (upd H a o) {s with heap:=h',toks:=t'}:=I.un (Un.laid k c (I.hok.fresh c)) (I.hok.laid k c e)
theorem Inv.write{x e:Addr}{o:HO}{t':Nat}(I:Inv X pins σ H s)(f:YL (H x))(he:e=x\/H e=some (.own x))(k:∀b u,b≠e->s.heap.get? b=some u->h'.get? b=some u)(a:∃u,h'.get? e=some u)(c:bz X.prog X.w (upd H x o) h' x o):Inv X pins σ (upd H x o) {s with heap:=h',toks:=t'}:=I.un (Un.write f he k a) (I.hok.write f he k a c)
theorem Inv.Cj{a:List (Addr×Obj)}(I:Inv X pins σ H s)(h:∀p∈a,s.heap.get? p.1=some p.2/\H p.1=none/\p.1≠X.env.locals/\p.1∉X.fs/\∀v,p.2.data≠.cell v):Inv X a σ H s:=⟨I.ok,I.os,I.bare,I.base,I.loc,I.cell,I.free,I.jY,λp b=>(mem_append.mp b).elim (λz=>I.pin p (List.mem_append_left _ z)) (h p),I.hok,I.len⟩
theorem wO{N:List Str}(c:N.Nodup){j:Nat}{x:Str}(a:N[i]?=some x)(b:N[j]?=some x):i=j:=by obtain⟨h1,e⟩:=eG a;obtain⟨g,f⟩:=eG b;exact(List.getElem_inj c).mp (e.trans f.symm)
theorem tV{E:Value->Shared->Prop}{x:Str}{v:V}{u:Value}{Q:Unit->Shared->Prop}(I:Inv X pins σ H s)(hN:X.N.Nodup)(hi:X.N[i]?=some x)(l:Loc X.env.scope x)(r:RelV v u)(h:∀s',Inv X pins (σ.set i (some v)) H s'->(∃a,SameBut a s.heap s'.heap/\(a=X.env.locals\/X.env.cells.lookup x=some a))->Q () s')(hf:X.fn x=true\/X.env.scope.names.lookup x=some .local:=by first|exact .inl rfl|exact .inr rfl|assumption):wpAny M A (storeName X.env x u) Q E s:=by
 obtain⟨m,hn,hl⟩:=id I.loc;have O:(X.env.scope.kind==.class||(X.env.scope.kind==.module&&X.env.locals !=X.env.globals))=false:=by rw[I.ok.kind];rfl
 have C:i<σ.length:=by rw[I.len];exact(eG hi).1
 have QC:=I.QC;have f:∀{a:Addr}{h':Heap},(∃o,s.heap.get? a=some o/\H a=none)->SameBut a s.heap h'->mO X.prog X.w H h':=λ{a h'}ha hs b ob e=>by
  obtain⟨_,_,t⟩:=ha;refine(I.hok b ob e).stay (λc Z hc q=>(hs.2 c ?_).trans q) (λ_ q=>q) λ_ _ q=>q;rintro rfl;rcases hc with rfl|hc;.rw[t]at e;cases e
  .rw[t]at hc;cases hc
 rcases l with hk|hk
 . refine wpAny_storeName_local hk hn (λh' ac hs=>?_) O;obtain⟨oL,_,_,ae,_⟩:=id hn;refine h _ ⟨I.ok,I.os,I.bare,⟨λb o e n G l=>?_,λb o e n G l=>?_,I.base.free,λb o e l=>?_,I.base.tups,I.base.vJ,I.base.yd⟩,⟨_,ac,λj y v' g B e3=>?_⟩,λy c e=>?_,I.free,I.jY,λp hp=>?_,f ⟨oL,ae,I.free⟩ hs,by simpa using I.len⟩ ⟨_,hs,.inl rfl⟩;.exact(hs.2 b (ne_of_lt (lt_of_lt_of_le (lt_size e) I.ok.above))).trans (I.base.keep b o e n G l)
   .obtain⟨sl,g⟩:=I.base.slot b o e n G l;exact⟨sl,(hs.2 b (ne_of_lt (lt_of_lt_of_le (lt_size e) I.ok.above))).trans g⟩
   .obtain⟨o',g⟩:=I.base.there b o e l;exact⟨o',(hs.2 b (ne_of_lt (lt_of_lt_of_le (lt_size e) I.ok.above))).trans g⟩
   . by_cases J:j=i;.subst J;rw[hi]at g;cases g;rw[getElem?_set_self C]at B;cases B;exact⟨u,r,.inl ⟨hk,by simp⟩⟩
     . rw[eV J]at B;obtain⟨u',r',q⟩:=hl j y v' g B e3;refine⟨u',r',?_⟩;rcases q with⟨k,e⟩|⟨k,c,e,z⟩;.refine .inl ⟨k,?_⟩;have:y≠x:=λe=>J (wO hN g (e▸hi));simp[this,e]
       .exact .inr ⟨k,c,e,z.sameBut hs (QC y c e)⟩
   .obtain⟨Z,z⟩:=I.cell y c e;exact⟨Z,z.sameBut hs (QC y c e)⟩
   .obtain⟨e,n,ne,nf,d⟩:=I.pin p hp;exact⟨(hs.2 p.1 ne).trans e,n,ne,nf,d⟩
 . have L:X.fn x=true:=by
    rcases hf with z|z;.exact z
    .rw[z]at hk;cases hk
   obtain⟨c,hc⟩:=I.ok.has x (.inl hk);obtain⟨Z,z⟩:=I.cell x c hc;refine wpAny_storeName_cell I.ok.kind hk hc z (λh' U hs=>?_);obtain⟨oc,W,af⟩:=id z;refine h {s with heap:=h'} ⟨I.ok,I.os,I.bare,⟨λb o e n G l=>?_,λb o e n G l=>?_,I.base.free,λb o e l=>?_,I.base.tups,I.base.vJ,I.base.yd⟩,⟨m,hn.sameBut hs (Ne.symm (QC x c hc)),λj y v' g B e3=>?_⟩,λy c' e=>?_,I.free,I.jY,λp hp=>?_,f ⟨oc,W,I.jY x c hc⟩ hs,by simpa using I.len⟩ ⟨c,hs,.inr hc⟩;.exact(hs.2 b (ne_of_lt (lt_of_lt_of_le (lt_size e) (I.ok.cab x c L hc)))).trans (I.base.keep b o e n G l)
   .obtain⟨sl,g⟩:=I.base.slot b o e n G l;exact⟨sl,(hs.2 b (ne_of_lt (lt_of_lt_of_le (lt_size e) (I.ok.cab x c L hc)))).trans g⟩
   .obtain⟨o',g⟩:=I.base.there b o e l;exact⟨o',(hs.2 b (ne_of_lt (lt_of_lt_of_le (lt_size e) (I.ok.cab x c L hc)))).trans g⟩
   . by_cases J:j=i;.subst J;rw[hi]at g;cases g;rw[getElem?_set_self C]at B;cases B;exact⟨u,r,.inr ⟨.inl hk,c,hc,U⟩⟩
     . rw[eV J]at B;obtain⟨u',r',q⟩:=hl j y v' g B e3;refine⟨u',r',?_⟩;rcases q with q|⟨k,c',e,z'⟩;.exact .inl q
       .refine .inr ⟨k,c',e,z'.sameBut hs ?_⟩;rintro rfl;exact J (wO hN g (I.ok.inj _ _ _ e hc▸hi))
   . by_cases Y:c'=c;.subst Y;exact⟨_,U⟩
     .obtain⟨w2,z2⟩:=I.cell y c' e;exact⟨w2,z2.sameBut hs Y⟩
   .obtain⟨e,n,ne,nf,d⟩:=I.pin p hp;refine⟨(hs.2 p.1 ?_).trans e,n,ne,nf,d⟩;intro q;rw[q,W]at e;have q':oc=p.2:=Option.some.inj e;exact d Z (by rw[<-q'];exact af)
theorem jr{E:Value->Shared->Prop}{x:Str}{v:V}{u:Value}{Q:Unit->Shared->Prop}(I:Inv X pins σ H s)(b:X.N.Nodup)(hi:X.N[i]?=some x)(c:Loc X.env.scope x)(r:RelV v u)(h:∀a,Inv X pins (σ.set i (some v)) H a->Q () a)(e:X.fn x=true\/X.env.scope.names.lookup x=some .local:=by first|exact .inl rfl|exact .inr rfl|assumption):wpAny M A (storeName X.env x u) Q E s:=tV I b hi c r (λa f _=>h a f) e
end
abbrev XK:=Value->Option Addr->Hp->Prop
noncomputable abbrev St:=List (Option V)
abbrev VK:=V->Hp->Prop
abbrev TE:=St->Hp->VK->Prop
variable{te:TE}
abbrev TT:=St->Hp->(Bool->Hp->Prop)->Prop
abbrev TA:=St->Hp->(List V->Hp->Prop)->Prop
structure Ends where
 nx:St->Hp->Prop
 rt:VK
 bk:St->Hp->Prop:=λ_ _=>False
 ct:St->Hp->Prop:=λ_ _=>False
abbrev TS:=Ends->St->Hp->Prop
inductive EP(X:Cx)(pins:List (Addr×Obj))(σ:St)(Q:VK)(u:Value)(s':Shared):Prop where|mk(v:V)(H':Hp)(q0:Inv X pins σ H' s')(q1:RelV v u)(q2:Q v H')
def TP(X:Cx)(pins:List (Addr×Obj))(σ:St)(Q:Bool->Hp->Prop)(b:Bool)(c:Shared):Prop:=∃a,Inv X pins σ a c/\Q b a
inductive AP(X:Cx)(pins:List (Addr×Obj))(σ:St)(Q:List V->Hp->Prop)(us:List Value)(s':Shared):Prop where|mk(vs:List V)(H':Hp)(q0:Inv X pins σ H' s')(q1:Vals vs us)(q2:Q vs H')
def SP(X:Cx)(pins:List (Addr×Obj))(D:Ends)(f:Flow)(c:Shared):Prop:=match f with|.next=>∃a b,Inv X pins a b c/\D.nx a b|.brk=>∃a b,Inv X pins a b c/\D.bk a b|.cont=>∃a b,Inv X pins a b c/\D.ct a b|.ret u=>∃v a b,Inv X pins a b c/\RelV v u/\D.rt v b
def PE(X:Cx)(e:Expr)(t:TE):Prop:=∀(pins:List (Addr×Obj))(s:Shared)(σ:St)(H:Hp)(Q:VK),Inv X pins σ H s->t σ H Q->wpAny (model X.prog X.w) X.A (eval e X.env) (EP X pins σ Q) X.xe s
def PT(X:Cx)(e:Expr)(t:TT):Prop:=∀(pins:List (Addr×Obj))(s:Shared)(σ:St)(H:Hp)(Q:Bool->Hp->Prop),Inv X pins σ H s->t σ H Q->wpAny (model X.prog X.w) X.A (isTrue e X.env (eval e X.env)) (TP X pins σ Q) X.xe s
def PW(X:Cx)(e:Expr)(t:TT):Prop:=∀(a:Sem Value)(pins:List (Addr×Obj))(s:Shared)(σ:St)(H:Hp)(Q:Bool->Hp->Prop),Inv X pins σ H s->t σ H Q->wpAny (model X.prog X.w) X.A (isTrue e X.env a) (TP X pins σ Q) X.xe s
theorem PW.pt{e:Expr}{t:TT}(h:PW X e t):PT X e t:=h _
def PA(X:Cx)(es:List Expr)(t:TA):Prop:=∀(pos:Pos)(pins:List (Addr×Obj))(s:Shared)(σ:St)(H:Hp)(Q:List V->Hp->Prop),Inv X pins σ H s->t σ H Q->wpAny (model X.prog X.w) X.A (spliced (backTo pos (starEach es X.env))) (AP X pins σ Q) X.xe s
def PS(X:Cx)(st:Stmt)(t:TS):Prop:=∀(pins:List (Addr×Obj))(s:Shared)(σ:St)(H:Hp)(D:Ends),Inv X pins σ H s->t D σ H->wpAny (model X.prog X.w) X.A (exec st X.env) (SP X pins D) X.xe s
def wu(X:Cx)(st:List Stmt)(t:TS):Prop:=∀(pins:List (Addr×Obj))(s:Shared)(σ:St)(H:Hp)(D:Ends),Inv X pins σ H s->t D σ H->wpAny (model X.prog X.w) X.A (execs st X.env) (SP X pins D) X.xe s
theorem bT{b:Type}{t:Sem b}{Q c:b->Shared->Prop}{E:Value->Shared->Prop}(h:wpAny M A t Q E s)(e:∀a s,Q a s->c a s):wpAny M A t c E s:=wpAny_mono h e λ_ _ x=>x
section
variable{X:Cx}
def Q7(i:Nat):TE:=λσ H Q=>∃v,σ[i]?=some (some v)/\Q v H
def tC(v:V):TE:=λ_ H Q=>Q v H
theorem eX{x:Str}(f:X.N[i]?=some x)(g:vQ X.env.scope x)(hd:(x==("__debug__":Str))=false:=by decide)(b:(x==("__classdict__":Str))=false:=by decide):PE X (.Name x pos) (Q7 i):=by
 intro pins s σ H Q I h;obtain⟨v,e,h⟩:=h;obtain⟨m,j,k⟩:=I.loc;obtain⟨u,r,l⟩:=k i x v f e g;have fin:EP X pins σ Q u s:=⟨v,H,I,r,h⟩;rcases l with⟨hk,n⟩|⟨hk,c,hc,a⟩;.exact wpAny_Name (wpAny_loadName_local I.ok.kind hk j n fin) hd
 . rcases hk with hk|hk;.exact wpAny_Name (wpAny_loadName_cell I.ok.kind hk hc a fin) hd
   .exact wpAny_Name (wpAny_loadName_free I.ok.kind hk hc a fin b) hd
theorem uF{i j pos}:PE X (.Constant (.int i) j pos) (tC (.int i)):=λ_ _ _ H _ I h=>wpAny_Constant_int ⟨.int i,H,I.tok _,⟨_,rfl⟩,h⟩
theorem Yr{b j pos}:PE X (.Constant (.bool b) j pos) (tC (.bl b)):=λ_ _ _ H _ I h=>Constant_bool ⟨.bl b,H,I,rfl,h⟩
theorem QB{j pos}:PE X (.Constant .none j pos) (tC .non):=λ_ _ _ H _ I h=>Constant_none ⟨.non,H,I,rfl,h⟩
def Gl(X:Cx)(x:Str):Prop:=X.env.kindOf x=some .globalImplicit
theorem Nb{E:Value->Shared->Prop}{σ:St}{x:Str}{u:Value}{Q:Value->Shared->Prop}(I:Inv X pins σ H s)(a:Gl X x)(b:X.mg x=some u)(h:Q u s)(hd:(x==("__debug__":Str))=false:=by decide):wpAny (model X.prog X.w) X.A (eval (.Name x pos) X.env) Q E s:=Calls.Name_function_global I.ok.kind a (Calls.loadGlobal_global (by rw[I.ok.glob];exact I.mod.glob.keeps I.bk) b h) hd
theorem iy{E:Value->Shared->Prop}{σ:St}{x:Str}{u:Value}{Q:Value->Shared->Prop}(I:Inv X pins σ H s)(a:Gl X x)(b:X.mg x=none)(c:bootBuiltins x=some u)(h:Q u s)(e:x≠"__name__":=by decide)(hd:(x==("__debug__":Str))=false:=by decide):wpAny (model X.prog X.w) X.A (eval (.Name x pos) X.env) Q E s:=by obtain⟨g,h1,f⟩:=I.mod.blt;exact Calls.Name_function_global I.ok.kind a (Calls.loadGlobal_builtin (by rw[I.ok.glob];exact I.mod.glob.keeps I.bk) b (by rw[I.ok.blt];exact h1.keeps I.bk) ((f x e).trans c) h) hd
variable{a b:Expr}{ta tb:TE}{pos:Pos}
def PC(X:Cx)(op:CmpOp)(a b:Expr)(t:TE):Prop:=∀(pins:List (Addr × Obj))(s:Shared)(σ:St)(H:Hp)(Q:VK),Inv X pins σ H s->t σ H Q->wpAny (model X.prog X.w) X.A (eval a X.env) (λv c=>wpAny (model X.prog X.w) X.A (eval b X.env) (λu e=>wpAny (model X.prog X.w) X.A (compareOp op v u) (EP X pins σ Q) X.xe e) X.xe c) X.xe s
def tB(t:TE):TT:=λσ H Q=>t σ H λx e=>∃c,x=.bl c/\Q c e
theorem Tj{t:TE}(h:PC X op a b t)(h1:behindInMarks op b=false:=by first|exact Y5 _ (by decide) (by decide)|rfl):PT X (.Compare a [op] [b] pos) (tB t):=by intro pins s σ H Q I e;refine wpAny_isTrue_Compare1 (bT (h pins s σ H _ I e) λv s1 h1=>bT h1 λu s2 f=>bT f λc s3⟨x,H1,I1,r1,q1⟩=>?_) h1;obtain⟨d,rfl,q⟩:=q1;cases r1;exact wpAny_truthy_bool ⟨H1,I1,q⟩
theorem TQ{e:Expr}{t:TE}(h:PE X e t)(he:∀c,isTrue e X.env c=(do let v<-c;standAt e.pos;holding [v] (truthy v)):=by intro _;rfl):PT X e (tB t):=by intro pins s σ H Q I f;refine isTrue_plain (bT (h pins s σ H _ I f) λv s1⟨x,H1,I1,r1,q1⟩=>?_) (he _);obtain⟨d,rfl,q⟩:=q1;cases r1;exact wpAny_truthy_bool ⟨H1,I1,q⟩
variable{tA tB':TT}{rest:List Expr}
def tOr(t u:TT):TT:=λσ H Q=>t σ H λc e=>if c=true then Q true e else u σ e Q
def abl(t:TT):TT:=λσ H Q=>t σ H λc e=>Q (!c) e
theorem S9(f:PT X a tA):PW X (.BoolOp .Or [a] pos) tA:=by intro wh pins s σ H Q I h;refine isTrue_or (bT (f pins s σ H Q I h) λc s1 e=>?_);cases c with|false=>exact isTrue_or_nil e|true=>exact e
theorem Wu(f:PT X a tA)(g:PW X (.BoolOp .Or (b::rest) pos) tB'):PW X (.BoolOp .Or (a::b::rest) pos) (tOr tA tB'):=by intro wh pins s σ H Q I h;refine isTrue_or (bT (f pins s σ H _ I h) λc s1⟨e,I1,q1⟩=>?_);cases c with|true=>exact⟨e,I1,q1⟩|false=>exact g wh pins s1 σ e Q I1 q1
theorem Tf(e:PT X a tA):PT X (.UnaryOp .Not a pos) (abl tA):=by intro pins s σ H Q I h;exact isTrue_not (e pins s σ H (λc f=>Q (!c) f) I h)
def tIf(t:TT)(ta tb:TE):TE:=λσ H Q=>t σ H λc e=>if c=true then ta σ e Q else tb σ e Q
theorem Ff{c:Expr}(hc:PT X c tA)(f:PE X a ta)(g:PE X b tb):PE X (.IfExp c a b pos) (tIf tA ta tb):=by intro pins s σ H Q I h;refine wpAny_IfExp (bT (hc pins s σ H _ I h) λd s1⟨e,I1,q1⟩=>?_);cases d with|true=>exact f pins s1 σ e Q I1 q1|false=>exact g pins s1 σ e Q I1 q1
end
def fP(K:PySem.W.Frag)(H:Hp)(a:Addr)(xs:List V):Prop:=Rd H a (.lst xs)\/∃(o:Obj)(b:Array Value)(n:Nat),K.lookup a=some o/\o.cls=.type "list"/\o.dict=none/\o.data=.seq b n/\b.size<=sizeLine/\Vals xs b.toList
def jO(K:PySem.W.Frag)(H:Hp)(a:Addr)(xs:List V):Prop:=Rd H a (.tup xs)\/∃(o:Obj)(b:Array Value)(n:Nat),K.lookup a=some o/\o.cls=.type "tuple"/\o.data=.seq b n/\b.size<=sizeLine/\Vals xs b.toList
noncomputable def abq:Value->Option V|.none=>some .non|.bool b=>some (.bl b)|.int i _=>some (.int i)|.str x _=>some (.str x)|.bytes b _=>some (.byt b)|.float b _=>some (.flt b)|.ref a=>some (.ref a)|.type n=>some (.ty n)|_=>none
theorem RelV.abs{x:V}{u:Value}(r:RelV x u):abq u=some x:=by cases x with|non=>cases r;rfl|bl _=>cases r;rfl|int _=>obtain⟨t,rfl⟩:=r;rfl|str _=>obtain⟨t,rfl⟩:=r;rfl|byt _=>obtain⟨t,rfl⟩:=r;rfl|flt _=>obtain⟨t,rfl⟩:=r;rfl|ref _=>cases r;rfl|ty _=>cases r;rfl
theorem RelV.inj{x y:V}{u:Value}(r:RelV x u)(q:RelV y u):x=y:=Option.some.inj (r.abs.symm.trans q.abs)
theorem Vals.inj:∀{xs ys:List V}{us:List Value},Vals xs us->Vals ys us->xs=ys|_,_,_,.nil,.nil=>rfl|_,_,_,.cons r t,.cons a t'=>by rw[r.inj a,Vals.inj t t']
section
variable{X:Cx}{pins:List (Addr×Obj)}{σ:St}{H:Hp}{s:Shared}{a:Addr}{xs ys:List V}
theorem fP.of(h:H a=some (.lst xs)):fP K H a xs:=.inl (.inl h)
theorem jO.of(h:H a=some (.tup xs)):jO K H a xs:=.inl (.inl h)
theorem Inv.list(I:Inv X pins σ H s)(h:fP X.K H a xs):∃b:List Value,Vals xs b/\PlainL s.heap a b.toArray/\xs.length<=sizeLine:=by
 rcases h with h|⟨o,b,n,c,hc,hd,hs,hz,r⟩;.obtain⟨z,b,n,r,e⟩:=h.ok I.hok;exact⟨b,r,⟨_,n,e,rfl,rfl,rfl⟩,z⟩
 .refine⟨b.toList,r,⟨o,n,I.U0 a o c,hc,hd,by simpa using hs⟩,?_⟩;have e:=r.length;simp only[length_toList]at e;omega
theorem Inv.tuple(I:Inv X pins σ H s)(h:jO X.K H a xs):∃b:List Value,Vals xs b/\IsTup s.heap a b.toArray/\xs.length<=sizeLine:=by
 rcases h with h|⟨o,b,n,c,hc,hs,hz,r⟩;.obtain⟨z,b,r,p⟩:=h.ok I.hok;exact⟨b,r,p,z⟩
 .refine⟨b.toList,r,⟨o,I.U0 a o c,hc,n,by simpa using hs⟩,?_⟩;have e:=r.length;simp only[length_toList]at e;omega
theorem Inv.wQ(I:Inv X pins σ H s)(h:fP X.K H a xs)(h':fP X.K H a ys):xs=ys:=by
 obtain⟨b,r,⟨o,n,e,_,_,d⟩,_⟩:=I.list h;obtain⟨its',f,⟨g,j,c,_,_,d'⟩,_⟩:=I.list h';rw[e]at c;cases c;rw[d]at d';injection d' with d1 _;have:b=its':=by simpa using congrArg toList d1
 subst this;exact r.inj f
theorem Inv.tG(I:Inv X pins σ H s)(h:jO X.K H a xs)(h':jO X.K H a ys):xs=ys:=by
 obtain⟨b,r,⟨o,e,_,n,d⟩,_⟩:=I.tuple h;obtain⟨its',f,⟨g,c,_,j,d'⟩,_⟩:=I.tuple h';rw[e]at c;cases c;rw[d]at d';injection d' with d1 _;have:b=its':=by simpa using congrArg toList d1
 subst this;exact r.inj f
end
noncomputable abbrev Cx.wish(X:Cx)(E:Value->Shared->Prop):Cx:={X with xe:=E}
noncomputable abbrev Cx.YM(X:Cx):Cx:=X.wish λ_ _=>False
theorem Cx.Ok.wish{X:Cx}(ok:X.Ok)(E:Value->Shared->Prop):(X.wish E).Ok:=⟨ok.mod,ok.kind,ok.glob,ok.blt,ok.above,ok.inj,ok.has,ok.cab,ok.hd,ok.frames,ok.stk,ok.exf,ok.bs,ok.PK,ok.JG,ok.Nh,ok.qy,ok.Wm⟩
theorem Cx.Ok.jw{E:Value->Shared->Prop}(ok:(X.wish E).Ok):X.Ok:=⟨ok.mod,ok.kind,ok.glob,ok.blt,ok.above,ok.inj,ok.has,ok.cab,ok.hd,ok.frames,ok.stk,ok.exf,ok.bs,ok.PK,ok.JG,ok.Nh,ok.qy,ok.Wm⟩
section
variable{X:Cx}{pins:List (Addr×Obj)}{σ:St}{H:Hp}{s:Shared}{E:Value->Shared->Prop}
theorem Inv.wish(I:Inv X pins σ H s)(E:Value->Shared->Prop):Inv (X.wish E) pins σ H s:=⟨I.ok.wish E,I.os,I.bare,I.base,I.loc,I.cell,I.free,I.jY,I.pin,I.hok,I.len⟩
theorem Inv.jw(I:Inv (X.wish E) pins σ H s):Inv X pins σ H s:=⟨I.ok.jw,I.os,I.bare,I.base,I.loc,I.cell,I.free,I.jY,I.pin,I.hok,I.len⟩
theorem SP.jw{D:Ends}{f:Flow}{c:Shared}(h:SP (X.wish E) pins D f c):SP X pins D f c:=by cases f with|next=>obtain⟨a,b,I,q⟩:=h;exact⟨a,b,I.jw,q⟩|brk=>obtain⟨a,b,I,q⟩:=h;exact⟨a,b,I.jw,q⟩|cont=>obtain⟨a,b,I,q⟩:=h;exact⟨a,b,I.jw,q⟩|ret u=>obtain⟨v,a,b,I,r,q⟩:=h;exact⟨v,a,b,I.jw,r,q⟩
theorem wu.YM{st:List Stmt}{t:TS}(h:wu X.YM st t):wu X st t:=λpins s σ H D I a=>wpAny_mono (h pins s σ H D (I.wish _) a) (λ_ _ q=>q.jw) λ_ _ z=>False.elim z
end
section
variable{X:Cx}{st:Stmt}{rest:List Stmt}{t u:TS}{e:Expr}{te:TE}{pos:Pos}
def Xm:TS:=λD σ H=>D.nx σ H
def abB(t u:TS):TS:=λD σ H=>t {D with nx:=u D} σ H
theorem Bh:wu X [] Xm:=λ_ _ σ H _ I h=>wpAny_execs_nil ⟨σ,H,I,h⟩
theorem mJ(h1:PS X st t)(b:wu X rest u):wu X (st::rest) (abB t u):=by intro pins s σ H D I h;refine wpAny_execs_cons (bT (h1 pins s σ H {D with nx:=u D} I h) λf s1 q=>?_);cases f with|next=>obtain⟨a,c,g,q⟩:=q;exact b pins s1 a c D g q|ret v=>exact q|brk=>exact q|cont=>exact q
theorem Inv.quiet{σ:St}(I:Inv X pins σ H s):interactive X.env=false:=by simp[interactive,I.ok.kind]
def Xq(te:TE):TS:=λD σ H=>te σ H λ_ a=>D.nx σ a
theorem vg(he:PE X e te)(hs:swapsWith e none pos.line X.env=pure false:=by rfl):PS X (.Expr e pos) (Xq te):=by intro pins s σ H D I h;exact wpAny_Expr_any (bT (he pins s σ H _ I h) λv s1⟨x,H1,I1,r1,q1⟩=>⟨σ,H1,I1,q1⟩) I.quiet hs
def acG(te:TE):TS:=λD σ H=>te σ H D.rt
theorem Fb(he:PE X e te):PS X (.Return (some e) pos) (acG te):=by intro pins s σ H D I h;exact wpAny_Return_some (bT (he pins s σ H _ I h) λv s1⟨x,H1,I1,r1,q1⟩=>⟨x,σ,H1,I1,r1,q1⟩)
def acL(c:TT)(t u:TS):TS:=λD σ H=>c σ H λb a=>if b=true then t D σ a else u D σ a
theorem Pb{c:Expr}{a b:List Stmt}{f:TT}(hc:PT X c f)(j:wu X a t)(k:wu X b u):PS X (.If c a b pos) (acL f t u):=by intro pins s σ H D I h;refine wpAny_If (bT (hc pins s σ H _ I h) λd s1⟨g,I1,q1⟩=>?_);cases d with|true=>exact j pins s1 σ g D I1 q1|false=>exact k pins s1 σ g D I1 q1
def Uj:TS:=λ_ _ _=>False
theorem HJ:PS X st Uj:=λ_ _ _ _ _ _ h=>h.elim
end
abbrev TG:=V->St->Hp->(St->Hp->Prop)->Prop
abbrev Et:=List V->St->Hp->(St->Hp->Prop)->Prop
def PG(X:Cx)(a:Expr)(t:TG):Prop:=∀(pins:List (Addr × Obj))(s:Shared)(σ:St)(H:Hp)(v:V)(u:Value)(Q:St->Hp->Prop),Inv X pins σ H s->RelV v u->t v σ H Q->wpAny (model X.prog X.w) X.A (assign a X.env u) (λ_ e=>∃b c,Inv X pins b c e/\Q b c) X.xe s
def PGs(X:Cx)(c:List Expr)(t:Et):Prop:=∀(pins:List (Addr × Obj))(s:Shared)(σ:St)(H:Hp)(vs:List V)(us:List Value)(Q:St->Hp->Prop),Inv X pins σ H s->Vals vs us->t vs σ H Q->wpAny (model X.prog X.w) X.A (assignInOrder ((assignEach c X.env).map (·.2)) us) (λ_ e=>∃a b,Inv X pins a b e/\Q a b) X.xe s
abbrev Hu:=V->V->V->Hp->(Hp->Prop)->Prop
def R0(X:Cx)(t:Hu):Prop:=∀(pins:List (Addr × Obj))(s:Shared)(σ:St)(H:Hp)(o i v:V)(a iv u:Value)(Q:Hp->Prop),Inv X pins σ H s->RelV o a->RelV i iv->RelV v u->t o i v H Q->wpAny (model X.prog X.w) X.A (setItem a iv u) (λ_ c=>∃b,Inv X pins σ b c/\Q b) X.xe s
abbrev V6:=V->V->Hp->VK->Prop
def Oh(X:Cx)(op:Operator)(t:V6):Prop:=∀(pins:List (Addr × Obj))(s:Shared)(σ:St)(H:Hp)(x y:V)(v u:Value)(Q:VK),Inv X pins σ H s->RelV x v->RelV y u->t x y H Q->wpAny (model X.prog X.w) X.A (inplaceOp op v u) (EP X pins σ Q) X.xe s
section
variable{X:Cx}{pos:Pos}
def jy(i:Nat):TG:=λv σ H Q=>Q (σ.set i (some v)) H
theorem aM{x:Str}(a:X.N.Nodup)(hi:X.N[i]?=some x)(b:Loc X.env.scope x)(c:X.fn x=true\/X.env.scope.names.lookup x=some .local:=by first|exact .inl rfl|exact .inr rfl|assumption):PG X (.Name x pos) (jy i):=by intro pins s σ H v u Q I r h;exact wpAny_assign_Name (jr I a hi b r (λf e=>⟨_,H,e,h⟩) c)
def QR:Et:=λvs σ H Q=>vs=[]/\Q σ H
def Gh(t:TG)(u:Et):Et:=λvs σ H Q=>∃v r,vs=v::r/\t v σ H λa b=>u r a b Q
theorem fM:PGs X [] QR:=by intro pins s σ H vs us Q I r h;obtain⟨e,h⟩:=h;subst e;cases r;exact assignInOrder_nil ⟨σ,H,I,h⟩
theorem bD{e:Expr}{es:List Expr}{t:TG}{u:Et}(h1:PG X e t)(b:PGs X es u)(hs:(assignEach (e::es) X.env).map (·.2)=assign e X.env::(assignEach es X.env).map (·.2):=by rfl):PGs X (e::es) (Gh t u):=by intro pins s σ H vs us Q I r h;obtain⟨v,g,c,h⟩:=h;subst c;cases r with|cons r f=>rw[hs];refine assignInOrder_cons (bT (h1 pins s σ H _ _ _ I r h) λ_ s1⟨a,H1,I1,q1⟩=>?_);exact b pins s1 a H1 _ _ Q I1 f q1
def RJ(K:PySem.W.Frag)(n:Nat)(t:Et):TG:=λv σ H Q=>∃a xs,v=.ref a/\jO K H a xs/\xs.length=n/\t xs σ H Q
theorem iB{es:List Expr}{k:Nat}{t:Et}{n:Nat}(hc:X.calm=true)(h:PGs X es t)(g:(assignEach es X.env).length=n:=by rfl)(hst:(assignEach es X.env).findIdx? (·.1)=none:=by rfl):PG X (.Tuple es k pos) (RJ X.K n t):=by intro pins s σ H v u Q I r c;obtain⟨a,xs,j,l,m,c⟩:=c;subst j;cases r;obtain⟨p,f,ht,hz⟩:=I.tuple l;refine assign_Tuple_tuple (I.ok.hd hc) ht (by simp[g,<-m,f.length]) hst λh' q=>?_;have x:Inv X pins σ H {s with heap:=h'}:=I.kept (t':=s.toks) λb o e=>q b o (ne_of_lt (lt_size e)) e;exact h pins _ σ H xs _ Q x (by simpa using f) c
def acv(to a:TE)(t:Hu):TG:=λv σ H Q=>to σ H λo b=>a σ b λi c=>t o i v c λe=>Q σ e
theorem Ue{o i:Expr}{to b:TE}{t:Hu}(ho:PE X o to)(hi:PE X i b)(hs:R0 X t)(c:∀ v,assign (.Subscript o i pos) X.env v=(do
  let a<-holding [v] (eval o X.env)let iv<-holding [v,a] (eval i X.env)standAt pos
  holding [v,a,iv] (setItem a iv v)release [v,a,iv] []):=by intro _;rfl):PG X (.Subscript o i pos) (acv to b t):=by intro pins s σ H v u Q I r h;rw[c];refine wpAny_bind (wpAny_holding (bT (ho pins s σ H _ I h) λa s1⟨x,H1,I1,r1,q1⟩=>?_));refine wpAny_bind (wpAny_holding (bT (hi pins s1 σ H1 _ I1 q1) λiv s2⟨y,H2,I2,r2,q2⟩=>?_));refine wpAny_bind (wpAny_standAt (wpAny_bind (wpAny_holding (bT (hs pins s2 σ H2 x y v a iv u _ I2 r1 r2 r q2) λ_ s3⟨e,I3,q3⟩=>?_))));exact wpAny_release ⟨σ,e,I3,q3⟩
def RL(te:TE)(g:TG):TS:=λD σ H=>te σ H λx a=>g x σ a D.nx
theorem Qq{e:Expr}{g:TG}(he:PE X e te)(a:PG X tg g)(hs:swapsWithSole [tg] e pos.line X.env=pure false:=by rfl)(b:swappedStores [tg] e X.env=pure none:=by rfl)(h1:(assignEach [tg] X.env).map (·.2)=[assign tg X.env]:=by rfl):PS X (.Assign [tg] e pos) (RL te g):=by intro pins s σ H D I h;refine wpAny_Assign_stores (bT (he pins s σ H _ I h) λv s1⟨x,H1,I1,r1,q1⟩=>?_) hs b;rw[h1];exact bT (a pins s1 σ H1 x v _ I1 r1 q1) λ_ s2 q=>q
theorem zM{x:Str}{e:Expr}{a:Pos}(b:X.N.Nodup)(hi:X.N[i]?=some x)(c:Loc X.env.scope x)(he:PE X e te)(hs:swapsWith e (some (.Name x a)) pos.line X.env=pure false:=by rfl)(f:X.fn x=true\/X.env.scope.names.lookup x=some .local:=by first|exact .inl rfl|exact .inr rfl|assumption):PS X (.Assign [.Name x a] e pos) (RL te (jy i)):=by intro pins s σ H D I h;refine wpAny_Assign_Name (bT (he pins s σ H _ I h) λv s1⟨y,H1,I1,r1,q1⟩=>?_) hs;exact jr I1 b hi c r1 (λs2 g=>⟨_,H1,g,q1⟩) f
def acr(i j:Nat)(a:TA):TS:=λD σ H=>a σ H λvs b=>∃v w,vs=[v,w]/\D.nx ((σ.set i (some v)).set j (some w)) b
theorem Qz{j:Nat}{x y:Str}{a b:Expr}{r:TA}{g k pt:Pos}{kt k2 Us}(hc:X.calm=true)(t:X.N.Nodup)(hi:X.N[i]?=some x)(C:X.N[j]?=some y)(l:i≠j)(u:X.env.scope.names.lookup x=some .local)(z:X.env.scope.names.lookup y=some .local)(E:PA X [a,b] r)(G:swappedStores [.Tuple [.Name x g,.Name y k] kt pt] (.Tuple [a,b] k2 Us) X.env=pure (some [x,y]))(hs:swapsWithSole [.Tuple [.Name x g,.Name y k] kt pt] (.Tuple [a,b] k2 Us) pos.line X.env=pure false:=by rfl):PS X (.Assign [.Tuple [.Name x g,.Name y k] kt pt] (.Tuple [a,b] k2 Us) pos) (acr i j r):=by
 intro pins s σ H D I h;rw[exec_Assign_arm];refine wpAny_bind (wpAny_standAt ?_);rw[hs];refine wpAny_bind (wpAny_pure ?_);rw[if_neg (by decide)];refine wpAny_bind (Tuple_ (bT (E _ pins s σ H _ I h) λus s1⟨vs,H1,I1,r1,m⟩=>?_));obtain⟨v,w,J,m⟩:=m;subst J;obtain⟨c,f,rfl,L,O⟩:∃c f,us=[c,f]/\RelV v c/\RelV w f:=by cases r1 with|cons p q=>cases q with|cons Q U=>cases U;exact⟨_,_,rfl,p,Q⟩
 refine wpAny_newObj_type ?_ (by show 2<=sizeLine;decide);have W:Inv X pins σ H1 {s1 with heap:=s1.heap.push {cls:=.type "tuple",data:=.seq [c,f].toArray}}:=I1.kept (t':=s1.toks) λb o e=>fJ e;rw[G];refine wpAny_bind (wpAny_pure ?_);show wpAny (model X.prog X.w) X.A (do rule "assign.swapped-stores";let items<-unpackItems (.ref s1.heap.objs.size) 2 none;assignInOrder [λv=>bindName X.env y v,λv=>bindName X.env x v] items.reverse;pure Flow.next) _ _ _;refine wpAny_bind (wpAny_rule (wpAny_bind (unpackItems_tuple (items:=#[c,f]) (I.ok.hd hc) (IsTup.new s1.heap _) λh' n=>?_)));have Y:=W.kept (h':=h') (t':=s1.toks) λb o e=>n b o (ne_of_lt (lt_size e)) e;show wpAny _ _ (assignInOrder [λv=>bindName X.env y v,λv=>bindName X.env x v] [f,c]>>=λ_=>pure Flow.next) _ _ _;refine wpAny_bind (assignInOrder_cons (wpAny_bindName (jr Y t C (.inl z) O (λs2 Z=>?_) (.inr z))));refine assignInOrder_cons (wpAny_bindName (jr Z t hi (.inl u) L (λs3 B=>assignInOrder_nil (wpAny_pure ?_)) (.inr u)));rw[List.set_comm _ _ (Ne.symm l)]at B;exact⟨_,H1,B,m⟩
def aci(i:Nat)(te:TE)(a:V6):TS:=λD σ H=>∃x,σ[i]?=some (some x)/\te σ H λy b=>a x y b λz c=>D.nx (σ.set i (some z)) c
theorem RW{x:Str}{e:Expr}{op:Operator}{o:V6}{b:Pos}(p:X.N.Nodup)(hi:X.N[i]?=some x)(j:Loc X.env.scope x)(he:PE X e te)(ho:Oh X op o)(q:X.fn x=true\/X.env.scope.names.lookup x=some .local:=by first|exact .inl rfl|exact .inr rfl|assumption):PS X (.AugAssign (.Name x b) op e pos) (aci i te o):=by
 intro pins s σ H D I h;obtain⟨v,t,h⟩:=h;obtain⟨m,B,C⟩:=I.loc;have n:vQ X.env.scope x:=by rcases j with k|k;exact .inl k;exact .inr (.inl k)
 obtain⟨u,r,l⟩:=C i x v hi t n;refine wpAny_AugAssign_Name ?_;have go:wpAny (model X.prog X.w) X.A (eval e X.env) (λw f=>wpAny (model X.prog X.w) X.A (inplaceOp op u w) (λr g=>wpAny (model X.prog X.w) X.A (storeName X.env x r) (λ_=>SP X pins D .next) X.xe g) X.xe f) X.xe s:=by refine bT (he pins s σ H _ I h) λw s1⟨y,H1,I1,r1,q1⟩=>?_;refine bT (ho pins s1 σ H1 v y u w _ I1 r r1 q1) λz s2⟨J,H2,I2,r2,q2⟩=>?_;exact jr I2 p hi j r2 (λs3 E=>⟨_,H2,E,q2⟩) q
 rcases l with⟨hk,G⟩|⟨hk,c,hc,a⟩;.exact wpAny_loadName_local I.ok.kind hk B G go
 . rcases hk with hk|hk;.exact wpAny_loadName_cell I.ok.kind hk hc a go
   . rcases j with k|k;.have:X.env.scope.names.lookup x=some .free:=hk;rw[k]at this;cases this
     .have:X.env.scope.names.lookup x=some .free:=hk;rw[k]at this;cases this
def YF(to b te:TE)(c:V->V->Hp->VK->Prop)(a:V6)(e:Hu):TS:=λD σ H=>to σ H λo f=>b σ f λi g=>c o i g λx j=>te σ j λy k=>a x y k λz l=>e o i z l λm=>D.nx σ m
def Xg(X:Cx)(t:V->V->Hp->VK->Prop):Prop:=∀(pins:List (Addr × Obj))(s:Shared)(σ:St)(H:Hp)(o i:V)(a iv:Value)(Q:VK),Inv X pins σ H s->RelV o a->RelV i iv->t o i H Q->wpAny (model X.prog X.w) X.A (getItem a iv) (EP X pins σ Q) X.xe s
theorem Ko{o i e:Expr}{to j:TE}{k:V->V->Hp->VK->Prop}{c:V6}{l:Hu}{op:Operator}{f:Pos}(ho:PE X o to)(hi:PE X i j)(p:Xg X k)(he:PE X e te)(q:Oh X op c)(hs:R0 X l)(r:∀b iv a,augStore i b iv a=(do holding [a,b,iv] (setItem b iv a);release [a,b,iv] [];pure .next):=by intros;rfl):PS X (.AugAssign (.Subscript o i f) op e pos) (YF to j te k c l):=by intro pins s σ H D I h;refine wpAny_AugAssign_SubscriptAny (bT (ho pins s σ H _ I h) λb s1⟨m,H1,I1,r1,q1⟩=>?_) r;refine bT (hi pins s1 σ H1 _ I1 q1) λiv s2⟨n,H2,I2,r2,q2⟩=>?_;refine bT (p pins s2 σ H2 m n b iv _ I2 r1 r2 q2) λg s3⟨t,H3,I3,r3,q3⟩=>?_;refine bT (he pins s3 σ H3 _ I3 q3) λv s4⟨u,H4,I4,r4,q4⟩=>?_;refine bT (q pins s4 σ H4 t u g v _ I4 r3 r4 q4) λa s5⟨x,H5,I5,r5,q5⟩=>?_;exact bT (hs pins s5 σ H5 m n x b iv a _ I5 r1 r2 r5 q5) λ_ s6⟨y,I6,q6⟩=>⟨σ,y,I6,q6⟩
def Vr(f:Int->Int->Int):V6:=λx y H Q=>∃i j,x=.int i/\y=.int j/\Q (.int (f i j)) H
theorem Rb:Oh X .Add (Vr λi j=>i+j):=by intro pins s σ H x y v u Q I r1 a h;obtain⟨i,j,b,c,q⟩:=h;subst b;subst c;obtain⟨t,rfl⟩:=r1;obtain⟨t',rfl⟩:=a;exact iadd_int ⟨.int _,H,I.tok _,⟨_,rfl⟩,q⟩
theorem Ri:Oh X .Sub (Vr λi j=>i-j):=by intro pins s σ H x y v u Q I r1 a h;obtain⟨i,j,b,c,q⟩:=h;subst b;subst c;obtain⟨t,rfl⟩:=r1;obtain⟨t',rfl⟩:=a;exact isub_int ⟨.int _,H,I.tok _,⟨_,rfl⟩,q⟩
end
section
variable{X:Cx}{pos:Pos}
def Tv(c:TT)(j:TS):TS:=λD σ H=>∃W:Nat->St->Hp->Prop,(∃m,W m σ H)/\∀m σ H,W m σ H->c σ H λb e=>if b=true then ∃N:St->Hp->Prop,(∀a f,N a f->∃g,g<m/\W g a f)/\j {D with nx:=N,ct:=N,bk:=D.nx} σ e else D.nx σ e
theorem Hx{c:Expr}{body:List Stmt}{t:TT}{u:TS}(x:PassesOwn (model X.prog X.w) X.A X.env X.xe)(hc:PT X c t)(E:wu X body u):PS X (.While c body [] pos) (Tv t u):=by intro pins s σ H D I h;obtain⟨W,⟨m0,G⟩,turn⟩:=h;refine wpAny_While (codeAny_whileLoop (λn J=>∃g y,Inv X pins g y J/\W n g y) ?_ m0 ⟨σ,H,I,G⟩);rintro n s1⟨e,z,L,O⟩;refine wpAny_passesOwn x (bT (hc pins s1 e z _ L (turn n e z O)) λb s2⟨B,I2,k⟩=>?_);cases b with
 |true=>obtain⟨N,C,k⟩:=k;rw[if_pos rfl];refine wpAny_passesOwn x (bT (E pins s2 e B _ I2 k) λf s3 l=>?_);cases f with|next=>obtain⟨a,j,m,o⟩:=l;obtain⟨p,q,r⟩:=C a j o;exact⟨p,q,a,j,m,r⟩|cont=>obtain⟨a,j,m,o⟩:=l;obtain⟨p,q,r⟩:=C a j o;exact⟨p,q,a,j,m,r⟩|brk=>exact l|ret v=>exact l
 |false=>rw[if_neg Bool.false_ne_true];exact wpAny_execs_nil ⟨e,B,I2,k⟩
end
structure It where
 go:Nat->Hp->Prop
 PN:Nat->Hp->V->Hp->Prop
 stop:Nat->Hp->Prop
def qU(X:Cx)(pins:List (Addr×Obj))(H:Hp)(b:Addr):Prop:=H b=none/\b≠X.env.locals/\b∉X.fs/\(b∈X.ex\/X.s₀.heap.objs.size<=b)/\(∀x c,X.env.cells.lookup x=some c->c≠b)/\∀p∈X.pn++pins,p.1≠b
theorem Inv.Jt{σ:St}{f:Hp}{b:Addr}(I:Inv X pins σ H s)(a:s.heap.objs.size<=b)(g:f b=none):qU X pins f b:=by
 refine⟨g,Nat.ne_of_gt (lt_of_lt_of_le I.lt a),I.acM a,.inr (le_trans I.sz a),λx c e z=>?_,λp j z=>?_⟩;.obtain⟨v,q⟩:=I.cell x c e;exact absurd (lt_of_lt_of_le q.lt (by rw[z];exact a)) (lt_irrefl _)
 .exact absurd (lt_of_lt_of_le (lt_size (I.pin p j).1) (by rw[z];exact a)) (lt_irrefl _)
structure Turn(P:Program)(w:World)(K:PySem.W.Frag)(tg:Expr)(J:It)(fp:List Addr)(it:Addr)(tn:Nat->Heap->Prop):Prop where
 mem:it∈fp
 obj:∀i h,tn i h->∀b∈fp,∃o,h.get? b=some o/\∀v,o.data≠.cell v
 keep:∀i h h',tn i h->(∀b∈fp,∀o,h.get? b=some o->h'.get? b=some o)->tn i h'
 item:∀(X:Cx),X.prog=P->X.w=w->X.K=K->X.calm=true->∀(i:Nat)(pins:List (Addr×Obj))(s:Shared)(σ:St)(H:Hp)(E:Value->Shared->Prop),Inv X pins σ H s->(∀b∈fp,qU X pins H b)->tn i s.heap->J.go i H->wpAny (model P w) X.A (pyNext (.ref it)) (λr s1=>∃u,r=some u/\wpAny (model P w) X.A (letOwnedTupleGo tg (.ref it) u) (λ_ s2=>∃x H',Inv X pins σ H' s2/\RelV x u/\J.PN i H x H'/\tn (i+1) s2.heap/\∀b∈fp,H' b=none) E s1) E s
 done:∀(X:Cx),X.prog=P->X.w=w->X.K=K->X.calm=true->∀(i:Nat)(pins:List (Addr×Obj))(s:Shared)(σ:St)(H:Hp)(E:Value->Shared->Prop),Inv X pins σ H s->(∀b∈fp,qU X pins H b)->tn i s.heap->J.stop i H->wpAny (model P w) X.A (pyNext (.ref it)) (λr s1=>r=none/\Inv X pins σ H s1) E s
 self:∀(A:Around)(i:Nat)(s:Shared)(Q:Value->Shared->Prop)(E:Value->Shared->Prop),tn i s.heap->Q (.ref it) s->wpAny (model P w) A (pyIter (.ref it)) Q E s
abbrev TI:=St->Hp->(It->Hp->Prop)->Prop
def PIE(X:Cx)(pins:List (Addr×Obj))(σ:St)(tg:Expr)(R:It->Hp->Prop)(a:Value)(s2:Shared):Prop:=∃(it:Addr)(e:List Addr)(f:Nat->Heap->Prop)(J:It)(c:Hp),a=.ref it/\Inv X pins σ c s2/\Turn X.prog X.w X.K tg J e it f/\f 0 s2.heap/\(∀b∈e,qU X pins c b)/\R J c
def PI(X:Cx)(tg iter:Expr)(a:TI):Prop:=∀(pins:List (Addr × Obj))(s:Shared)(σ:St)(H:Hp)(R:It->Hp->Prop),Inv X pins σ H s->a σ H R->wpAny (model X.prog X.w) X.A (eval iter X.env) (λv s1=>wpAny (model X.prog X.w) X.A (pyIter v) (PIE X pins σ tg R) X.xe s1) X.xe s
theorem Av{E:Value->Shared->Prop}{it:Addr}{u:Value}{o:Obj}{n:String}{vs:Array Value}{Q:Unit->Shared->Prop}(ho:s.heap.get? it=some o)(hc:o.cls=.type n)(hd:o.data=.fields vs)(b:["enumerate","zip","dict_itemiterator","dict_reverseitemiterator","odict_iterator","itertools.zip_longest","itertools.pairwise"].contains n=false)(a:Q () s):wpAny M A (letOwnedTupleGo tg (.ref it) u) Q E s:=by unfold letOwnedTupleGo;cases tg<;>first|exact wpAny_pure a|(cases u<;>first|exact wpAny_pure a|(refine wpAny_bind (wpAny_load ho ?_);rw[hc,hd];show wpAny M A (if(["enumerate","zip","dict_itemiterator","dict_reverseitemiterator","odict_iterator","itertools.zip_longest","itertools.pairwise"].contains n&&vs[0]?==some (rawInt _))=true then _ else _) Q E s;rw[if_neg (by intro h;rw[b,Bool.false_and]at h;cases h)];exact wpAny_pure a))
noncomputable def Qv(K:PySem.W.Frag)(a:Addr):It:=⟨λi H=>∃xs x,fP K H a xs/\xs[i]?=some x,λi H x b=>b=H/\∀xs,fP K H a xs->xs[i]?=some x,λi H=>∃xs,fP K H a xs/\xs.length<=i⟩
noncomputable def Vu(K:PySem.W.Frag)(a:Addr):It:=⟨λi H=>∃xs x,jO K H a xs/\xs[i]?=some x,λi H x b=>b=H/\∀xs,jO K H a xs->xs[i]?=some x,λi H=>∃xs,jO K H a xs/\xs.length<=i⟩
noncomputable def VB(lo:Int)(n:Nat):It:=⟨λi _=>i<n,λi H x a=>a=H/\x=.int (lo+i),λi _=>n<=i⟩
theorem Dj{P:Program}(a it:Addr):Turn P w K tg (Qv K a) [it] it (λi h=>h.IsListIter it a i)where
 mem:=by simp
 obj:=λi h st b f=>by
  have e:b=it:=by simpa using f
  subst e;obtain⟨o,e,c,d⟩:=st;exact⟨o,e,λv z=>by rw[d]at z;cases z⟩
 keep:=λi h h' st k=>st.at λo e=>k it (by simp) o e;item:=by intro X m n q hc i pins s σ H E I j st r;subst m n q;obtain⟨xs,x,l,t⟩:=r;obtain⟨y,B,p,hz⟩:=I.list l;obtain⟨u,C,G⟩:=B.get t;obtain⟨f0,f1,f2,f3,f4,f5⟩:=j it (by simp);refine wpAny_pyNext_list_item st p.isList (x:=u) (by simpa using C) λh' g J=>?_;have L:Inv X pins σ H {s with heap:=h'}:=I.turned (t':=s.toks) (λb o f e=>(J.2 b f).trans e) f0 f1 f3 f4 f5;obtain⟨o,e,c,d⟩:=id g;exact⟨u,rfl,Av (s:={s with heap:=h'}) e c d (by decide) ⟨x,H,L,G,⟨rfl,λys N=>by rw[I.wQ N l];exact t⟩,g,λb f=>(j b f).1⟩⟩
 done:=by intro X m n q hc i pins s σ H E I j st r;subst m n q;obtain⟨xs,l,t⟩:=r;obtain⟨y,B,p,hz⟩:=I.list l;obtain⟨f0,f1,f2,f3,f4,f5⟩:=j it (by simp);have Q:=B.length;exact wpAny_pyNext_list_end (I.ok.hd hc) st p.isList (by simp;omega) λh' O=>⟨rfl,I.turned (t':=s.toks) (λb o f e=>O b o f e) f0 f1 f3 f4 f5⟩
 self:=λ_ _ _ _ _ st h=>wpAny_pyIter_listiter st h
theorem zg{P:Program}(a it:Addr):Turn P w K tg (Vu K a) [it] it (λi h=>h.IsTupleIter it a i)where
 mem:=by simp
 obj:=λi h st b f=>by
  have e:b=it:=by simpa using f
  subst e;obtain⟨o,e,c,d⟩:=st;exact⟨o,e,λv z=>by rw[d]at z;cases z⟩
 keep:=λi h h' st k=>st.at λo e=>k it (by simp) o e;item:=by intro X n q r hc i pins s σ H E I l st t;subst n q r;obtain⟨xs,x,m,y⟩:=t;obtain⟨g,B,p,hz⟩:=I.tuple m;obtain⟨u,C,G⟩:=B.get y;obtain⟨f0,f1,f2,f3,f4,f5⟩:=l it (by simp);refine wpAny_pyNext_tuple_item st (show s.heap.IsTuple a g.toArray from p) (x:=u) (by simpa using C) λh' j J=>?_;have L:Inv X pins σ H {s with heap:=h'}:=I.turned (t':=s.toks) (λb o f e=>(J.2 b f).trans e) f0 f1 f3 f4 f5;obtain⟨o,e,c,d⟩:=id j;exact⟨u,rfl,Av (s:={s with heap:=h'}) e c d (by decide) ⟨x,H,L,G,⟨rfl,λys N=>by rw[I.tG N m];exact y⟩,j,λb f=>(l b f).1⟩⟩
 done:=by intro X n q r hc i pins s σ H E I l st t;subst n q r;obtain⟨xs,m,y⟩:=t;obtain⟨g,B,p,hz⟩:=I.tuple m;obtain⟨f0,f1,f2,f3,f4,f5⟩:=l it (by simp);have Q:=B.length;exact wpAny_pyNext_tuple_end (I.ok.hd hc) st (show s.heap.IsTuple a g.toArray from p) (by simp;omega) λh' O=>⟨rfl,I.turned (t':=s.toks) (λb o f e=>O b o f e) f0 f1 f3 f4 f5⟩
 self:=λ_ _ _ _ _ st h=>wpAny_pyIter_tupleiter st h
theorem zG{P:Program}(it:Addr)(lo:Int)(n:Nat):Turn P w K tg (VB lo n) [it] it (λi h=>IsRangeIter h it (lo+(i:Nat)*1) ((n:Int)-(i:Nat)) 1)where
 mem:=by simp
 obj:=λi h st b a=>by
  have e:b=it:=by simpa using a
  subst e;exact⟨_,st,λv z=>by have p:Data.fields _=Data.cell v:=z;cases p⟩
 keep:=λi h h' st k=>k it (by simp) _ st;item:=by intro X g j l hc i pins s σ H E I f st m;subst g j l;obtain⟨f0,f1,f2,f3,f4,f5⟩:=f it (by simp);have W:=Walks.range (prog:=X.prog) (w:=X.w) (I.ok.hd hc) it lo 1 n;refine W.item i s _ _ m st λv h' tk q c r=>?_;obtain⟨t,rfl⟩:=q;have u:Inv X pins σ H {s with heap:=h',toks:=tk}:=I.turned (λb o a e=>r b o (by simpa using a) e) f0 f1 f3 f4 f5;refine⟨_,rfl,Av (s:={s with heap:=h',toks:=tk}) (n:="range_iterator") c rfl rfl (by decide) ⟨.int (lo+i),H,u,⟨t,?_⟩,⟨rfl,rfl⟩,c,λb a=>(f b a).1⟩⟩;rw[mul_one]
 done:=by intro X g j l hc i pins s σ H E I f st m;subst g j l;obtain⟨f0,f1,f2,f3,f4,f5⟩:=f it (by simp);exact wpAny_pyNext_range_end (I.ok.hd hc) st (by have:n<=i:=m;omega) λh' x=>⟨rfl,I.turned (t':=s.toks) (λb o a e=>x b o a e) f0 f1 f3 f4 f5⟩
 self:=λ_ _ _ _ _ st h=>wpAny_pyIter_rangeiter st h
section
variable{X:Cx}{tg:Expr}
theorem wz{σ:St}{R:It->Hp->Prop}{E:Value->Shared->Prop}{lo hi:Int}{t u v:Tok}{tk:Nat}(I:Inv X pins σ H s)(h1:-(2^62)<=lo)(c:lo<2^62)(f:-(2^62)<=hi)(g:hi<2^62)(q:R (VB lo (hi-lo).toNat) H):wpAny (model X.prog X.w) X.A (pyIter (.ref s.heap.objs.size)) (PIE X pins σ tg R) E {s with heap:=s.heap.push {cls:=.type "range",data:=.fields #[.int lo t,.int hi u,.int 1 v]},toks:=tk}:=by
 refine wpAny_pyIter_range (IsRange.new ..) (small_one h1 c f g) ?_;have a:Inv X pins σ H {s with heap:=s.heap.push {cls:=.type "range",data:=.fields #[.int lo t,.int hi u,.int 1 v]},toks:=tk}:=I.kept λb o e=>fJ e;refine⟨(s.heap.push {cls:=.type "range",data:=.fields #[.int lo t,.int hi u,.int 1 v]}).objs.size,[(s.heap.push {cls:=.type "range",data:=.fields #[.int lo t,.int hi u,.int 1 v]}).objs.size],_,_,H,rfl,a.kept (t':=tk) λb o e=>fJ e,zG _ lo (hi-lo).toNat,?_,λb j=>?_,q⟩
 . have k:lo+((0:Nat):Int)*1=lo:=by simp
   have l:(((hi-lo).toNat:Nat):Int)-((0:Nat):Int)=Builtin.Range.rangeSize lo hi 1:=by rw[rangeSize_one];split<;>omega
   show IsRangeIter _ _ (lo+((0:Nat):Int)*1) ((((hi-lo).toNat:Nat):Int)-((0:Nat):Int)) 1;rw[k,l];exact get?_push_size _ rfl
 . have e:b=(s.heap.push {cls:=.type "range",data:=.fields #[.int lo t,.int hi u,.int 1 v]}).objs.size:=by simpa using j
   subst e;exact a.Jt (cO) (a.hok.fresh (cO))
def Yb(a:TA):TI:=λσ H R=>a σ H λvs b=>∃j:Int,vs=[.int j]/\-(2^62)<=j/\j<2^62/\R (VB 0 j.toNat) b
def Yk(a:TA):TI:=λσ H R=>a σ H λvs b=>∃i j:Int,vs=[.int i,.int j]/\(-(2^62)<=i/\i<2^62/\-(2^62)<=j/\j<2^62)/\R (VB i (j-i).toNat) b
theorem sZ{a:Expr}{c:TA}{p:Pos}(f:Gl X "range")(g:X.mg "range"=none)(k:PA X [a] c)(hs:starEach [a] X.env=[(false,eval a X.env)]:=by rfl):PI X tg (.Call (.Name "range" p) [a] [] pos) (Yb c):=by intro pins s σ H R I h;refine Call_ (iy I f g boot_range (PyProof.Rows.callWith_type1 (bT (k pos pins s σ H _ I h) λus s1⟨vs,H1,I1,r1,b⟩=>?_) hs rfl));obtain⟨j,e,b,l,q⟩:=b;subst e;cases r1 with|cons r m=>cases m;obtain⟨t,rfl⟩:=r;exact call_range_1 (wz I1 (by omega) (by omega) b l (by simpa using q))
theorem DW{a b:Expr}{k:TA}{p:Pos}(l:Gl X "range")(m:X.mg "range"=none)(n:PA X [a,b] k)(hs:starEach [a,b] X.env=[(false,eval a X.env),(false,eval b X.env)]:=by rfl)(c:starEach [b] X.env=[(false,eval b X.env)]:=by rfl):PI X tg (.Call (.Name "range" p) [a,b] [] pos) (Yk k):=by intro pins s σ H R I h;refine Call_ (iy I l m boot_range (PyProof.Rows.callWith_type1 (bT (n pos pins s σ H _ I h) λus s1⟨vs,H1,I1,r1,f⟩=>?_) (by rw[hs,c]) (by rw[c];rfl)));obtain⟨i,j,e,⟨f,o,u,v⟩,q⟩:=f;subst e;cases r1 with|cons r g=>cases g with|cons x g=>cases g;obtain⟨t,rfl⟩:=r;obtain⟨t',rfl⟩:=x;exact call_range_2 (wz I1 f o u v q)
def acu(f:TI)(g:TG)(j:TS):TS:=λD σ H=>f σ H λJ k=>∃W:Nat->Nat->St->Hp->Prop,(∃m,W 0 m σ k)/\∀i m σ H,W i m σ H->(J.stop i H/\D.nx σ H)\/(J.go i H/\∃N:St->Hp->Prop,(∀a b,N a b->∃e,e<m/\W (i+1) e a b)/\∀x b,J.PN i H x b->g x σ b λc l=>j {D with nx:=N,ct:=N,bk:=D.nx} c l)
noncomputable def pO(a:List Addr)(h:Heap):List (Addr×Obj):=a.filterMap λb=>(h.get? b).map λo=>(b,o)
theorem iK{a:List Addr}{b:Addr}{o:Obj}(c:b∈a)(e:h.get? b=some o):(b,o)∈pO a h:=List.mem_filterMap.mpr ⟨b,c,by rw[e];rfl⟩
theorem CN{a:List Addr}{p:Addr×Obj}(c:p∈pO a h):p.1∈a/\h.get? p.1=some p.2:=by obtain⟨b,f,e⟩:=List.mem_filterMap.mp c;cases q:h.get? b with|none=>rw[q]at e;cases e|some o=>rw[q]at e;have g:(b,o)=p:=Option.some.inj e;subst g;exact⟨f,q⟩
theorem Inv.pinned{σ:St}{a:List Addr}(I:Inv X pins σ H s)(g:∀b∈a,qU X pins H b)(ho:∀b∈a,∃o,s.heap.get? b=some o/\∀v,o.data≠.cell v):Inv X (pins++pO a s.heap) σ H s:=I.Cj λp j=>(mem_append.mp j).elim (λz=>I.pin p (mem_append_right _ z)) λz=>by obtain⟨c,e⟩:=CN z;obtain⟨f0,f1,f2,_⟩:=g p.1 c;obtain⟨o,f,d⟩:=ho p.1 c;rw[e]at f;cases f;exact⟨e,f0,f1,f2,d⟩
theorem Inv.lJ{a:List (Addr×Obj)}{σ:St}(I:Inv X (pins++a) σ H s):Inv X pins σ H s:=I.Cj λp b=>I.pin p (mem_append_right _ (List.mem_append_left _ b))
theorem Hh{iter:Expr}{body:List Stmt}{Y:TI}{g:TG}{Z:TS}(z:PassesOwn (model X.prog X.w) X.A X.env X.xe)(hc:X.calm=true)(hi:PI X tg iter Y)(hg:PG X tg g)(c:wu X body Z)(hs:∀x,foldedSetIterable iter X.env x=pure x:=by intro _;rfl):PS X (.For tg iter body [] pos) (acu Y g Z):=by
 intro pins s σ H D I h;refine wpAny_For (bT (hi pins s σ H _ I h) λv s1 h1=>bT h1 λac s2 h2=>?_) hs;obtain⟨it,B,tn,J,H2,e,I2,T,O,f2,W,⟨m0,w0⟩,turn⟩:=h2;subst e--what stays true of the iterator's objects through the loop
 have j:∀{t:Hp},(∀b∈B,t b=none)->∀b∈B,qU X pins t b:=λhn b c=>⟨hn b c,(f2 b c).2⟩;refine codeAny_forLoop_any (λn s'=>∃i k t,Inv X pins k t s'/\tn i s'.heap/\(∀b∈B,t b=none)/\W i n k t) ?_ m0 ⟨0,σ,H2,I2,O,λb c=>(f2 b c).1,w0⟩;rintro n s3⟨i,l,L,I3,C,E,w3⟩;rcases turn i n l L w3 with⟨stop,qn⟩|⟨go,N,hN,step⟩;.refine wpAny_passesOwn z (bT (T.done X rfl rfl rfl hc i pins s3 l L X.xe I3 (j E) C stop) λr s4⟨hr,I4⟩=>?_);subst hr;exact wpAny_execs_nil ⟨l,L,I4,qn⟩
 . refine wpAny_passesOwn z (bT (T.item X rfl rfl rfl hc i pins s3 l L X.xe I3 (j E) C go) λr s4⟨u,hr,h4⟩=>?_);subst hr;refine wpAny_passesOwn z (bT h4 λ_ s5⟨x,H5,I5,r5,y5,Ut,fr5⟩=>?_);have Q:=I5.pinned (j fr5) (T.obj _ _ Ut);refine wpAny_passesOwn z (bT (hg _ s5 l H5 x u _ Q r5 (step x H5 y5)) λ_ s6⟨U,H6,I6,q6⟩=>?_);refine wpAny_passesOwn z (bT (c _ s6 U H6 _ I6 q6) λf s7 y=>?_);have again:∀{a:St}{p:Hp},Inv X (pins++pO B s5.heap) a p s7->N a p->∃m,m<n/\∃i k t,Inv X pins k t s7/\tn i s7.heap/\(∀b∈B,t b=none)/\W i m k t:=λ{a p}q G=>by obtain⟨m',hm,w7⟩:=hN a p G;refine⟨m',hm,i+1,a,p,q.lJ,T.keep _ _ _ Ut λb c o e=>(q.pin (b,o) (mem_append_right _ (mem_append_right _ (iK c e)))).1,λb c=>?_,w7⟩;obtain⟨o,e,d⟩:=T.obj _ _ Ut b c;exact(q.pin (b,o) (mem_append_right _ (mem_append_right _ (iK c e)))).2.1
   cases f with|next=>obtain⟨a,p,q,G⟩:=y;exact again q G|cont=>obtain⟨a,p,q,G⟩:=y;exact again q G|brk=>obtain⟨a,p,q,y⟩:=y;exact⟨a,p,q.lJ,y⟩|ret v=>obtain⟨x7,a,p,q,r7,y⟩:=y;exact⟨x7,a,p,q.lJ,r7,y⟩
end
abbrev R2:=V->V->Hp->VK->Prop
def fW(X:Cx)(f:Value->Value->Sem Value)(r:R2):Prop:=∀(pins:List (Addr × Obj))(s:Shared)(σ:St)(H:Hp)(x y:V)(v u:Value)(Q:VK),Inv X pins σ H s->RelV x v->RelV y u->r x y H Q->wpAny (model X.prog X.w) X.A (f v u) (EP X pins σ Q) X.xe s
def UnR(X:Cx)(f:Value->Sem Value)(r:V->Hp->VK->Prop):Prop:=∀(pins:List (Addr × Obj))(s:Shared)(σ:St)(H:Hp)(x:V)(v:Value)(Q:VK),Inv X pins σ H s->RelV x v->r x H Q->wpAny (model X.prog X.w) X.A (f v) (EP X pins σ Q) X.xe s
def fG(X:Cx)(f:Value)(r:List V->Hp->VK->Prop):Prop:=∀(pins:List (Addr × Obj))(s:Shared)(σ:St)(H:Hp)(xs:List V)(us:List Value)(Q:VK),Inv X pins σ H s->Vals xs us->r xs H Q->wpAny (model X.prog X.w) X.A (call f us) (EP X pins σ Q) X.xe s
def Rf(r:R2)(a b:TE):TE:=λσ H Q=>a σ H λx c=>b σ c λy e=>r x y e Q
def tUn(r:V->Hp->VK->Prop)(a:TE):TE:=λσ H Q=>a σ H λx b=>r x b Q
def rI(C:Int->Int->Prop)(g:Int->Int->V):R2:=λx y H Q=>∃i j,x=.int i/\y=.int j/\C i j/\Q (g i j) H
def Lr(g:Int->Int->V):R2:=λx y H Q=>∃i j,x=.int i/\y=.int j/\Q (g i j) H
def rU(g:Int->V):V->Hp->VK->Prop:=λx H Q=>∃i,x=.int i/\Q (g i) H
section
variable{X:Cx}{a b c:Expr}{ta tb tc:TE}{pos:Pos}
theorem QH(l:PE X a ta)(m:PE X b tb){σ:St}{R:V->V->Hp->Prop}(I:Inv X pins σ H s)(h:ta σ H λx k=>tb σ k λy e=>R x y e){Q:Value->Shared->Prop}{f:Value->Value->Sem Value}(n:∀v u s2 x y e,Inv X pins σ e s2->RelV x v->RelV y u->R x y e->wpAny (model X.prog X.w) X.A (f v u) Q X.xe s2):wpAny (model X.prog X.w) X.A (eval a X.env) (λv g=>wpAny (model X.prog X.w) X.A (eval b X.env) (λu j=>wpAny (model X.prog X.w) X.A (f v u) Q X.xe j) X.xe g) X.xe s:=by refine bT (l pins s σ H _ I h) λv s1⟨x,k,I1,r1,q1⟩=>?_;refine bT (m pins s1 σ k _ I1 q1) λu s2⟨y,e,I2,r2,q2⟩=>?_;exact n v u s2 x y e I2 r1 r2 q2
theorem Xo{op:Operator}{r:R2}(ho:fW X (binaryOp op) r)(e:PE X a ta)(f:PE X b tb):PE X (.BinOp a op b pos) (Rf r ta tb):=by intro pins s σ H Q I h;exact wpAny_BinOp (QH e f I h λv u s2 x y g j k l q=>ho pins s2 σ g x y v u Q j k l q)
theorem Pj{op:UnaryOp}{r:V->Hp->VK->Prop}(ho:UnR X (unaryOp op) r)(e:PE X a ta):PE X (.UnaryOp op a pos) (tUn r ta):=by intro pins s σ H Q I h;exact UnaryOp_ (bT (e pins s σ H _ I h) λv s1⟨x,H1,I1,r1,q1⟩=>ho pins s1 σ H1 x v Q I1 r1 q1)
theorem opI{f:Value->Value->Sem Value}{C:Int->Int->Prop}{g:Int->Int->Int}(rule:∀(i j:Int)(t u:Tok)(s:Shared)(Q:Value->Shared->Prop)(E:Value->Shared->Prop),C i j->Q (.int (g i j) s.toks) {s with toks:=s.toks+1}->wpAny (model X.prog X.w) X.A (f (.int i t) (.int j u)) Q E s):fW X f (rI C λi j=>.int (g i j)):=by intro pins s σ H x y v u Q I e k h;obtain⟨i,j,rfl,rfl,hc,q⟩:=h;obtain⟨t,rfl⟩:=e;obtain⟨t',rfl⟩:=k;exact rule i j t t' s _ _ hc ⟨.int (g i j),H,I.tok _,⟨_,rfl⟩,q⟩
theorem Wx{f:Value->Value->Sem Value}{g:Int->Int->Int}(rule:∀(i j:Int)(t u:Tok)(s:Shared)(Q:Value->Shared->Prop)(E:Value->Shared->Prop),Q (.int (g i j) s.toks) {s with toks:=s.toks+1}->wpAny (model X.prog X.w) X.A (f (.int i t) (.int j u)) Q E s):fW X f (Lr λi j=>.int (g i j)):=by intro pins s σ H x y v u Q I e k h;obtain⟨i,j,rfl,rfl,q⟩:=h;obtain⟨t,rfl⟩:=e;obtain⟨t',rfl⟩:=k;exact rule i j t t' s _ _ ⟨.int (g i j),H,I.tok _,⟨_,rfl⟩,q⟩
theorem R7{f:Value->Value->Sem Value}{g:Int->Int->Bool}(rule:∀(i j:Int)(t u:Tok)(s:Shared)(Q:Value->Shared->Prop)(E:Value->Shared->Prop),Q (.bool (g i j)) s->wpAny (model X.prog X.w) X.A (f (.int i t) (.int j u)) Q E s):fW X f (Lr λi j=>.bl (g i j)):=by intro pins s σ H x y v u Q I e k h;obtain⟨i,j,rfl,rfl,q⟩:=h;obtain⟨t,rfl⟩:=e;obtain⟨t',rfl⟩:=k;exact rule i j t t' s _ _ ⟨.bl (g i j),H,I,rfl,q⟩
def ady(i j:Int):Prop:=0<=j/\j<=1000000/\i.natAbs<2^64
def QF(i j:Int):Prop:=(-(2^64)<i/\i<2^64)\/(-(2^64)<j/\j<2^64)
theorem QF.ok{i j:Int}(h:QF i j):IntMulOk i j:=by
 rcases h with⟨h1,e⟩|⟨h1,e⟩;.exact .of_left (intBits_le_64 h1 e)
 .exact .of_right (intBits_le_64 h1 e)
theorem RT:fW X (binaryOp .Add) (Lr λi j=>.int (i+j)):=Wx λ_ _ _ _ _ _ _ q=>add_int q
theorem Tc:fW X (binaryOp .Sub) (Lr λi j=>.int (i-j)):=Wx λ_ _ _ _ _ _ _ q=>sub_int q
theorem Qp:fW X (binaryOp .Mult) (rI QF λi j=>.int (i*j)):=opI λ_ _ _ _ _ _ _ hc q=>mul_int q hc.ok
theorem RD:fW X (binaryOp .Mod) (rI (λ_ j=>0<j) λi j=>.int (i%j)):=opI λi j _ _ _ _ _ hc q=>by have h1:(0:Int)<j:=hc;exact mod_int' (by omega) (by rw[Int.fmod_eq_emod_of_nonneg i (by omega)];exact q)
theorem Rm:fW X (binaryOp .Pow) (rI ady λi j=>.int (i^j.toNat)):=opI λ_ _ _ _ _ _ _ hc q=>pow_int_small hc.1 hc.2.1 hc.2.2 q
theorem unI{f:Value->Sem Value}{g:Int->Int}(rule:∀(i:Int)(t:Tok)(s:Shared)(Q:Value->Shared->Prop)(E:Value->Shared->Prop),Q (.int (g i) s.toks) {s with toks:=s.toks+1}->wpAny (model X.prog X.w) X.A (f (.int i t)) Q E s):UnR X f (rU λi=>.int (g i)):=by intro pins s σ H x v Q I e h;obtain⟨i,rfl,q⟩:=h;obtain⟨t,rfl⟩:=e;exact rule i t s _ _ ⟨.int (g i),H,I.tok _,⟨_,rfl⟩,q⟩
theorem Iu:UnR X (unaryOp .USub) (rU λi=>.int (-i)):=unI λ_ _ _ _ _ q=>neg_int q
end
section
variable{X:Cx}{a b c:Expr}{ta tb tc:TE}{pos:Pos}
theorem Ra{σ:St}{Q:VK}{k f:Bool}(I:Inv X pins σ H s)(q:Q (.bl k) H)(e:k=f):EP X pins σ Q (.bool f) s:=by subst e;exact⟨.bl k,H,I,rfl,q⟩
theorem Xd:fW X (compareOp .Lt) (Lr λi j=>.bl (decide (i<j))):=R7 λ_ _ _ _ _ _ _ q=>lt_int q
theorem XF:fW X (compareOp .LtE) (Lr λi j=>.bl (decide (i<=j))):=R7 λ_ _ _ _ _ _ _ q=>le_int q
theorem W0:fW X (compareOp .Gt) (Lr λi j=>.bl (decide (j<i))):=R7 λ_ _ _ _ _ _ _ q=>gt_int q
theorem Kd:fW X (compareOp .IsNot) (λx y H Q=>y=.non/\Q (.bl (!decide (x=.non))) H):=by intro pins s σ H x y v u Q I e f h;obtain⟨rfl,q⟩:=h;cases f;refine isnot_none_gen (Ra I q ?_);cases x<;>first|(cases e;rfl)|(obtain⟨t,rfl⟩:=e;rfl)
theorem adG{op:CmpOp}{es:List Expr}{k:Nat}{p:Pos}(e:(op==CmpOp.In)=false)(f:(op==CmpOp.NotIn)=false):behindInMarks op (.Set es k p)=false:=by show(k==0&&(op==CmpOp.In||op==CmpOp.NotIn)&&_)=false;rw[e,f];cases(k==0)<;>rfl
theorem cG(b:Expr)(h:op≠.In:=by decide)(e:op≠.NotIn:=by decide):behindInMarks op b=false:=by
 have f:(op==CmpOp.In)=false:=by cases op<;>first|rfl|exact absurd rfl h
 have g:(op==CmpOp.NotIn)=false:=by cases op<;>first|rfl|exact absurd rfl e
 cases b<;>first|rfl|exact adG f g
theorem Kf{r:R2}(ho:fW X (compareOp op) r)(e:PE X a ta)(f:PE X b tb)(g:behindInMarks op b=false):PE X (.Compare a [op] [b] pos) (Rf r ta tb):=by intro pins s σ H Q I h;exact wpAny_Compare1 (QH e f I h λv u s2 x y j k l m q=>ho pins s2 σ j x y v u Q k l m q) g
def Oz(t:TE):TT:=λσ H Q=>t σ H λx e=>∃k,x=.bl k/\Q k e
theorem Bs{r:R2}(ho:fW X (compareOp op) r)(f:PE X a ta)(g:PE X b tb)(j:behindInMarks op b=false):PT X (.Compare a [op] [b] pos) (Oz (Rf r ta tb)):=by intro pins s σ H Q I h;refine wpAny_isTrue_Compare1 (bT (f pins s σ H _ I h) λv s1⟨x,H1,I1,r1,q1⟩=>bT (g pins s1 σ H1 _ I1 q1) λu s2⟨y,H2,I2,r2,q2⟩=>bT (ho pins s2 σ H2 x y v u _ I2 r1 r2 q2) λc s3⟨z,H3,I3,r3,k,e,q3⟩=>?_) j;subst e;cases r3;exact wpAny_truthy_bool ⟨H3,I3,q3⟩
def Ja(r f:R2)(ta tb tc:TE):TE:=λσ H Q=>ta σ H λx g=>tb σ g λy j=>r x y j λz e=>∃k,z=.bl k/\(if k=true then tc σ e λl m=>f y l m Q else Q (.bl false) e)
theorem Ii{f:CmpOp}{r j:R2}(ho:fW X (compareOp op) r)(g:fW X (compareOp f) j)(l:PE X a ta)(m:PE X b tb)(hc:PE X c tc)(n:lastMarks [op,f] [b,c]=false:=by with_unfolding_all rfl):PT X (.Compare a [op,f] [b,c] pos) (Oz (Ja r j ta tb tc)):=by intro pins s σ H Q I h;refine isTrue_chain (bT (l pins s σ H _ I h) λv s1⟨x,H1,I1,r1,q1⟩=>test_link (bT (m pins s1 σ H1 _ I1 q1) λu s2⟨y,H2,I2,r2,q2⟩=>bT (ho pins s2 σ H2 x y v u _ I2 r1 r2 q2) λd s3⟨z,H3,I3,r3,k,e,q3⟩=>?_)) n;subst e;cases r3;refine wpAny_truthy_bool ?_;cases k with|false=>obtain⟨B,o,p⟩:=q3;cases o;exact ite_ff ⟨H3,I3,p⟩|true=>refine ite_tt (test_last (bT (hc pins s3 σ H3 _ I3 q3) λq s4⟨t,H4,I4,r4,q4⟩=>bT (g pins s4 σ H4 y t u q _ I4 r2 r4 q4) λd' s5⟨C,H5,I5,r5,k2,e2,q5⟩=>?_));subst e2;cases r5;exact wpAny_truthy_bool ⟨H5,I5,q5⟩
theorem pD:(sizeLine:Nat)<2^63:=by rw[sizeLine_eq];decide
theorem zH:fW X (binaryOp .Add) (λx y H Q=>∃i j,x=.str i/\y=.str j/\i.length+j.length<=sizeLine/\Q (.str (i++j)) H):=by intro pins s σ H x y v u Q I e f h;obtain⟨i,j,rfl,rfl,hz,q⟩:=h;obtain⟨t,rfl⟩:=e;obtain⟨t',rfl⟩:=f;exact add_str (λt' tk=>⟨.str (i++j),H,I.tok _,⟨_,rfl⟩,q⟩) hz
theorem vals1{x:V}(r:Vals [x] us):∃u,us=[u]/\RelV x u:=by cases r with|cons r1 e=>cases e;exact⟨_,rfl,r1⟩
theorem vals2{x y:V}(r:Vals [x,y] us):∃u e,us=[u,e]/\RelV x u/\RelV y e:=by cases r with|cons r1 f=>cases f with|cons g j=>cases j;exact⟨_,_,rfl,r1,g⟩
theorem Dk(hc:X.calm=true):fG X (.builtin "max") (λxs H Q=>∃i j,xs=[.int i,.int j]/\Q (.int (if j>i then j else i)) H):=by
 intro pins s σ H xs us Q I r h;obtain⟨i,j,rfl,q⟩:=h;obtain⟨u,f,rfl,⟨t,rfl⟩,⟨t',rfl⟩⟩:=vals2 r;refine max_two_ints (I.ok.hd hc) λh' tk k=>⟨_,H,I.kept k,?_,q⟩;by_cases e:j>i;.rw[if_pos e,if_pos e];exact⟨_,rfl⟩
 .rw[if_neg e,if_neg e];exact⟨_,rfl⟩
theorem DX(hc:X.calm=true):fG X (.builtin "min") (λxs H Q=>∃i j,xs=[.int i,.int j]/\Q (.int (if j<i then j else i)) H):=by
 intro pins s σ H xs us Q I r h;obtain⟨i,j,rfl,q⟩:=h;obtain⟨u,f,rfl,⟨t,rfl⟩,⟨t',rfl⟩⟩:=vals2 r;refine min_two_ints (I.ok.hd hc) λh' tk k=>⟨_,H,I.kept k,?_,q⟩;by_cases e:j<i;.rw[if_pos e,if_pos e];exact⟨_,rfl⟩
 .rw[if_neg e,if_neg e];exact⟨_,rfl⟩
end
theorem oO.some_of{v:V}{o:Option Value}(r:oO (some v) o):∃u,o=some u/\RelV v u:=by cases o with|none=>exact(show False from r).elim|some u=>exact⟨u,rfl,r⟩
structure ji(k:Nat)(A:Around):Prop where
 hd:A.handled=none
 dp:A.depth+3*k+5<recursionLimit
 un:A.units+16*k+200<cLine
theorem ji.deeper{k:Nat}{A:Around}(r:ji (k+1) A)(env:Env):ji k (A.deeper env):=⟨r.hd,by have:=r.dp;show A.depth+1+3*k+5<_;omega,by have:=r.un;show A.units+3+16*k+200<_;omega⟩
theorem ji.depth{k:Nat}{A:Around}(r:ji k A):A.depth<recursionLimit:=by have:=r.dp;omega
def acb:TA:=λ_ H Q=>Q [] H
def WY(a:TE)(b:TA):TA:=λσ H Q=>a σ H λx c=>b σ c λxs e=>Q (x::xs) e
section
variable{X:Cx}{e:Expr}{es:List Expr}{te:TE}{t:TA}{pos:Pos}
theorem dY:PA X [] acb:=λ_ _ _ _ H Q I h=>Calls.spliced_nil ⟨[],H,I,.nil,h⟩
theorem cu(a:PE X e te)(hr:PA X es t)(hs:starEach (e::es) X.env=(false,eval e X.env)::starEach es X.env:=by rfl):PA X (e::es) (WY te t):=by intro pos pins s σ H Q I h;rw[hs];show wpAny _ _ (spliced ((false,eval e X.env)::backTo pos (starEach es X.env))) _ _ s;refine Calls.spliced_cons (bT (a pins s σ H _ I h) λu s1⟨x,H1,I1,r1,q1⟩=>?_);exact bT (hr pos pins s1 σ H1 _ I1 q1) λus s2⟨xs,H2,I2,r2,q2⟩=>⟨x::xs,H2,I2,.cons r1 r2,q2⟩
def acz(t:TA):TE:=λσ H Q=>t σ H λxs a=>xs.length<=sizeLine/\∀p,a p=none->Q (.ref p) (upd a p (.tup xs))
def ach(t:TA):TE:=λσ H Q=>t σ H λxs a=>xs.length<=sizeLine/\∀p,a p=none->Q (.ref p) (upd a p (.lst xs))
theorem Th{x1}(h:PA X es t):PE X (.Tuple es x1 pos) (acz t):=by intro pins s σ H Q I a;refine wpAny_Tuple_spliced (bT (h pos pins s σ H _ I a) λus s1⟨xs,H1,I1,r,z,q⟩=>⟨by rw[<-r.length];exact z,?_⟩);have c:H1 s1.heap.objs.size=none:=I1.hok.fresh (cO);refine⟨.ref s1.heap.objs.size,upd H1 s1.heap.objs.size (.tup xs),I1.laid (t':=s1.toks) (λb u e=>fJ e) (cO) ?_,rfl,q _ c⟩;exact⟨z,us,r,⟨_,get?_push_size _ rfl,rfl,_,rfl⟩⟩
theorem RG(h:PA X es t):PE X (.List es pos) (ach t):=by intro pins s σ H Q I a;refine wpAny_List_spliced (bT (h pos pins s σ H _ I a) λus s1⟨xs,H1,I1,r,z,q⟩=>⟨by rw[<-r.length];exact z,?_⟩);have c:H1 s1.heap.objs.size=none:=I1.hok.fresh (cO);refine⟨.ref s1.heap.objs.size,upd H1 s1.heap.objs.size (.lst xs),I1.laid (t':=s1.toks) (λb u e=>fJ e) (cO) ?_,rfl,q _ c⟩;exact⟨z,us,0,r,get?_push_size _ rfl⟩
end
abbrev Sp:=List V->Hp->VK->XK->Prop
abbrev Ge:=List Env->Hp->Shared->XK->Value->Shared->Prop
structure Km(P:Program)(w:World)(K:PySem.W.Frag)(mg:Str->Option Value)(base:Heap)(A:Around)(outer:List Env)(s:Shared)(H:Hp):Prop where
 frames:A.frames=some outer
 mod:Mod K mg base
 bs:∀b o,base.get? b=some o->s.heap.get? b=some o/\H b=none
 PK:base.objs.size<=s.heap.objs.size
 qy:s.heap.FunFrames base outer
 Wm:∀b∈frs outer,H b=none
 hok:mO P w H s.heap
 bare:AllBare s.gens
def CE(outer:List Env)(P:Program)(w:World)(H:Hp)(s:Shared)(Q:VK)(u:Value)(a:Shared):Prop:=∃v b,a.os=s.os/\AllBare a.gens/\Un (frs outer) [] H b s.heap a.heap/\mO P w b a.heap/\RelV v u/\Q v b
def CR(CX:Ge)(outer:List Env)(P:Program)(w:World)(H:Hp)(s:Shared)(Q:VK)(E:XK)(r:Result)(a:Shared):Prop:=match r with|.ok (.ret u)=>CE outer P w H s Q u a|.ok _=>False|.error e=>CX outer H s E e a
structure mY(P:Program)(w:World)(K:PySem.W.Frag)(mg:Str->Option Value)(base:Heap)(CX:Ge)(k:Nat)(f:Addr)(fd:FuncData)(ps:List Str)(sp:Sp):Prop where
 len:∀vs H Q E,sp vs H Q E->vs.length=ps.length
 run:∀(A:Around)(outer:List Env)(s:Shared)(H:Hp)(args:Args)(us:List Value)(vs:List V)(Q:VK)(E:XK),ji k A->Km P w K mg base A outer s H->BindsTo s fd args (ps.zip us)->Vals vs us->sp vs H Q E->codeAny (model P w) A (.call (.ref f) args) (CR CX outer P w H s Q E) s
section
variable{X:Cx}{pins:List (Addr×Obj)}{σ:St}{H:Hp}{s s':Shared}
theorem Inv.env0(I:Inv X pins σ H s):Km X.prog X.w X.K X.mg X.base X.A X.stack s H:=⟨I.ok.frames,I.ok.mod,I.bs,le_trans I.ok.PK I.sz,I.stack,I.Bw,I.hok,I.bare⟩
theorem Inv.after{Q:VK}{u:Value}(I:Inv X pins σ H s)(h:CE X.stack X.prog X.w H s Q u s'):EP X pins σ Q u s':=by obtain⟨v,c,os,bare,un,hok,r,q⟩:=h;obtain⟨e,g,d,t,a⟩:=s';obtain rfl:a=s.os:=os;exact⟨v,c,I.call (h':=e) (g':=g) (d':=d) (t':=t) (ch:=[]) un hok bare (λb z=>absurd z (by simp)),r,q⟩
end
def Xa(sp:Sp)(a:List V)(E:XK)(t:TA):TE:=λσ H Q=>t σ H λvs b=>sp (vs++a) b Q E
def Binds(K:PySem.W.Frag)(fd:FuncData)(ps:List Str)(a:List Value):Prop:=∀(s:Shared)(us:List Value),K.In s.heap->(us++a).length=ps.length->BindsTo s fd ⟨us,[]⟩ (ps.zip (us++a))
theorem Binds.all{fd:FuncData}{ps:List Str}(h:∀us:List Value,us.length=ps.length->bindArgs fd ⟨us,[]⟩=pure (ps.zip us)):Binds K fd ps []:=λs us _ a=>by rw[append_nil]at a ⊢;exact .of_eq (h us a)
def Passes(CX:Ge)(X:Cx)(E:XK):Prop:=∀(pins:List (Addr×Obj))(σ:St)(H:Hp)(s:Shared)(e:Value)(a:Shared),Inv X pins σ H s->CX X.stack H s E e a->X.xe e a
section
variable{X:Cx}{CX:Ge}{k:Nat}{f C:Addr}{fd:FuncData}{ps:List Str}{sp:Sp}{PQ:List V}{ds:List Value}{E:XK}{x m:Str}{p pos apos:Pos}{e o:Expr}{es:List Expr}{ta:TE}{t:TA}
theorem T6{σ:St}{Q:VK}{vs:List V}(F:mY X.prog X.w X.K X.mg X.base CX k f fd ps sp)(hr:ji k X.A)(c:Binds X.K fd ps ds)(hd:Vals PQ ds)(g:Passes CX X E)(I:Inv X pins σ H s)(r:Vals vs us)(h:sp (vs++PQ) H Q E):wpAny (model X.prog X.w) X.A (call (.ref f) us) (EP X pins σ Q) X.xe s:=by
 have b:Vals (vs++PQ) (us++ds):=r.append hd;have j:(us++ds).length=ps.length:=by rw[<-b.length];exact F.len _ _ _ _ h
 refine wpAny_call (codeAny_mono (F.run X.A X.stack s H ⟨us,[]⟩ (us++ds) (vs++PQ) Q E hr I.env0 (c s us I.U0 j) b h) λr l a=>?_);cases r with|error e=>exact g pins σ H s e l I a|ok fl=>cases fl with|ret u=>exact I.after a|next=>exact False.elim a|brk=>exact False.elim a|cont=>exact False.elim a
theorem Lh(F:mY X.prog X.w X.K X.mg X.base CX k f fd ps sp)(hr:ji k X.A)(b:Gl X x)(c:X.mg x=some (.ref f))(g:keepIn X.K (.ref f)=true)(j:Binds X.K fd ps ds)(hd:Vals PQ ds)(l:Passes CX X E)(n:PA X (e::es) t)(a:(x==("__debug__":Str))=false:=by decide)(he:starEach (e::es) X.env=(false,eval e X.env)::starEach es X.env:=by rfl)(hpl:(backTo pos (starEach es X.env)).any (·.1)=false:=by rfl):PE X (.Call (.Name x p) (e::es) [] pos) (Xa sp PQ E t):=by intro pins s σ H Q I h;refine wpAny_Call_Name_kw (Nb I b c ?_ a);refine PySem.W.callWith_K (h₀:=X.base) I.ok.mod.rG g (bT (n pos pins s σ H _ I h) λus s1⟨vs,H1,I1,r,q⟩=>⟨I1.U0,?_⟩) he hpl;exact T6 F hr j hd l I1 r q
end
structure aL(N P:List Str)(sc:Scope):Prop where
 kind:sc.kind=.function
 co:sc.isCoroutine=false
 gen:sc.isGenerator=false
 nd:N.Nodup
 pre:N.take P.length=P
 par:∀x∈P,sc.names.lookup x=some .local\/sc.names.lookup x=some .cell
 Uu:∀y∈sc.names,y.2≠.free
theorem rZ{kindOf:Str->Option NameKind}{x:Str}:∀{binds:List (Str×Value)}{m:Str->Option Value},(∀v,(x,v)∉binds)->bindL kindOf binds m x=m x
 |[],_,_=>rfl|(n,v)::r,m,h=>by
   unfold bindL;rw[rZ λw a=>h w (mem_cons_of_mem _ a)];split
   . have:x≠n:=by rintro rfl;exact h v mem_cons_self
     simp[this]
   .rfl
theorem tM{kindOf:Str->Option NameKind}{x:Str}:∀{binds:List (Str×Value)}{m:Str->Option Value},(∀v,(x,v)∉binds)->bindC kindOf binds m x=m x
 |[],_,_=>rfl|(n,v)::r,m,h=>by
   unfold bindC;rw[tM λw a=>h w (mem_cons_of_mem _ a)];split;.rfl
   . have:x≠n:=by rintro rfl;exact h v mem_cons_self
     simp[this]
theorem tW{kindOf:Str->Option NameKind}{x:Str}{v:Value}:∀{P:List Str}{vs:List Value}{i:Nat}{m:Str->Option Value},P.Nodup->P[i]?=some x->vs[i]?=some v->kindOf x=some .local->bindL kindOf (P.zip vs) m x=some v|[],_,_,_,_,h,_,_=>by simp at h|_::_,[],_,_,_,_,h,_=>by simp at h|p::P,w::vs,0,m,nd,h1,a,b=>by simp at h1 a;subst h1;subst a;show bindL kindOf ((p,w)::P.zip vs) m p=_;unfold bindL;rw[rZ λv c=>(nodup_cons.mp nd).1 (of_mem_zip c).1,if_pos b];simp|p::P,w::vs,i+1,m,nd,h1,a,b=>by show bindL kindOf ((p,w)::P.zip vs) m x=_;unfold bindL;exact tW (i:=i) (nodup_cons.mp nd).2 (by simpa using h1) (by simpa using a) b
theorem sG{kindOf:Str->Option NameKind}{x:Str}{v:Value}:∀{P:List Str}{vs:List Value}{i:Nat}{m:Str->Option Value},P.Nodup->P[i]?=some x->vs[i]?=some v->kindOf x≠some .local->bindC kindOf (P.zip vs) m x=some v|[],_,_,_,_,h,_,_=>by simp at h|_::_,[],_,_,_,_,h,_=>by simp at h|p::P,w::vs,0,m,nd,h1,a,b=>by simp at h1 a;subst h1;subst a;show bindC kindOf ((p,w)::P.zip vs) m p=_;unfold bindC;rw[tM λv c=>(nodup_cons.mp nd).1 (of_mem_zip c).1,if_neg b];simp|p::P,w::vs,i+1,m,nd,h1,a,b=>by show bindC kindOf ((p,w)::P.zip vs) m x=_;unfold bindC;exact sG (i:=i) (nodup_cons.mp nd).2 (by simpa using h1) (by simpa using a) b
noncomputable def start(N:List Str)(vs:List V):St:=vs.map some++replicate (N.length-vs.length) none
noncomputable def yp(CX:Ge)(P:Program)(w:World)(K:PySem.W.Frag)(mg:Str->Option Value)(base:Heap)(N:List Str)(qual:Str)(scope:Scope)(f:Addr)(b:Value)(A:Around)(outer:List Env)(s:Shared)(H:Hp)(E:XK):Cx where prog:=P;w:=w;K:=K;mg:=mg;base:=base;A:=A.deeper (envOfC qual scope s.heap.objs.size f b);N:=N;s₀:=s;H₀:=H;env:=envOfC qual scope s.heap.objs.size f b;outer:=outer;stack:=envOfC qual scope s.heap.objs.size f b::outer;ex:=[];calm:=true;fn:=λ_=>true;pn:=[];xe:=λe c=>wpAny (model P w) (A.deeper (envOfC qual scope s.heap.objs.size f b)) (leaving (envOfC qual scope s.heap.objs.size f b) e) (λ_ a=>CX outer H s E e a) (λg a=>CX outer H s E g a) c
theorem wG{a:Scope}{n:Nat}{x:Str}(h:a.names.lookup x=some .cell):∃c,(cellsFrom n a.names []).lookup x=some c:=by have q:=PySem.W.cellsFrom_some a.names n [] (.inl h);exact Option.isSome_iff_exists.mp q
theorem De{CX:Ge}{P:Program}{mg:Str->Option Value}{base:Heap}{N ps:List Str}{qual:Str}{scope:Scope}{f:Addr}{o:Value}{outer:List Env}{s1:Shared}{E:XK}{vs:List V}(S:aL N ps scope)(hd:A.handled=none)(j:Km P w K mg base A outer s H)(J:vs.length=ps.length)(r:Vals vs us)(x:InCallC s s.heap.objs.size (bindL (envOfC qual scope s.heap.objs.size f o).kindOf (ps.zip us) λ_=>none) (cellsFrom (s.heap.objs.size+1) scope.names []) (bindC (envOfC qual scope s.heap.objs.size f o).kindOf (ps.zip us) λ_=>none) s1):Inv (yp CX P w K mg base N qual scope f o A outer s H E) [] (start N vs) H s1:=by
 have hpl:ps.length<=N.length:=by have:=congrArg List.length S.pre;rw[length_take]at this;omega
 obtain⟨h1,tk,rfl,B⟩:=x.done;have t:∀b:Addr,b∉(yp CX P w K mg base N qual scope f o A outer s H E).ex:=λb z=>absurd (show b∈([]:List Addr)from z) (by simp);refine⟨⟨j.mod,S.kind,rfl,rfl,cO,λy z c h1 g=>?_,λy hy=>?_,λy c _ h=>?_,λ_=>hd,Around.frames_deeper j.frames,.inr ⟨rfl,rfl⟩,λb z=>absurd z (t b),j.bs,j.PK,λb _ _=>t b,λb z=>absurd z (t b),j.qy,j.Wm⟩,rfl,j.bare,Un.kept B,⟨_,x.toInCall.ns,λi y v h1 g L=>?_⟩,λy c h=>⟨_,x.cell y c h⟩,j.hok.fresh (cO),λy c h=>?_,λp l=>absurd (show p∈([]:List (Addr×Obj))from l) (by simp),j.hok.kept B,?_⟩;.exact name_of_addr x.apart (PySem.mem_of_lookup h1) (PySem.mem_of_lookup g)
 . have hy:scope.names.lookup y=some .cell\/scope.names.lookup y=some .free:=hy;rcases hy with hy|hy;.exact wG hy
   .exact absurd rfl (S.Uu _ (PySem.mem_of_lookup hy))
 .exact le_of_lt (x.above y c (PySem.mem_of_lookup h))
 . have hi:i<vs.length:=by
    unfold start at g;by_cases hi:i<vs.length;.exact hi
    .rw[getElem?_append_right (by simpa using hi)]at g;rw[List.getElem?_replicate]at g;split at g<;>cases g
   have G:vs[i]?=some v:=by unfold start at g;rw[getElem?_append_left (by simpa using hi),getElem?_map]at g;cases e:vs[i]?with|none=>rw[e]at g;cases g|some a=>rw[e]at g;cases g;rfl
   obtain⟨u,C,I⟩:=r.get G;have l:ps[i]?=some y:=by rw[<-S.pre,List.getElem?_take_of_lt (by omega)];exact h1
   have m:ps.Nodup:=by rw[<-S.pre];exact S.nd.sublist (List.take_sublist _ _)
   refine⟨u,I,?_⟩;rcases S.par y (mem_of_getElem? l)with k|k;.exact .inl ⟨k,tW m l C k⟩
   .obtain⟨c,e⟩:=wG (n:=s.heap.objs.size+1) k;refine .inr ⟨.inl k,c,e,?_⟩;have q:=x.cell y c e;rw[sG m l C (by show scope.names.lookup y≠_;rw[k];decide)]at q;exact q
 .exact j.hok.fresh (le_of_lt (x.above y c (PySem.mem_of_lookup h)))
 .unfold start;show _=N.length;rw[length_append,length_map,List.length_replicate];omega
theorem WR{CX:Ge}{P:Program}{w:World}{K:PySem.W.Frag}{mg:Str->Option Value}{base:Heap}{k:Nat}{f:Addr}{name qual:Str}{a:Arguments}{body:List Stmt}{scope:Scope}{L kV m O cdv ct oc:Value}{U Z:Option Addr}{z:Array (Option Value)}{N ps:List Str}{sp:Sp}(lk:K.lookup f=some ⟨oc,Z,.func (PySem.W.fnOf name qual a body scope L kV m O U cdv ct),z⟩)(B:PySem.W.codeIn K cdv qual=true)(S:aL N ps scope)(len:∀vs H Q E,sp vs H Q E->vs.length=ps.length)(j:∀(A:Around)(outer:List Env)(s:Shared)(H:Hp)(vs:List V)(Q:VK)(E:XK),ji k (A.deeper (envOfC qual scope s.heap.objs.size f cdv))->sp vs H Q E->∃t,wu (yp CX P w K mg base N qual scope f cdv A outer s H E) body t/\t {nx:=λ_ g=>Q .non g,rt:=Q} (start N vs) H):mY P w K mg base CX (k+1) f (PySem.W.fnOf name qual a body scope L kV m O U cdv ct) ps sp:=by
 refine⟨len,λA outer s H args us vs Q E hr p hb r hsp=>?_⟩;have hl:=len _ _ _ _ hsp;have Y:K.In s.heap:=p.mod.rG.keeps λb o e=>(p.bs b o e).1;have lim:s.heap.NoLimit:=p.mod.nolimit.keeps λb o e=>(p.bs b o e).1;have l:∀y∈ps.zip us,scope.names.lookup y.1=some .local\/(scope.names.lookup y.1=some .cell/\((cellsFrom (s.heap.objs.size+1) scope.names []).lookup y.1).isSome=true):=λ⟨n,v⟩hy=>by
  rcases S.par n (of_mem_zip hy).1 with q|q;.exact .inl q
  .exact .inr ⟨q,PySem.W.cellsFrom_some _ _ _ (.inl q)⟩
 refine codeAny_call_function hr.depth (Y _ _ lk) rfl S.co S.gen rfl (PySem.W.codeRec_of Y B) (hb _ _ _ _ ?_);refine wpAny_newFunctionEnv_cells S.kind l λenv he s1 x=>?_;subst he;refine⟨lim.keeps x.toInCall.keep,codeAny_func ?_⟩;obtain⟨t,ht,hq⟩:=j A outer s H vs Q E (hr.deeper _) hsp;have I:Inv (yp CX P w K mg base N qual scope f cdv A outer s H E) [] (start N vs) H s1:=De S hr.hd p hl r x;refine wpAny_mono (ht [] s1 (start N vs) H _ I hq) (λfl C hs=>?_) λe C hs=>hs;have fin:∀{c:St}{g:Hp}{v:V}{u:Value},Inv (yp CX P w K mg base N qual scope f cdv A outer s H E) [] c g C->RelV v u->Q v g->CE outer P w H s Q u C:=λ{c g v u}J G q=>⟨v,g,J.os,J.bare,J.base,J.hok,G,q⟩;cases fl with|ret u=>obtain⟨v,c,g,J,G,q⟩:=hs;exact fin J G q|next=>obtain⟨c,g,J,q⟩:=hs;exact fin (v:=V.non) (u:=Value.none) J rfl q|brk=>obtain⟨_,_,_,q⟩:=hs;exact False.elim q|cont=>obtain⟨_,_,_,q⟩:=hs;exact False.elim q
section
variable{X:Cx}{x:Str}{p pos:Pos}{e:Expr}{es:List Expr}{t:TA}{id T:String}{r:List V->Hp->VK->Prop}
def WW(r:List V->Hp->VK->Prop)(t:TA):TE:=λσ H Q=>t σ H λvs a=>r vs a Q
theorem gb(hc:fG X (.builtin id) r)(b:Gl X x)(c:X.mg x=none)(f:bootBuiltins x=some (.builtin id))(g:PA X (e::es) t)(j:x≠"__name__":=by decide)(a:(x==("__debug__":Str))=false:=by decide)(he:starEach (e::es) X.env=(false,eval e X.env)::starEach es X.env:=by rfl)(hpl:(backTo pos (starEach es X.env)).any (·.1)=false:=by rfl):PE X (.Call (.Name x p) (e::es) [] pos) (WW r t):=by intro pins s σ H Q I h;refine wpAny_Call_Name_kw (iy I b c f ?_ j a);exact PyProof.Rows.callWith_builtin1 (bT (g pos pins s σ H _ I h) λus s1⟨vs,H1,I1,r1,q1⟩=>hc pins s1 σ H1 vs us Q I1 r1 q1) he hpl
theorem nG(hc:fG X (.type T) r)(b:Gl X x)(c:X.mg x=none)(f:bootBuiltins x=some (.type T))(g:PA X (e::es) t)(j:x≠"__name__":=by decide)(a:(x==("__debug__":Str))=false:=by decide)(he:starEach (e::es) X.env=(false,eval e X.env)::starEach es X.env:=by rfl)(hpl:(backTo pos (starEach es X.env)).any (·.1)=false:=by rfl):PE X (.Call (.Name x p) (e::es) [] pos) (WW r t):=by intro pins s σ H Q I h;refine wpAny_Call_Name_kw (iy I b c f ?_ j a);exact PyProof.Rows.callWith_type1 (bT (g pos pins s σ H _ I h) λus s1⟨vs,H1,I1,r1,q1⟩=>hc pins s1 σ H1 vs us Q I1 r1 q1) he hpl
end
end L2
namespace HT
open PySem PyProof.Rows
section
variable{prog:Program}{w:World}{A:Around}{E:Value->Shared->Prop}{s:Shared}
theorem KY{t b:Addr}{vs ws:List Value}{Q:Value->Shared->Prop}(ht:IsTup s.heap t vs.toArray)(o:IsTup s.heap b ws.toArray)(j:vs≠[])(h1:ws=[]->Q (.ref t) s)(p:ws≠[]->Q (.ref s.heap.objs.size) {s with heap:=s.heap.push {cls:=.type "tuple",data:=.seq (vs++ws).toArray}})(hsz:vs.length+ws.length<=sizeLine):wpAny (model prog w) A (binaryOp .Add (.ref t) (.ref b)) Q E s:=by
 obtain⟨⟨cls,k,data,sl⟩,ho,hc,n,hd⟩:=id ht;obtain⟨⟨l,c,data2,f⟩,a,g,m,h⟩:=id o;simp only at hc hd g h;subst hc hd g h;have e:vs.toArray++ws.toArray=(vs++ws).toArray:=by simp
 by_cases i:ws=[];.exact concat_meets ⟨_,ho,rfl⟩ ⟨_,a,rfl⟩ noFill_tuple_add seq_tuple_add slot_tuple_add entry_tuple_add (args_tuple_add_2 _ _) (tuple_addW1 t b vs.toArray ws.toArray n m k c sl f (by simpa using j) (by simp[i])) ⟨ho,a,h1 i⟩
 .refine concat_meets ⟨_,ho,rfl⟩ ⟨_,a,rfl⟩ noFill_tuple_add seq_tuple_add slot_tuple_add entry_tuple_add (args_tuple_add_2 _ _) (tuple_addW2 t b vs.toArray ws.toArray n m k c sl f (by simpa using j) (by simpa using i) (by rw[size_toArray,size_toArray];exact hsz)) ⟨ho,a,?_⟩;rw[e];exact p i
noncomputable def du(n d:Nat):Option Int->Nat|none=>d|some v=>if v<0 then(v+(n:Int)).toNat else min v.toNat n
theorem S8(n d:Nat)(hd:d<=n)(o:Option Int):du n d o<=n:=by cases o with|none=>exact hd|some v=>
   show(if v<0 then(v+(n:Int)).toNat else min v.toNat n)<=n;by_cases a:v<0;.rw[if_pos a];omega
   .rw[if_neg a];exact Nat.min_le_right _ _
theorem Ak(v:Int)(n d:Nat):(if v<0 then max (v+(n:Int)) 0 else min v (n:Int))=((du n d (some v):Nat):Int):=by
 show(if v<0 then max (v+(n:Int)) 0 else min v (n:Int))=(((if v<0 then(v+(n:Int)).toNat else min v.toNat n):Nat):Int);by_cases a:v<0;.simp only[if_pos a];omega
 .simp only[if_neg a];omega
theorem zB(lo hi:Option Int)(n:Nat):sliceAdjust lo hi 1 (n:Int)=(((du n 0 lo:Nat):Int),((du n n hi:Nat):Int)):=by
 have h1:¬((1:Int)<0):=by omega
 unfold sliceAdjust;simp only[h1,if_false];refine Prod.ext ?_ ?_;.cases lo with|none=>rfl|some v=>exact Ak v n 0
 .cases hi with|none=>rfl|some v=>exact Ak v n n
theorem zF(i j:Nat):slicePlaces (i:Int) (j:Int) 1=j-i:=by
 unfold slicePlaces;have h1:(1:Int)>0:=by omega
 simp only[h1,if_true,Int.ediv_one];split<;>omega
theorem qX{v:Value}{o:Option Int}{Q:Option Int->Shared->Prop}(p:IsPart v o)(h:Q o s):wpAny (model prog w) A (Builtin.Slice.slicePartIndex v) Q E s:=by cases p with|none=>exact slicePart_none h|int i t=>exact slicePart_int h
theorem gR{sl:Addr}{c e:Value}{lo hi:Option Int}{n:Nat}{Q:Int×Int×Nat->Shared->Prop}(hs:s.heap.IsSliceOf sl c e .none)(f:IsPart c lo)(g:IsPart e hi)(h:Q (((du n 0 lo:Nat):Int),1,du n n hi-du n 0 lo) s):wpAny (model prog w) A (sliceApplied (.ref sl) (pure (n:Int))) Q E s:=by obtain⟨os,a,i,b⟩:=id hs;unfold sliceApplied sliceFields;refine wpAny_bind (wpAny_bind (wpAny_field a b (x:=c) rfl (wpAny_bind (wpAny_field a b (x:=e) rfl (wpAny_bind (wpAny_field a b (x:=.none) rfl (wpAny_pure ?_)))))));refine wpAny_bind (slicePart_none ?_);show wpAny _ _ (if((1:Int)==0)=true then _ else _) _ _ s;rw[if_neg (by decide)];refine wpAny_bind (qX f (wpAny_bind (qX g (wpAny_bind (wpAny_pure ?_)))));show wpAny _ _ (match sliceAdjust lo hi 1 (n:Int)with|(lo,hi)=>pure (lo,(1:Int),slicePlaces lo hi 1)) _ _ s;rw[zB lo hi n];show wpAny _ _ (pure (((du n 0 lo:Nat):Int),(1:Int),slicePlaces ((du n 0 lo:Nat):Int) ((du n n hi:Nat):Int) 1)) _ _ s;rw[zF];exact wpAny_pure h
theorem Ez(xs:Array Value)(i k:Nat):((List.range k).filterMap λ(m:Nat)=>xs[((i:Int)+(m:Int)*1).toNat]?).toArray=((xs.toList.drop i).take k).toArray:=by
 have e:(λ(m:Nat)=>xs[((i:Int)+(m:Int)*1).toNat]?)=λm=>xs[i+m]?:=by
  funext m;have:((i:Int)+(m:Int)*1).toNat=i+m:=by omega
  rw[this]
 rw[e];have:=pick_run xs i k;rw[List.filterMap_map]at this;have a:((λx=>xs[x]?)∘ λx=>i+x)=λm=>xs[i+m]?:=rfl;rw[a]at this;rw[this]
theorem mq{t sl:Addr}{items:Array Value}{g i:Value}{lo hi:Option Int}{Q:Value->Shared->Prop}(ht:IsTup s.heap t items)(hs:s.heap.IsSliceOf sl g i .none)(j:IsPart g lo)(k:IsPart i hi)(l:¬(du items.size 0 lo=0/\du items.size items.size hi=items.size))(h:Q (.ref s.heap.objs.size) {s with heap:=s.heap.push {cls:=.type "tuple",data:=.seq ((items.toList.drop (du items.size 0 lo)).take (du items.size items.size hi-du items.size 0 lo)).toArray}})(hsz:items.size<=sizeLine):wpAny (model prog w) A (getItem (.ref t) (.ref sl)) Q E s:=by
 have a:sizeOk (.seq ((items.toList.drop (du items.size 0 lo)).take (du items.size items.size hi-du items.size 0 lo)).toArray):=by show((items.toList.drop (du items.size 0 lo)).take (du items.size items.size hi-du items.size 0 lo)).toArray.size<=sizeLine;rw[size_toArray,length_take,List.length_drop,length_toList];omega
 have o:du items.size items.size hi<=items.size:=S8 _ _ (cO) hi;obtain⟨os,b,c,n⟩:=id hs;have e:s.TypeIs (.ref sl) "slice":=⟨os,b,c⟩;unfold getItem;try with_reducible refine wpAny_holding ?_
 first|refine wpAny_bind (wpAny_pure ?_)|skip
 refine wpAny_bind (wpAny_sequenceKey ht.typeIs (by decide) ?_);refine wpAny_bind (wpAny_callSpecial?_slot (name:=Str.ofString "__getitem__") ht.typeIs PyProof.Rows.slot_tuple_getitem (wpAny_call_entry PyProof.Rows.slot_tuple_getitem ht.typeIs entry_tuple_getitem ?_ (args_tuple_getitem _ _)));show wpAny _ _ (tupleItemsOf (.ref t)>>=_) _ _ s;refine wpAny_bind (tupleItemsOf_ ht ?_);refine wpAny_bind (wpAny_typeOf e ?_);rw[if_pos (by decide)];refine wpAny_bind (gR hs j k ?_);have f:¬((((du items.size 0 lo:Nat):Int)==0&&(1:Int)==1&&(du items.size items.size hi-du items.size 0 lo)==items.size)=true):=by intro q;rw[and_eq_true,and_eq_true]at q;have p:((du items.size 0 lo:Nat):Int)=0:=eq_of_beq q.1.1;have r:du items.size items.size hi-du items.size 0 lo=items.size:=eq_of_beq q.2;exact l ⟨by omega,by omega⟩
 show wpAny _ _ (if(((du items.size 0 lo:Nat):Int)==0&&(1:Int)==1&&(du items.size items.size hi-du items.size 0 lo)==items.size)=true then _ else _) _ _ s;rw[if_neg f,Ez];first|exact wpAny_bind (m:=tupleExact _) (wpAny_newObj_type (wpAny_pure ⟨_,rfl,wpAny_pure h⟩) a)|exact wpAny_bind (m:=tupleExact _) (wpAny_newObj_type (wpAny_bind (wpAny_pure (wpAny_pure ⟨_,rfl,wpAny_pure h⟩))) a)|exact wpAny_bind (wpAny_bind (m:=tupleExact _) (wpAny_newObj_type (wpAny_pure (wpAny_pure ⟨_,rfl,wpAny_pure h⟩)) a))|exact wpAny_bind (wpAny_bind (m:=tupleExact _) (wpAny_newObj_type (wpAny_pure ⟨_,rfl,wpAny_pure h⟩) a))
end
end HT
namespace L2
open PySem PySem.Spec PyProof.Rows
variable{n:Nat}{s:Shared}{x:V}
abbrev TO:=St->Hp->(Option Int->Hp->Prop)->Prop
def PO(X:Cx)(e:Option Expr)(t:TO):Prop:=∀(a:List (Addr × Obj))(s:Shared)(σ:St)(H:Hp)(Q:Option Int->Hp->Prop),Inv X a σ H s->t σ H Q->wpAny (model X.prog X.w) X.A (evalPart e X.env) (λu c=>∃o b,Inv X a σ b c/\IsPart u o/\Q o b) X.xe s
def Mw:TO:=λ_ H Q=>Q none H
def WX(t:TE):TO:=λσ H Q=>t σ H λx a=>∃i,x=.int i/\Q (some i) a
section
variable{X:Cx}{e:Expr}{te:TE}{lo hi:Option Expr}{tl th:TO}{pos p2:Pos}
theorem Kg:PO X none Mw:=by intro a s σ H Q I h;rw[evalPart_none];exact wpAny_pure ⟨none,H,I,.none,h⟩
theorem Ms(h:PE X e te):PO X (some e) (WX te):=by intro a s σ H Q I b;rw[evalPart_some];refine bT (h a s σ H _ I b) λu s1⟨x,H1,I1,r1,q1⟩=>?_;obtain⟨i,rfl,q⟩:=q1;obtain⟨t,rfl⟩:=r1;exact⟨some i,H1,I1,.int i t,q⟩
def SlR(X:Cx)(r:V->Option Int->Option Int->Hp->VK->Prop):Prop:=∀(a:List (Addr × Obj))(s:Shared)(σ:St)(H:Hp)(x:V)(v b c:Value)(lo hi:Option Int)(sl:Addr)(Q:VK),Inv X a σ H s->RelV x v->s.heap.IsSliceOf sl b c .none->IsPart b lo->IsPart c hi->r x lo hi H Q->∃T id,typeLookup (.type T) "__getitem__"=pure (some (.builtin id))/\s.TypeIs v T/\wpAny (model X.prog X.w) X.A (getItem v (.ref sl)) (EP X a σ Q) X.xe s
def tSl(r:V->Option Int->Option Int->Hp->VK->Prop)(te:TE)(tl th:TO):TE:=λσ H Q=>te σ H λx a=>tl σ a λl b=>th σ b λu c=>r x l u c Q
theorem wg{r:V->Option Int->Option Int->Hp->VK->Prop}(hr:SlR X r)(he:PE X e te)(g:PO X lo tl)(i:PO X hi th):PE X (.Subscript e (.Slice lo hi none p2) pos) (tSl r te tl th):=by intro a s σ H Q I h;refine Subscript_ (bT (he a s σ H _ I h) λv s1⟨x,H1,I1,r1,q1⟩=>?_);refine wpAny_Slice (bT (g a s1 σ H1 _ I1 q1) λc s2⟨l,H2,I2,pl,q2⟩=>bT (i a s2 σ H2 _ I2 q2) λf s3⟨u,H3,I3,pu,q3⟩=>?_);rw[evalPart_none];refine wpAny_pure ?_;have j:Inv X a σ H3 {s3 with heap:=s3.heap.push {cls:=.type "slice",data:=.fields #[c,f,.none]}}:=I3.kept (t':=s3.toks) λb o q=>fJ q;obtain⟨T,id,k,ht,m⟩:=hr a {s3 with heap:=s3.heap.push {cls:=.type "slice",data:=.fields #[c,f,.none]}} σ H3 x v c f l u s3.heap.objs.size Q j r1 (Heap.IsSliceOf.new ..) pl pu q3;show wpAny (model X.prog X.w) X.A (subscriptTail e (.Slice lo hi none p2) v (.ref s3.heap.objs.size)) (EP X a σ Q) X.xe {s3 with heap:=s3.heap.push {cls:=.type "slice",data:=.fields #[c,f,.none]}};exact tail_any (ops:=[.ref s3.heap.objs.size,v]) ht k m (by with_unfolding_all rfl)
noncomputable def wX(xs:List V)(lo hi:Option Int):List V:=(xs.drop (HT.du xs.length 0 lo)).take (HT.du xs.length xs.length hi-HT.du xs.length 0 lo)
theorem nU(xs:List V)(lo hi:Option Int):(wX xs lo hi).length<=xs.length:=by unfold wX;rw[length_take,List.length_drop];omega
def abz(K:PySem.W.Frag):V->Option Int->Option Int->Hp->VK->Prop:=λx lo hi H Q=>∃a xs,x=.ref a/\jO K H a xs/\¬(HT.du xs.length 0 lo=0/\HT.du xs.length xs.length hi=xs.length)/\∀p,H p=none->Q (.ref p) (upd H p (.tup (wX xs lo hi)))
theorem Sh:SlR X (abz X.K):=by
 intro g s σ H x v p t lo hi sl Q I i hs j k h;obtain⟨a,xs,rfl,l,m,q⟩:=h;cases i;obtain⟨f,r,ht,hz⟩:=I.tuple l;have c:f.toArray.size=xs.length:=by rw[size_toArray];exact r.length.symm
 refine⟨"tuple",_,PyProof.Rows.slot_tuple_getitem.lookup,ht.typeIs,?_⟩;refine HT.mq ht hs j k (by rw[c];exact m) ?_ (by rw[c];exact hz);rw[c];refine⟨.ref s.heap.objs.size,_,I.laid (t':=s.toks) (o:=.tup (wX xs lo hi)) (λb u q=>fJ q) (cO) ?_,rfl,q _ (I.hok.fresh (cO))⟩;exact⟨le_trans (nU xs lo hi) hz,_,(r.drop (HT.du xs.length 0 lo)).take (HT.du xs.length xs.length hi-HT.du xs.length 0 lo),IsTup.new _ _⟩
def Ym(K:PySem.W.Frag):R2:=λx y H Q=>∃a b xs ys,x=.ref a/\y=.ref b/\jO K H a xs/\jO K H b ys/\xs≠[]/\xs.length+ys.length<=sizeLine/\(ys=[]->Q (.ref a) H)/\(ys≠[]->∀p,H p=none->Q (.ref p) (upd H p (.tup (xs++ys))))
theorem Vals.oW{xs:List V}{us:List Value}(r:Vals xs us):us=[]↔xs=[]:=by cases r with|nil=>simp|cons _ _=>simp
theorem Ly:fW X (binaryOp .Add) (Ym X.K):=by intro f s σ H x y v u Q I i j h;obtain⟨a,b,xs,ys,rfl,rfl,k,l,m,hz,p,r⟩:=h;cases i;cases j;obtain⟨t,r1,A,_⟩:=I.tuple k;obtain⟨g,c,p2,_⟩:=I.tuple l;refine HT.KY A p2 (λz=>m (r1.oW.mp z)) (λz=>⟨.ref a,H,I,rfl,p (c.oW.mp z)⟩) (λz=>?_) (by rw[<-r1.length,<-c.length];exact hz);refine⟨.ref s.heap.objs.size,_,I.laid (t':=s.toks) (o:=.tup (xs++ys)) (λb B q=>fJ q) (cO) ?_,rfl,r (λw=>z (c.oW.mpr w)) _ (I.hok.fresh (cO))⟩;exact⟨by rw[length_append];exact hz,_,r1.append c,IsTup.new _ _⟩
end
noncomputable def iW(n:Nat)(i:Int):Option Nat:=if 0<=i then(if i<n then some i.toNat else none)else if-(n:Int)<=i then some (i+n).toNat else none
noncomputable def Gx{a:Type}(xs:List a)(i:Int):Option a:=(iW xs.length i).bind λj=>xs[j]?
theorem Ba{i:Int}{j:Nat}(h:iW n i=some j):seqIndex? i n=some j/\j<n/\-(n:Int)<=i/\i<n:=by
 unfold iW at h;by_cases h0:0<=i
 . rw[if_pos h0]at h;by_cases h1:i<n;.rw[if_pos h1]at h;have e:i.toNat=j:=Option.some.inj h;exact⟨by rw[seqIndex_of h0 h1,e],by omega,by omega,h1⟩
   .rw[if_neg h1]at h;cases h
 . rw[if_neg h0]at h;by_cases h1:-(n:Int)<=i;.rw[if_pos h1]at h;have e:(i+n).toNat=j:=Option.some.inj h;exact⟨by rw[seqIndex_neg (by omega) h1,e],by omega,h1,by omega⟩
   .rw[if_neg h1]at h;cases h
theorem uV{a:Type}{xs:List a}{i:Int}{v:a}(h:Gx xs i=some v):∃j,seqIndex? i xs.length=some j/\xs[j]?=some v/\j<xs.length/\-(xs.length:Int)<=i/\i<xs.length:=by unfold Gx at h;cases e:iW xs.length i with|none=>rw[e]at h;cases h|some j=>rw[e]at h;obtain⟨h1,b,c,f⟩:=Ba e;exact⟨j,h1,h,b,c,f⟩
def vC(b:Expr):Prop:=∀o i,subscripted b false o i=operate [o,i] (getItem o i)
def IxR(X:Cx)(r:R2):Prop:=∀(b slice:Expr)(a:List (Addr × Obj))(s:Shared)(σ:St)(H:Hp)(x y:V)(v u:Value)(Q:VK),Inv X a σ H s->RelV x v->RelV y u->r x y H Q->subscripted slice false v u=operate [v,u] (getItem v u)->wpAny (model X.prog X.w) X.A (subscriptTail b slice v u) (EP X a σ Q) X.xe s
def MtR(X:Cx)(id:String)(r:V->List V->Hp->VK->Prop):Prop:=∀(a:List (Addr × Obj))(s:Shared)(σ:St)(H:Hp)(x:V)(xs:List V)(v:Value)(us:List Value)(Q:VK),Inv X a σ H s->RelV x v->Vals xs us->r x xs H Q->wpAny (model X.prog X.w) X.A (call (.builtin id) (v::us)) (EP X a σ Q) X.xe s
section
variable{X:Cx}{a b:Expr}{ta tb:TE}{pos:Pos}
theorem Pz{r:R2}(hr:IxR X r)(e:PE X a ta)(f:PE X b tb)(hs:vC b):PE X (.Subscript a b pos) (Rf r ta tb):=by intro c s σ H Q I h;exact Subscript_ (QH e f I h λv u s2 x y g i j k q=>hr a b c s2 σ g x y v u Q i j k q (hs _ _))
def WD(K:PySem.W.Frag):R2:=λx y H Q=>∃p xs i v,x=.ref p/\y=.int i/\fP K H p xs/\Gx xs i=some v/\Q v H
def acx(K:PySem.W.Frag):R2:=λx y H Q=>∃p xs i v,x=.ref p/\y=.int i/\jO K H p xs/\Gx xs i=some v/\Q v H
theorem Ah:IxR X (WD X.K):=by
 intro e slice c s σ H x y v u Q I m o h hs;obtain⟨p,xs,i,z,rfl,rfl,A,he,q⟩:=h;cases m;obtain⟨t,rfl⟩:=o;obtain⟨f,r,g,hz⟩:=I.list A;obtain⟨j,h1,B,M,C,E⟩:=uV he;obtain⟨w,l,G⟩:=r.get B;have J:=r.length;have N:=pD;have fin:EP X c σ Q w s:=⟨z,H,I,G,q⟩;by_cases h0:0<=i
 . have k:i.toNat=j:=by rw[seqIndex_of h0 E]at h1;exact Option.some.inj h1
   exact item_listR g.isList h0 (by omega) (by rw[k];simpa using l) fin hs
 . have k:(i+(f.toArray.size:Int)).toNat=j:=by rw[seqIndex_neg (by omega) C]at h1;rw[size_toArray,<-J];exact Option.some.inj h1
   exact subscriptTail_builtinR (x:=w) g.isList.typeIs slot_list_getitem.lookup (wpAny_getItem_list_neg (Q:=λr L=>r=w/\EP X c σ Q r L) g.isList (by omega) (by rw[size_toArray]<;>omega) (by omega) (by rw[k];simpa using l) ⟨rfl,fin⟩) hs
theorem Sy:IxR X (acx X.K):=by intro e slice c s σ H x y v u Q I g k h hs;obtain⟨p,xs,i,z,rfl,rfl,l,he,q⟩:=h;cases g;obtain⟨t,rfl⟩:=k;obtain⟨m,r,f,hz⟩:=I.tuple l;obtain⟨j,h1,o,G,J,L⟩:=uV he;obtain⟨w,A,B⟩:=r.get o;have C:=r.length;have M:=pD;have fin:EP X c σ Q w s:=⟨z,H,I,B,q⟩;exact subscriptTail_builtinR (x:=w) f.typeIs slot_tuple_getitem.lookup (getItem_tuple (j:=j) (Q:=λr E=>r=w/\EP X c σ Q r E) f (by omega) (by omega) (by rw[size_toArray,<-C];exact h1) (by simpa using A) ⟨rfl,fin⟩) hs
theorem yN(c:List Value)(n j:Nat)(u:Value):Obj.mapSeq (·.setIfInBounds j u) {cls:=.type "list",data:=.seq c.toArray n}={cls:=.type "list",data:=.seq (c.set j u).toArray n}:=by simp[Obj.mapSeq]
theorem Inv.lst{f:List (Addr×Obj)}{σ:St}{H:Hp}{s:Shared}{p:Addr}{xs:List V}(I:Inv X f σ H s)(h:H p=some (.lst xs)):∃(c:List Value)(n:Nat),Vals xs c/\s.heap.get? p=some {cls:=.type "list",data:=.seq c.toArray n}/\xs.length<=sizeLine:=by obtain⟨z,c,n,r,e⟩:=I.hok p _ h;exact⟨c,n,r,e,z⟩
theorem Inv.RV{c:List (Addr×Obj)}{σ:St}{H:Hp}{s:Shared}{p:Addr}{xs ys:List V}{g its':List Value}{n i:Nat}{f:Obj->Obj}(I:Inv X c σ H s)(h:H p=some (.lst xs))(ho:s.heap.get? p=some {cls:=.type "list",data:=.seq g.toArray n})(j:f {cls:=.type "list",data:=.seq g.toArray n}={cls:=.type "list",data:=.seq its'.toArray i})(r:Vals ys its')(hz:ys.length<=sizeLine)(t:Nat):Inv X c σ (upd H p (.lst ys)) {s with heap:=s.heap.update p f,toks:=t}:=by
 have e:(s.heap.update p f).get? p=some {cls:=.type "list",data:=.seq its'.toArray i}:=by rw[get?_update_self f ho (by rw[j]<;>rfl),j]
 refine I.write (x:=p) (e:=p) (by rw[h];trivial) (.inl rfl) (λb u k q=>(get?_update_other _ _ (Ne.symm k)).trans q) ⟨_,e⟩ ?_;exact⟨hz,its',i,r,e⟩
def Xu:V->V->V->Hp->(Hp->Prop)->Prop:=λo i v H Q=>∃p xs k j,o=.ref p/\i=.int k/\H p=some (.lst xs)/\iW xs.length k=some j/\Q (upd H p (.lst (xs.set j v)))
theorem set_list:R0 X Xu:=by
 intro c s σ H o i v E iv u Q I z A B h;obtain⟨p,xs,k,j,rfl,rfl,l,C,q⟩:=h;cases z;obtain⟨t,rfl⟩:=A;obtain⟨e,n,r,ho,hz⟩:=I.lst l;obtain⟨h1,G,m,w⟩:=Ba C;have f:=r.length;have J:=pD;have y:Inv X c σ (upd H p (.lst (xs.set j v))) {s with heap:=s.heap.update p (Obj.mapSeq (·.setIfInBounds j u))}:=I.RV l ho (yN e n j u) (r.set B j) (by rw[List.length_set];exact hz) s.toks;by_cases h0:0<=k
 . have g:k.toNat=j:=by rw[seqIndex_of h0 w]at h1;exact Option.some.inj h1
   exact PySem.W.ki_setAt ho h0 (by omega) (by rw[size_toArray,<-f];exact w) (by rw[g];exact⟨_,y,q⟩)
 . have g:(k+(e.toArray.size:Int)).toNat=j:=by rw[seqIndex_neg (by omega) m]at h1;rw[size_toArray,<-f];exact Option.some.inj h1
   exact PySem.W.ki_setBack ho (by omega) (by rw[size_toArray,<-f];exact m) (by omega) (by rw[g];exact⟨_,y,q⟩)
theorem u6(lo hi:Option Int)(n:Nat):(sliceBounds lo hi none n).1=((HT.du n 0 lo:Nat):Int)/\(sliceBounds lo hi none n).2.1=((HT.du n n hi:Nat):Int)/\(sliceBounds lo hi none n).2.2=1:=by
 refine⟨?_,?_,rfl⟩;.cases lo with|none=>simp[sliceBounds,HT.du]|some i=>
     simp only[sliceBounds,HT.du,getD_none,show(1:Int)>0 by decide,if_true];by_cases h:i<0;.simp only[h,if_true]<;>omega
     .simp only[h,if_false]<;>omega
 .cases hi with|none=>simp[sliceBounds,HT.du]|some i=>
     simp only[sliceBounds,HT.du,getD_none,show(1:Int)>0 by decide,if_true];by_cases h:i<0;.simp only[h,if_true]<;>omega
     .simp only[h,if_false]<;>omega
theorem rK(c:List Value)(lo hi:Option Int):slicePick c.toArray lo hi none=((c.drop (HT.du c.length 0 lo)).take (HT.du c.length c.length hi-HT.du c.length 0 lo)).toArray:=by obtain⟨h1,e,f⟩:=u6 lo hi c.toArray.size;unfold slicePick;rw[h1,e,f];simp only[sliceRange_one,pick_run,size_toArray]<;>rfl
def acB(K:PySem.W.Frag):V->Option Int->Option Int->Hp->VK->Prop:=λx lo hi H Q=>∃a xs,x=.ref a/\fP K H a xs/\∀p,H p=none->Q (.ref p) (upd H p (.lst (wX xs lo hi)))
theorem Ks:SlR X (acB X.K):=by intro e s σ H x v l m lo hi sl Q I f hs g i h;obtain⟨a,xs,rfl,j,q⟩:=h;cases f;obtain⟨k,r,ht,hz⟩:=I.list j;have c:=r.length;refine⟨"list",_,slot_list_getitem.lookup,ht.isList.typeIs,?_⟩;refine wpAny_getItem_list_slice ht.isList hs g i .none (by simp) ?_ (by rw[size_toArray]<;>omega);rw[rK,<-c];refine⟨.ref s.heap.objs.size,_,I.laid (t':=s.toks) (o:=.lst (wX xs lo hi)) (λb p q=>fJ q) (cO) ?_,rfl,q _ (I.hok.fresh (cO))⟩;exact⟨le_trans (nU xs lo hi) hz,_,0,(r.drop (HT.du xs.length 0 lo)).take (HT.du xs.length xs.length hi-HT.du xs.length 0 lo),get?_push_size _ rfl⟩
noncomputable def jW:V->Bool|.non=>true|.bl _=>true|.int _=>true|.str _=>true|_=>false
noncomputable def MN:V->V->Bool|.non,.non=>true|.bl a,.bl b=>a==b|.bl a,.int b=>(if a then 1 else 0)==b|.int a,.bl b=>a==(if b then 1 else 0)|.int a,.int b=>a==b|.str a,.str b=>a==b|_,_=>false
theorem Qj{A:Around}{y:V}{u v:Value}(e:RelV y u)(c:RelV x v)(g:jW y=true)(f:jW x=true):SeqAt.EqAt A s u v (MN y x):=by cases y with
 |non=>cases e;cases x with|non=>cases c;exact SeqAt.EqAt.same _|bl b=>cases c;exact none_bool b|int b=>obtain⟨t,rfl⟩:=c;exact none_int b t|str b=>obtain⟨t,rfl⟩:=c;exact none_str b t|_=>exact absurd (show false=true from f) Bool.false_ne_true
 |bl a=>cases e;cases x with|non=>cases c;exact bool_none a|bl b=>cases c;exact bool_bool a b|int b=>obtain⟨t,rfl⟩:=c;exact bool_int a b t|str b=>obtain⟨t,rfl⟩:=c;exact bool_str a b t|_=>exact absurd (show false=true from f) Bool.false_ne_true
 |int a=>obtain⟨t',rfl⟩:=e;cases x with|non=>cases c;exact int_none a t'|bl b=>cases c;exact int_bool a t' b|int b=>obtain⟨t,rfl⟩:=c;exact int_int a t' b t|str b=>obtain⟨t,rfl⟩:=c;exact int_str a t' b t|_=>exact absurd (show false=true from f) Bool.false_ne_true
 |str a=>obtain⟨t',rfl⟩:=e;cases x with|non=>cases c;exact str_none a t'|bl b=>cases c;exact str_bool a t' b|int b=>obtain⟨t,rfl⟩:=c;exact str_int a t' b t|str b=>obtain⟨t,rfl⟩:=c;exact str_str a t' b t|_=>exact absurd (show false=true from f) Bool.false_ne_true
 |_=>exact absurd (show false=true from g) Bool.false_ne_true
noncomputable def Ln(x:V)(u:Value):Bool:=match u with|.none=>MN .non x|.bool b=>MN (.bl b) x|.int i _=>MN (.int i) x|.str z _=>MN (.str z) x|_=>false
theorem Hr{y:V}{u:Value}(r:RelV y u)(f:jW y=true):Ln x u=MN y x:=by cases y with|non=>cases r;rfl|bl b=>cases r;rfl|int i=>obtain⟨t,rfl⟩:=r;rfl|str z=>obtain⟨t,rfl⟩:=r;rfl|_=>exact absurd (show false=true from f) Bool.false_ne_true
theorem uh{x:V}:∀{xs:List V}{us:List Value},Vals xs us->xs.all jW=true->us.any (Ln x)=xs.any λy=>MN y x|_,_,.nil,_=>rfl|y::xs,u::us,.cons r t,f=>by rw[all_cons,and_eq_true]at f;rw[any_cons,any_cons,Hr r f.1,uh t f.2]
theorem qg{A:Around}{s:Shared}{x:V}{v:Value}(c:RelV x v)(e:jW x=true):∀{xs:List V}{us:List Value},Vals xs us->xs.all jW=true->∀u∈us,SeqAt.EqAt A s u v (Ln x u)
 |_,_,.nil,_=>λu hu=>by cases hu|y::xs,u::us,.cons r t,f=>λg hu=>by
   rw[all_cons,and_eq_true]at f;rcases mem_cons.mp hu with rfl|hu;.rw[Hr r f.1];exact Qj r c f.1 e
   .exact qg c e t f.2 g hu
noncomputable def inV(x:V)(xs:List V):Bool:=xs.any λy=>MN y x
def rIn(K:PySem.W.Frag)(neg:Bool):R2:=λx y H Q=>∃p xs,y=.ref p/\(fP K H p xs\/jO K H p xs)/\jW x=true/\xs.all jW=true/\Q (.bl (if neg then !inV x xs else inV x xs)) H
theorem vG:fW X (compareOp .NotIn) (rIn X.K true):=by
 intro g s σ H x y v u Q I i k h;obtain⟨p,xs,rfl,hq,j,fs,q⟩:=h;cases k;rcases hq with hq|hq;.obtain⟨c,r,e,hz⟩:=I.list hq;refine SeqAt.notIn_listAt (Ln x) e.isList (λw f=>qg i j r fs w (by simpa using f)) ⟨.bl _,H,I,rfl,?_⟩;rw[show c.toArray.any (Ln x)=c.any (Ln x)by simp,uh r fs];exact q
 .obtain⟨c,r,e,hz⟩:=I.tuple hq;refine SeqAt.notIn_tupleAt (Ln x) e (λw f=>qg i j r fs w (by simpa using f)) ⟨.bl _,H,I,rfl,?_⟩;rw[show c.toArray.any (Ln x)=c.any (Ln x)by simp,uh r fs];exact q
theorem uU:fG X (.builtin "len") (λxs H Q=>∃p ys,xs=[.ref p]/\(fP X.K H p ys\/jO X.K H p ys)/\Q (.int ys.length) H):=by
 intro i s σ H xs us Q I r h;obtain⟨p,ys,rfl,hq,q⟩:=h;obtain⟨u,rfl,j⟩:=vals1 r;cases j;have k:=pD;rcases hq with hq|hq;.obtain⟨e,f,g,hz⟩:=I.list hq;have c:=f.length;exact Calls.call_len_list g.isList (by simp only[size_toArray]<;>omega) ⟨.int ys.length,H,I.tok _,⟨s.toks+1,by rw[size_toArray,c]⟩,q⟩
 .obtain⟨e,f,g,hz⟩:=I.tuple hq;have c:=f.length;exact len_tuple g (by simp only[size_toArray]<;>omega) ⟨.int ys.length,H,I.tok _,⟨s.toks+1,by rw[size_toArray,c]⟩,q⟩
theorem u9:fG X (.type "list") (λxs H Q=>∃p ys,xs=[.ref p]/\(fP X.K H p ys\/jO X.K H p ys)/\∀l,H l=none->Q (.ref l) (upd H l (.lst ys))):=by
 intro i s σ H xs us Q I r h;obtain⟨p,ys,rfl,hq,q⟩:=h;obtain⟨u,rfl,t⟩:=vals1 r;cases t;have fin:∀(c:List Value),Vals ys c->ys.length<=sizeLine->∀(h':Heap)(f:Nat),(∀b m,s.heap.get? b=some m->h'.get? b=some m)->h'.get? s.heap.objs.size=some {cls:=.type "list",dict:=none,data:=.seq c.toArray f,slots:=#[]}->EP X i σ Q (.ref s.heap.objs.size) {s with heap:=h'}:=λc g hz h' f kp e=>⟨.ref s.heap.objs.size,_,I.laid (t':=s.toks) kp (cO) (show bz X.prog X.w _ h' _ (.lst ys)from⟨hz,c,f,g,e⟩),rfl,q _ (I.hok.fresh (cO))⟩;rcases hq with hq|hq;.obtain⟨c,g,k,hz⟩:=I.list hq;have j:=g.length;obtain⟨o,ho,hc,n,hd⟩:=k.isList;exact call_list_seq p (.inl rfl) ho hc hd (λh' f kp e=>fin c g hz h' f kp e) (by simp only[size_toArray]<;>omega)
 .obtain⟨c,g,k,hz⟩:=I.tuple hq;have j:=g.length;obtain⟨o,ho,hc,n,hd⟩:=k;exact call_list_seq p (.inr rfl) ho hc hd (λh' f kp e=>fin c g hz h' f kp e) (by simp only[size_toArray]<;>omega)
theorem jU:fG X (.type "tuple") (λxs H Q=>∃p ys,xs=[.ref p]/\((fP X.K H p ys/\∀l,H l=none->Q (.ref l) (upd H l (.tup ys)))\/(jO X.K H p ys/\Q (.ref p) H))):=by
 intro c s σ H xs us Q I r h;obtain⟨p,ys,rfl,h⟩:=h;obtain⟨u,rfl,t⟩:=vals1 r;cases t;rcases h with⟨g,q⟩|⟨g,q⟩;.obtain⟨f,i,j,hz⟩:=I.list g;have k:=i.length;refine call_tuple_list j.isList (λh' kp=>?_) (by simp only[size_toArray]<;>omega);have m:Inv X c σ H {s with heap:=h'}:=I.kept (t':=s.toks) kp;have v:Inv X c σ (upd H h'.objs.size (.tup ys)) {s with heap:=h'.push {cls:=.type "tuple",data:=.seq f.toArray}}:=m.laid (t':=s.toks) (λb o e=>fJ e) (cO) (show bz X.prog X.w _ _ _ (.tup ys)from⟨hz,f,i,IsTup.new _ _⟩);exact⟨.ref h'.objs.size,_,v,rfl,q _ (m.hok.fresh (cO))⟩
 .obtain⟨f,i,j,hz⟩:=I.tuple g;exact call_tuple_same j ⟨.ref p,H,I,rfl,q⟩
def tyV(K:PySem.W.Frag)(T:String)(x:V)(H:Hp):Prop:=match x with|.str _=>T="str"|.int _=>T="int"|.ref p=>(T="list"/\∃xs,fP K H p xs)\/(T="tuple"/\∃o,K.lookup p=some o/\o.cls=.type "tuple"/\o.dict=none)\/(T="dict"/\((∃kvs,H p=some (.dK kvs))\/∃kvs,H p=some (.dT kvs)))\/(T="set"/\∃S n,H p=some (.set S n))|_=>False
theorem Qy{g:List (Addr×Obj)}{σ:St}{H:Hp}{T:String}{v:Value}(I:Inv X g σ H s)(r:RelV x v)(ty:tyV X.K T x H):
 s.TypeIs v T/\∀a,v=.ref a->∃j,s.heap.get? a=some j/\j.dict=none:=by cases x with|str z=>obtain⟨t,rfl⟩:=r;cases(show T="str"from ty);exact⟨typeIs_str s z t,λ_ e=>nomatch e⟩|int i=>obtain⟨t,rfl⟩:=r;cases(show T="int"from ty);exact⟨typeIs_int s i t,λ_ e=>nomatch e⟩|ref p=>
   cases r;rcases ty with⟨rfl,xs,l⟩|⟨rfl,o,f,hc,hd⟩|⟨rfl,f⟩|⟨rfl,S,n,f⟩;.obtain⟨m,_,k,_⟩:=I.list l;refine⟨k.isList.typeIs,λa e=>?_⟩;cases e;obtain⟨o,n,e,c,hd,_⟩:=k;exact⟨o,e,hd⟩
   .refine⟨⟨o,I.U0 p o f,hc⟩,λa e=>?_⟩;cases e;exact⟨o,I.U0 _ o f,hd⟩
   . have z:∃o,s.heap.get? p=some o/\o.ExactDict:=by
      rcases f with⟨kvs,f⟩|⟨kvs,f⟩;.obtain⟨_,_,_,_,o,_,_,e,ex,_⟩:=I.hok p _ f;exact⟨o,e,ex⟩
      .obtain⟨_,_,_,_,o,_,_,e,ex,_⟩:=I.hok p _ f;exact⟨o,e,ex⟩
     obtain⟨o,e,ex⟩:=z;refine⟨⟨o,e,ex.1⟩,λa h=>?_⟩;cases h;exact⟨o,e,ex.2.1⟩
   .obtain⟨o,_,_,_,e,ex,_⟩:=I.hok p _ f;refine⟨⟨o,e,ex.1⟩,λa h=>?_⟩;cases h;exact⟨o,e,ex.2.1⟩|_=>exact False.elim ty
def tBM(K:PySem.W.Frag)(T:String)(r:V->List V->Hp->VK->Prop)(to:TE)(t:TA):TE:=λσ H Q=>to σ H λx c=>tyV K T x c/\t σ c λxs e=>r x xs e Q
variable{o e:Expr}{es:List Expr}{to:TE}{t:TA}{name:Str}{apos cpos:Pos}{T id:String}{r:V->List V->Hp->VK->Prop}
theorem Jr(m:PlainAttrs T)(slot:Slot T name id)(k:typeOf (.builtin id)=pure (.type "method_descriptor"))(p:MtR X id r)(ho:PE X o to)(q:PA X (e::es) t)(g:attributeBase o name X.env (eval o X.env)=eval o X.env:=by rfl)(j:((backTo cpos (starEach (e::es) X.env)).all (λx=>!x.1)&&(backToKw cpos (keywordEach [] X.env)).all (λx=>x.1.isSome)&&decide ((e::es).length+([]:List Keyword).length+(if([]:List Keyword).isEmpty then 0 else 1)<30))=true:=by rfl)(i:(apos.endLine==cpos.line)=true:=by rfl)(hs:starEach (e::es) X.env=(false,eval e X.env)::starEach es X.env:=by rfl)(f:(backTo cpos (starEach es X.env)).any (·.1)=false:=by rfl):PE X (.Call (.Attribute o name apos) (e::es) [] cpos) (tBM X.K T r to t):=by intro c s σ H Q I h;refine wpAny_Call_method_late g j i rfl (bT (ho c s σ H _ I h) λv s1⟨x,H1,I1,r1,ty,q1⟩=>?_);obtain⟨h1,u⟩:=Qy I1 r1 ty;refine⟨T,id,m,slot,k,h1,u,?_⟩;have l:=q cpos c s1 σ H1 _ I1 q1;rw[hs]at l ⊢;refine Calls.callWith_builtin (by show(false||(backTo cpos (starEach es X.env)).any (·.1))=false;rw[f]<;>rfl) (Calls.evalArgs_plain ?_);exact bT l λus s2⟨vs,H2,I2,r2,q2⟩=>p c s2 σ H2 x vs v us Q I2 r1 r2 q2
end
def MtM(X:Cx)(id:String)(r:V->List V->Hp->VK->Prop):Prop:=∀(a:List (Addr × Obj))(s:Shared)(σ:St)(H:Hp)(x:V)(xs:List V)(v:Value)(us:List Value)(Q:VK),Inv X a σ H s->RelV x v->Vals xs us->r x xs H Q->wpAny (model X.prog X.w) X.A (call (.builtin id) (v::us)) (EP X a σ Q) X.xe s
theorem Vals.one:∀{x:V}{us:List Value},Vals [x] us->∃u,us=[u]/\RelV x u|x,us,h=>by cases h with|cons r t=>cases t;exact⟨_,rfl,r⟩
theorem Vals.reverse{xs:List V}{us:List Value}(h:Vals xs us):Vals xs.reverse us.reverse:=by induction h with|nil=>exact .nil|cons r t a=>rw[reverse_cons,reverse_cons];exact Vals.append a (.cons r .nil)
theorem Vals.rep{xs:List V}{us:List Value}(h:Vals xs us):∀k:Nat,Vals (replicate k xs).flatten (replicate k us).flatten|0=>.nil|k+1=>by rw[replicate_succ,replicate_succ,flatten_cons,flatten_cons];exact Vals.append h (Vals.rep h k)
theorem foldl_rep(a:List Value):∀(k:Nat)(b:List Value),foldl (λc f=>c++f) b.toArray (replicate k a.toArray)=(b++(replicate k a).flatten).toArray
 |0,b=>by simp|k+1,b=>by
   have e:b.toArray++a.toArray=(b++a).toArray:=by simp
   have g:(b++a)++(replicate k a).flatten=b++(replicate (k+1) a).flatten:=by rw[replicate_succ,flatten_cons,append_assoc]
   rw[<-g,<-foldl_rep a k (b++a),<-e,replicate_succ,List.foldl_cons]
section
variable{X:Cx}{pins:List (Addr×Obj)}{σ:St}{H:Hp}{s:Shared}{l b:Addr}{xs ys zs:List V}
theorem Inv.Wv{a its':List Value}{f:Array Value->Array Value}{t':Nat}(I:Inv X pins σ H s)(c:H l=some (.lst xs))(e:s.heap.get? l=some {cls:=.type "list",data:=.seq a.toArray n})(g:f a.toArray=its'.toArray)(h:Vals ys its')(hz:ys.length<=sizeLine):Inv X pins σ (upd H l (.lst ys)) {s with heap:=s.heap.update l (Obj.mapSeq f),toks:=t'}:=by have q:=PySem.IsL.update e f;rw[g]at q;refine I.write (x:=l) (e:=l) (by rw[c];exact trivial) (.inl rfl) (λk u i j=>(get?_update_other s.heap (Obj.mapSeq f) (Ne.symm i)).trans j) ⟨_,q⟩ ?_;exact⟨hz,its',_,h,q⟩
theorem Inv.Tt{a:List Value}{t':Nat}(I:Inv X pins σ H s)(c:Vals ys a)(hz:ys.length<=sizeLine):Inv X pins σ (upd H s.heap.objs.size (.lst ys)) {s with heap:=s.heap.push {cls:=.type "list",data:=.seq a.toArray},toks:=t'}:=I.laid (λ_ _ q=>fJ q) (cO) ⟨hz,a,0,c,get?_push_size _ rfl⟩
theorem Inv.fresh(I:Inv X pins σ H s):H s.heap.objs.size=none:=I.hok.fresh (cO)
theorem Inv.Qs(I:Inv X pins σ H s)(c:H l=some (.lst xs)):xs.length<=sizeLine/\∃(a:List Value)(n:Nat),Vals xs a/\xs.length=a.length/\s.heap.get? l=some {cls:=.type "list",data:=.seq a.toArray n}:=by obtain⟨z,a,n,r,e⟩:=I.hok l _ c;exact⟨z,a,n,r,r.length,e⟩
theorem wI(h:n<=sizeLine):listTooLong n=false:=by unfold listTooLong;exact decide_eq_false (by omega)
end
section
variable{X:Cx}
def K6:V->List V->Hp->VK->Prop:=λx vs H Q=>∃l xs y,x=.ref l/\vs=[y]/\H l=some (.lst xs)/\xs.length<sizeLine/\Q .non (upd H l (.lst (xs++[y])))
theorem mZ:MtM X "list.append" K6:=by intro b s σ H x vs v us Q I f g h;obtain⟨l,xs,y,rfl,rfl,c,hz,q⟩:=h;cases f;obtain⟨u,rfl,i⟩:=g.one;obtain⟨z,a,n,r,j,e⟩:=I.Qs c;refine call_meets F.slot_list_append ⟨_,e,rfl⟩ F.entry_list_append (F.args_list_append_2 _ _) (PySem.list_append l a.toArray n u (by rw[size_toArray];omega)) ⟨e,?_⟩;refine⟨.non,_,I.Wv (its':=a++[u]) c e (by simp) (r.append (.cons i .nil)) ?_,rfl,q⟩;rw[length_append,List.length_singleton];omega
def MT:V->List V->Hp->VK->Prop:=λx vs H Q=>∃l b xs a,x=.ref l/\vs=[.ref b]/\H l=some (.lst xs)/\H b=some (.lst a)/\xs.length+a.length<=sizeLine/\Q .non (upd H l (.lst (xs++a)))
theorem Dl:MtM X "list.extend" MT:=by
 intro f s σ H x vs v us Q I i j h;obtain⟨l,b,xs,A,rfl,rfl,g,k,hz,q⟩:=h;cases i;obtain⟨u,rfl,m⟩:=j.one;cases m;obtain⟨z,c,n,r,B,e⟩:=I.Qs g;obtain⟨C,a,o,p,t,w⟩:=I.Qs k;have hsz:c.toArray.size+a.toArray.size<=sizeLine:=by rw[size_toArray,size_toArray];omega
 have y:¬(!c.toArray.isEmpty&&listTooLong (c.toArray.size+a.toArray.size))=true:=by rw[wI hsz,Bool.and_false];exact Bool.false_ne_true
 refine call_meets F.slot_list_extend ⟨_,e,rfl⟩ F.entry_list_extend (F.args_list_extend_2 _ _) (AutoSeq1.list_extend_list_list_0 l c.toArray n b a.toArray o y (by rw[size_toArray];omega) (by omega)) ⟨e,w,?_⟩;refine⟨.non,_,I.Wv (its':=c++a) g e (by simp) (r.append p) ?_,rfl,q⟩;rw[length_append];omega
theorem len_rep{a:Type}(xs:List a)(k:Nat):(replicate k xs).flatten.length=k*xs.length:=by induction k with|zero=>simp|succ k b=>rw[replicate_succ,flatten_cons,length_append,b,Nat.succ_mul,Nat.add_comm]
end
end L2
namespace Att
open PySem PySem.W PySem.Calls PyProof.Rows
theorem oH{P:Params}{h:Heap}:∀(ns:List Int)(vs:List Value),WellAll P h vs (ns.map WData.int)->IntsAre vs ns:=by intro ns;induction ns with|nil=>intro vs w;rw[map_nil]at w;cases w;exact .nil|cons n ns c=>intro vs w;rw[map_cons]at w;cases w with|cons a b=>cases a;exact .cons _ _ (c _ b)
theorem CQ{l:OpenLaw}{n:Nat}(k:l.most=some n){P:Params}{h:Heap}{args:List WData}{b:List Value}(c:l.row.toRowW.claim.pre args=true)(i:WellAll P h b args):∃a vs ns,b=[Value.ref a]/\args=[WData.list (ns.map WData.int)]/\h.get? a=some {cls:=.type "list",data:=.seq vs.toArray}/\IntsAre vs ns/\ns.length<=n:=by
 have j:WShape.hasAll [] args [.list .int]=true:=(pre_splitW c).1;have hc:l.pre.holds [] {args:=args}=true:=(pre_splitW c).2;obtain⟨d,r,rfl,h1,m⟩:=hasAllW_cons j;obtain rfl:=hasAllW_nil m;obtain⟨xs,rfl,o⟩:=hasW_list h1;obtain⟨ns,rfl⟩:=items_int o;have e:ns.length<=n:=by
  unfold OpenLaw.pre at hc;have f:(WTm.not (.lt (.lit (.int (n:Int))) (.len (.arg 0)))).holds [] {args:=[.list (ns.map .int)]}=true:=by have f:=(holds_andW hc).1;rw[k]at f;exact f
  have g:=condW_of f (w_not (w_lt w_lit (w_len_list (w_arg rfl))));rw[length_map]at g;refine Nat.le_of_not_lt λq=>?_;have p:(n:Int)<((ns.length:Nat):Int):=by omega
  first|(rw[decide_eq_true p]at g;exact absurd g (by decide))|(simp at g;omega)
 cases i with|cons s t=>cases t;cases s with|list ho hall=>exact⟨_,_,ns,rfl,rfl,ho,oH ns _ hall,e⟩
theorem Cz(l:OpenLaw)(args:List WData):l.row.toRowW.claim.post args (.bool true) args=true:=postW_of (r:=l.row.toRowW) (X:=(true==true)) (show WShape.has [] (.bool true) .bool=true by first|rfl|decide|simp[WShape.has,WShape.arms,WShape.armsAll]) (show(WTm.eq .res (.lit (.bool true))).value [] {args:=args,res:=some (.bool true),after:=args}=some (.bool (true==true))from w_eq_bool (w_res rfl) w_lit) rfl
theorem wH{l:OpenLaw}{n:Nat}{q:Program}{c:List Str}{z:(Str->Option Value)->Heap->Prop}{A:World->Heap->Prop}{d:DefRec}(H:l.most=some n)(s:d.params.defaults=[])(call:∀(w:World)(s₀ b:Shared)(mg t:Str->Option Value)(h:Addr)(o:Obj)(u m e:Value)(a:Addr)(vs:List Value)(ns:List Int),Ground q c [] z w s₀ mg t b.heap->A w b.heap->b.heap.get? h=some o->o.data=.func (docDef d.name d.params d.body d.scope u m e)->b.heap.CodeRec m d.name->mg d.name=some (.ref h)->b.heap.get? a=some {cls:=.type "list",data:=.seq vs.toArray}->IntsAre vs ns->ns.length<=n->b.gens=#[]->codeAny (model l.prog w) callerA (.call (.ref h) ⟨[.ref a],[]⟩) (λr p=>r=.ok (.ret (.bool true))/\OldK b.heap p.heap/\p.os=b.os/\AllBare p.gens) b):WalkO q c z A l.row.toRowW d [] (λf vs=>PySem.call f vs):=by intro w s₀ b mg t G Y h o u m e I kV ho hd v B x J args C as i E L y M;obtain rfl:I=.none:=Dflts.none B s;obtain rfl:kV=.none:=Dflts.noKw B;obtain⟨a,vs,ns,rfl,rfl,j,g,k⟩:=CQ H i y;refine enter_call (codeAny_mono (call w s₀ b mg t h o u m e a vs ns G Y ho (fd_plain hd) v x j g k J) λr p N=>?_);obtain⟨rfl,O,Q,U⟩:=N;exact⟨.inl ⟨.bool true,.bool true,[],rfl,λ_=>rfl,.bool true,Cz l _,λ_=>⟨List.Pairwise.nil,λ_ W=>(nomatch W)⟩⟩,O,Q,U⟩
end Att
namespace L2
open PySem PySem.Spec PyProof.Rows
theorem t8:∀{vs:List Value}{ns:List Int},IntsAre vs ns->Vals (ns.map V.int) vs|_,_,.nil=>.nil|_,_,.cons n t h=>.cons ⟨t,rfl⟩ (t8 h)
def Only(H:Hp):Prop:=∀b,H b=none\/∃o xs,H b=some (.dh o (.lst xs))
theorem Fq{P:Program}{w:World}{K:PySem.W.Frag}{mg G:Str->Option Value}{CX:Ge}{k:Nat}{I a:Addr}{fd:FuncData}{x:Str}{sp:Sp}{c:Shared}{vs:List Value}{ns:List Int}(M:K.In c.heap)(p:c.heap.Ns mainGlobals mg)(f:c.heap.Ns builtinsNs G)(J:∀x:Str,x≠"__name__"->G x=bootBuiltins x)(t:c.heap.NoLimit)(Z:c.gens=#[])(E:c.heap.get? a=some {cls:=.type "list",data:=.seq vs.toArray})(hi:IntsAre vs ns)(N:ns.length<=sizeLine)(hr:ji k callerA)(F:∀base:Heap,K.In base->base.Ns mainGlobals mg->mY P w K mg base CX k I fd [x] sp)(l:∀(s:Shared)(u:Value),BindsTo s fd ⟨[u],[]⟩ [(x,u)])(hsp:∀H:Hp,Only H->fP K H a (ns.map V.int)->sp [.ref a] H (λv _=>v=.bl true) λ_ _ _=>False)(Y8:∀H e g,CX [] H c (λ_ _ _=>False) e g->False):codeAny (model P w) callerA (.call (.ref I) ⟨[.ref a],[]⟩) (λr g=>r=.ok (.ret (.bool true))/\OldK c.heap g.heap/\g.os=c.os/\AllBare g.gens) c:=by
 have O:=t8 hi;have y:=hi.length--from an abstract heap in which nothing but the script may be tracked
 have j:∀H:Hp,Only H->fP K H a (ns.map V.int)->mO P w H c.heap->(∀b,H b≠none->b=a)->(H a≠none->K.lookup a=none)->codeAny (model P w) callerA (.call (.ref I) ⟨[.ref a],[]⟩) (λr g=>r=.ok (.ret (.bool true))/\OldK c.heap g.heap/\g.os=c.os/\AllBare g.gens) c:=by
  intro H Q hS hok U hK;have X:∀{b:Addr}{o:Obj},c.heap.get? b=some o->H b=none->(uX c.heap H).get? b=some o:=λe n=>Jo e n;have Y6:∀{b:Addr}{o:Obj}{es:Array DictEntry}{ep:Nat},c.heap.get? b=some o->o.data=.dict es ep->H b=none:=λ{b o es ep}e d=>by cases q:H b with|none=>rfl|some u=>have L:b=a:=U b (by rw[q];simp);subst L;rw[E]at e;cases e;have d':Data.seq vs.toArray _=Data.dict es ep:=d;cases d'
  have i:∀{b:Addr}{m:Str->Option Value},c.heap.Ns b m->(uX c.heap H).Ns b m:=λ{b m}⟨o,es,ep,e,d,r⟩=>⟨o,es,ep,X e (Y6 e d),d,r⟩;have A:K.In (uX c.heap H):=λb o e=>X (M b o e) (by cases q:H b with|none=>rfl|some u=>have L:b=a:=U b (by rw[q];simp);subst L;rw[hK (by rw[q];simp)]at e;cases e);have hM:Mod K mg (uX c.heap H):=⟨A,i p,⟨G,i f,J⟩,let⟨mc,h1,h2⟩:=t;⟨mc,i h1,h2⟩⟩;have e0:Km P w K mg (uX c.heap H) callerA [] c H:=⟨rfl,hM,λb o e=>LQ e,Nat.le_of_eq (DK _ _),trivial,λb f=>absurd (show b∈([]:List Addr)from f) (by simp),hok,.of_eq Z⟩;refine codeAny_mono ((F _ A (i p)).run callerA [] c H ⟨[.ref a],[]⟩ [.ref a] [.ref a] _ _ hr e0 (l c (.ref a)) (.cons rfl .nil) (hsp H Q hS)) λr g h=>?_;cases r with|error e=>exact(Y8 H e g h).elim|ok fl=>cases fl with|next=>exact False.elim h|brk=>exact False.elim h|cont=>exact False.elim h|ret u=>obtain⟨v,H',os,bare,un,B,r',q⟩:=h;have q':v=.bl true:=q;subst q';obtain rfl:u=Value.bool true:=r';refine⟨rfl,OldK.of_keep λb o e=>?_,os,bare⟩;cases q:H b with|none=>exact un.keep b o e q (by intro z;exact absurd (show b∈([]:List Addr)from z) (by simp)) (by simp)|some u=>
        rcases Q b with z|⟨ob,xs,z⟩;.rw[q]at z;cases z
        .have z2:=un.vJ b ob _ z;obtain⟨Y,_⟩:=hok b _ z;obtain⟨e2,_⟩:=B b _ z2;rw[e]at Y;cases Y;exact e2
 cases hk:K.lookup a with|some o=>--the script is one of the module's own objects
   have e:=M a o hk;rw[E]at e;cases e;refine j (λ_=>none) (λ_=>.inl rfl) (.inr ⟨_,vs.toArray,_,hk,rfl,rfl,rfl,by rw[size_toArray,y];exact N,by simpa using O⟩) (λb u z=>by have C:(none:Option HO)=some u:=z;cases C) (λb z=>absurd rfl z) λz=>absurd rfl z|none=>
   refine j (λb=>if b=a then some (.dh {cls:=.type "list",data:=.seq vs.toArray} (.lst (ns.map V.int)))else none) (λb=>?_) (.inl (.inr ⟨{cls:=.type "list",data:=.seq vs.toArray},if_pos rfl⟩)) (λb u z=>?_) (λb z=>?_) λ_=>hk
   . by_cases f:b=a;.exact .inr ⟨_,_,if_pos f⟩
     .exact .inl (if_neg f)
   . by_cases f:b=a;.have C:=(if_pos f).symm.trans z;cases C;subst f;exact⟨E,by rw[length_map];exact N,vs,_,O,E⟩
     .have C:=(if_neg f).symm.trans z;cases C
   . by_cases f:b=a;.exact f
     .exact absurd (if_neg f) z
theorem Mp{l:PySem.W.OpenLaw}{n k:Nat}{q:Program}{i:List Str}{E:(Str->Option Value)->Heap->Prop}{B:World->Heap->Prop}{d:DefRec}{K:Params->PySem.W.Frag}{CX:World->Ge}{sp:World->Sp}{x:Str}(I:l.most=some n)(t:n<=sizeLine)(y:d.params.defaults=[])(hr:ji k callerA)(J:∀(w:World)(h:Heap),B w h->(K w.params).In h)(F:∀(w:World)(mg:Str->Option Value)(r:Addr)(h:Heap),(K w.params).In h->h.Ns mainGlobals mg->mg d.name=some (.ref r)->∃ fd:FuncData,(∀(s:Shared)(u:Value),BindsTo s fd ⟨[u],[]⟩ [(x,u)])/\∀base:Heap,(K w.params).In base->base.Ns mainGlobals mg->mY l.prog w (K w.params) mg base (CX w) k r fd [x] (sp w))(hsp:∀(w:World)(H:Hp)(a:Addr)(ns:List Int),ns.length<=n->Only H->fP (K w.params) H a (ns.map V.int)->sp w [.ref a] H (λv _=>v=.bl true) λ_ _ _=>False)(L:∀(w:World)(H:Hp)(s:Shared)(e:Value)(z:Shared),CX w [] H s (λ_ _ _=>False) e z->False):PySem.W.WalkO q i E B l.row.toRowW d [] (λf vs=>PySem.call f vs):=by refine Att.wH I y λw s₀ m mg mb r o pm cd M a vs ns G Y ho hd N A p j c O=>?_;have C:=J w _ Y;obtain⟨fd,Q,U⟩:=F w mg r _ C G.T.g A;exact Fq C G.T.g G.T.b G.T.builtins G.T.nolimit O p j (le_trans c t) hr U Q (λH X Z=>hsp w H a ns c X Z) λH e z=>L w H m e z
theorem Fw{l:PySem.W.OpenLaw}{n k:Nat}{q:Program}{b:List Str}{o:(Str->Option Value)->Heap->Prop}{j:World->Heap->Prop}{d:DefRec}{K:Params->PySem.W.Frag}{CX:Ge}{sp:PySem.W.Frag->Sp}{x:Str}(p:l.most=some n)(c:n<=sizeLine)(g:d.params.defaults=[])(hr:ji k callerA)(r:∀(w:World)(h:Heap),j w h->(K w.params).In h)(F:∀(w:World)(mg:Str->Option Value)(m:Addr)(h:Heap),(K w.params).In h->h.Ns mainGlobals mg->mg d.name=some (.ref m)->∃ fd:FuncData,(∀(s:Shared)(u:Value),BindsTo s fd ⟨[u],[]⟩ [(x,u)])/\∀base:Heap,(K w.params).In base->base.Ns mainGlobals mg->mY l.prog w (K w.params) mg base CX k m fd [x] (sp (K w.params)))(hsp:∀(K:PySem.W.Frag)(H:Hp)(a:Addr)(ns:List Int),ns.length<=n->Only H->fP K H a (ns.map V.int)->sp K [.ref a] H (λv _=>v=.bl true) λ_ _ _=>False)(t:∀(H:Hp)(s:Shared)(e:Value)(i:Shared),CX [] H s (λ_ _ _=>False) e i->False):PySem.W.WalkO q b o j l.row.toRowW d [] (λf vs=>PySem.call f vs):=Mp (K:=K) (CX:=λ_=>CX) (sp:=λw=>sp (K w.params)) p c g hr r F (λw H a ns h1 y z=>hsp (K w.params) H a ns h1 y z) λ_ H s e i=>t H s e i
end L2
namespace L2
open PySem PySem.Spec PyProof.Rows
noncomputable def iz(s:Stmt):Arguments:=match s with|.FunctionDef _ a _ _ _ _ _ _ _ _=>a|_=>{posonlyargs:=[],args:=[],vararg:=none,kwonlyargs:=[],kw_defaults:=[],kwarg:=none,defaults:=[]}
noncomputable def fU(s:Stmt):List Stmt:=match s with|.FunctionDef _ _ b _ _ _ _ _ _ _=>b|_=>[]
noncomputable def aB(s:Stmt):Scope:=match s with|.FunctionDef _ _ _ _ _ _ a _ _ _=>a|_=>{kind:=.function,names:=[],isGenerator:=false,isCoroutine:=false}
abbrev Fy:Ge:=λ_ _ _ _ _ _=>False
abbrev E0:XK:=λ_ _ _=>False
theorem YW{X:Cx}:Passes Fy X E0:=λ_ _ _ _ _ _ _ h=>h.elim
structure jc(K:PySem.W.Frag)(x qual:Str)(st:Stmt)(f:Addr)(fd:FuncData):Prop where
 ex:∃(oc:Value)(od:Option Addr)(kV doc pm:Value)(an:Option Addr)(cdv ct:Value)(osl:Array (Option Value)),fd=PySem.W.fnOf x qual (iz st) (fU st) (aB st) .none kV doc pm an cdv ct/\K.lookup f=some ⟨oc,od,.func fd,osl⟩/\PySem.W.codeIn K cdv qual=true
 kp:keepIn K (.ref f)=true
section
variable{P:Program}{w:World}{K:PySem.W.Frag}{mg:Str->Option Value}{base:Heap}
theorem jc.ok{x qual:Str}{st:Stmt}{f:Addr}{fd:FuncData}{N ps:List Str}{k:Nat}{sp:Sp}(F:jc K x qual st f fd)(S:aL N ps (aB st))(len:∀vs H Q E,sp vs H Q E->vs.length=ps.length)(a:∀(cdv:Value)(A:Around)(outer:List Env)(s:Shared)(H:Hp)(vs:List V)(Q:VK)(E:XK),ji k (A.deeper (envOfC qual (aB st) s.heap.objs.size f cdv))->sp vs H Q E->∃t,wu (yp Fy P w K mg base N qual (aB st) f cdv A outer s H E).YM (fU st) t/\t {nx:=λ_ c=>Q .non c,rt:=Q} (start N vs) H):mY P w K mg base Fy (k+1) f fd ps sp:=by obtain⟨oc,i,kV,e,j,l,cdv,ct,g,rfl,lk,b⟩:=F.ex;refine WR lk b S len λA outer s H vs Q E hr hsp=>?_;obtain⟨t,h,q⟩:=a cdv A outer s H vs Q E hr hsp;exact⟨t,h.YM,q⟩
theorem jc.binds{x qual:Str}{st:Stmt}{f:Addr}{fd:FuncData}{ps:List Str}(F:jc K x qual st f fd)(h:∀(kV a b:Value)(c:Option Addr)(cdv ct:Value)(us:List Value),us.length=ps.length->bindArgs (PySem.W.fnOf x qual (iz st) (fU st) (aB st) .none kV a b c cdv ct) ⟨us,[]⟩=pure (ps.zip us)):Binds K fd ps []:=by obtain⟨oc,i,kV,a,b,c,cdv,ct,e,rfl,lk,g⟩:=F.ex;exact .all (h kV a b c cdv ct)
theorem RN{x qual:Str}{st:Stmt}{f:Addr}{oc:Value}{h e:Option Addr}{b:Array (Option Value)}{kV a g cdv ct:Value}(l:K.lookup f=some ⟨oc,h,.func (PySem.W.fnOf x qual (iz st) (fU st) (aB st) .none kV a g e cdv ct),b⟩)(c:PySem.W.codeIn K cdv qual=true)(k:keepIn K (.ref f)=true):jc K x qual st f (PySem.W.fnOf x qual (iz st) (fU st) (aB st) .none kV a g e cdv ct):=⟨⟨oc,h,kV,a,g,e,cdv,ct,b,rfl,l,c⟩,k⟩
end
def aH(H a:Hp):Prop:=∀b o,H b=some o->a b=some o
theorem aH.refl(H:Hp):aH H H:=λ_ _ h=>h
theorem aH.trans{H e f:Hp}(a:aH H e)(b:aH e f):aH H f:=λc o h=>b c o (a c o h)
theorem aH.seq{K:PySem.W.Frag}{H b:Hp}{a:Addr}{xs:List V}(e:aH H b)(h:fP K H a xs):fP K b a xs:=by
 rcases h with(h|⟨o,h⟩)|h;.exact .inl (.inl (e _ _ h))
 .exact .inl (.inr ⟨o,e _ _ h⟩)
 .exact .inr h
end L2
end
section
namespace HH
open PySem
inductive Dc where|k(kvs:List (Int×Int))|t(kvs:List (List Int×Int))deriving DecidableEq
inductive D where|non|bl(b:Bool)|int(i:Int)|str(s:Str)|tup(ds:List D)|lst(ds:List D)|dq(m:Dc)|dv(ks:List Int)(ds:List D)deriving Inhabited
mutual
noncomputable def jg:D->D->Bool|.non,.non=>true|.bl a,.bl b=>a==b|.bl a,.int i=>(if a then(1:Int)else 0)==i|.int i,.bl a=>i==(if a then(1:Int)else 0)|.int i,.int j=>i==j|.str a,.str b=>a==b|.tup xs,.tup ys=>jb xs ys|.lst xs,.lst ys=>jb xs ys|.dq a,.dq b=>decide (a=b)|.dv a xs,.dv b ys=>decide (a=b)&&jb xs ys|_,_=>false
noncomputable def jb:List D->List D->Bool|[],[]=>true|x::xs,y::ys=>jg x y&&jb xs ys|_,_=>false
end
theorem kE:jb [] []=true:=rfl
theorem iH{x y:D}{xs ys:List D}:jb (x::xs) (y::ys)=(jg x y&&jb xs ys):=rfl
theorem qL{y:D}{ys:List D}:jb [] (y::ys)=false:=rfl
theorem ql{x:D}{xs:List D}:jb (x::xs) []=false:=rfl
theorem pqi{i j}:jg (.int i) (.int j)=(i==j):=(rfl)
theorem pqt{x y}:jg (.tup x) (.tup y)=jb x y:=(rfl)
theorem ZC{x y}:jg (.lst x) (.lst y)=jb x y:=(rfl)
noncomputable def gP:Nat->D->Bool|_,.non=>true|_,.bl _=>true|_,.int _=>true|_,.str _=>true|0,.tup _=>false|0,.lst _=>false|_,.dq _=>false|_,.dv _ _=>false|n+1,.tup a=>a.all (gP n)|n+1,.lst a=>a.all (gP n)
theorem bI{n:Nat}{a:List D}:gP (n+1) (.tup a)=a.all (gP n):=rfl
theorem bC{n:Nat}{a:List D}:gP (n+1) (.lst a)=a.all (gP n):=rfl
theorem bF{n:Nat}{m:Dc}:gP n (.dq m)=false:=by cases n<;>rfl
theorem bG{n:Nat}{k:List Int}{a:List D}:gP n (.dv k a)=false:=by cases n<;>rfl
theorem bK{a:List D}:gP 0 (.tup a)=false:=rfl
theorem bJ{a:List D}:gP 0 (.lst a)=false:=rfl
inductive Sl where|aW|val(b:Bool)(d:D)|own(b:Bool)(ds:List D)|lent(ds:List D)|gA(m:Dc)|hold(rows:List (List D))|di(kvs:List (Int×D))deriving Inhabited
inductive R where|val(d:D)|own(ds:List D)deriving Inhabited
noncomputable def R.d:R->D|.val d=>d|.own a=>.lst a
inductive Res(α:Type)where|ok(a:α)(ρ:List Sl)|exc(k:Nat)(ρ:List Sl)|stuck deriving Inhabited
noncomputable def Res.bind{b c:Type}(f:b->List Sl->Res c):Res b->Res c|.ok a ρ=>f a ρ|.exc _ _=>.stuck|.stuck=>.stuck
noncomputable def lift{b:Type}(o:Option b)(ρ:List Sl):Res b:=match o with|some a=>.ok a ρ|none=>.stuck
inductive Op where|add|sub|mul|fdiv|mod|pow|shl|shr|band|Ej|din|adQ deriving DecidableEq
inductive Cm where|eq|ne|lt|le|gt|ge|isN|Nk|inn|Cr|isT|Y9|leT deriving DecidableEq
inductive Ty where|int|bool|str|tuple|list|none deriving DecidableEq
inductive WM where|len|list|tuple|min2|max2|JH|sum|int|Cu|rvs|keys|Wn|rvT|JK|JL|Ek deriving DecidableEq
inductive P where|var(i:Nat)|con(d:D)|bin(o:Op)(a b:P)|neg(a:P)|not(a:P)|and(a b:P)|or(a b:P)|cmp(o:Cm)(a b:P)|chain(o o':Cm)(a b c:P)|Nm(c a b:P)|tup(as:List P)|lst(as:List P)|idx(a i:P)|slice(a lo hi:P)|call(f:Nat)(as:List P)|blt(b:WM)(as:List P)|comp(src:P)(n:Nat)(is:List Nat)(one:Bool)(test:Option P)(elt:P)|yc(a b:P)|zip(a b:P)|Uv(x:Nat)(k d:P)|vw(x:Nat)|PX(x:Nat)(k:P)|P0(x:Nat)(k:P)(neg:Bool)|zU(k e:Int)deriving Inhabited
noncomputable abbrev lim:Nat:=16777216
noncomputable def qd:D->D->Option R|.int i,.int j=>some (.val (.int (i+j)))|.lst xs,.lst ys=>if xs.length+ys.length<=lim then some (.own (xs++ys))else none|.tup xs,.tup ys=>if xs.length+ys.length<=lim then some (.val (.tup (xs++ys)))else none|.str x,.str y=>if x.length+y.length<=lim then some (.val (.str (x++y)))else none|_,_=>none
noncomputable def jA:D->D->Option R|.int i,.int j=>if((-18446744073709551616<i/\i<18446744073709551616)\/(-18446744073709551616<j/\j<18446744073709551616))then some (.val (.int (i*j)))else none|.lst xs,.int k=>if 0<=k/\0<xs.length/\xs.length*k.toNat<=lim then some (.own (replicate k.toNat xs).flatten)else none|.tup xs,.int k=>if 0<=k/\0<xs.length/\xs.length*k.toNat<=lim then some (.val (.tup (replicate k.toNat xs).flatten))else none|_,_=>none
noncomputable def xU:D->D->Option R|.int i,.int j=>some (.val (.int (i-j)))|_,_=>none
noncomputable def pN:D->D->Option R|.int i,.int j=>if 0<j/\j<1606938044258990275541962092341162602522202993782792835301376 then some (.val (.int (i/j)))else none|_,_=>none
noncomputable def xH:D->D->Option R|.int i,.int j=>if 0<j then some (.val (.int (i%j)))else none|_,_=>none
noncomputable def wC:D->D->Option R|.int i,.int j=>if 0<=j/\j<=1000/\i.natAbs<18446744073709551616 then some (.val (.int (i^j.toNat)))else none|_,_=>none
noncomputable def Jk:D->D->Option R|.int i,.int j=>if 0<=j/\j<=1000/\i.natAbs<18446744073709551616 then some (.val (.int (i*2^j.toNat)))else none|_,_=>none
noncomputable def Jq:D->D->Option R|.int i,.int j=>if 0<=j then some (.val (.int (i/2^j.toNat)))else none|_,_=>none
noncomputable def yS:D->D->Option R|.int i,.int j=>some (.val (.int (Builtin.bitAnd i j)))|_,_=>none
noncomputable def flat:D->Bool|.tup _=>false|.lst _=>false|.dq _=>false|.dv _ _=>false|_=>true
noncomputable def items:D->Option (List D)|.lst a=>some a|.tup a=>some a|_=>none
noncomputable def S7:D->Option (List D)|.tup a=>some a|_=>none
noncomputable def uJ(x y:D):Option Bool:=if gP 8 x&&gP 8 y then some (jg x y)else none
noncomputable def yV(x y:D):Option Bool:=if gP 8 x&&gP 8 y then some (!jg x y)else none
noncomputable def J7(f:Int->Int->Bool):D->D->Option Bool|.int i,.int j=>some (f i j)|_,_=>none
noncomputable def jC:D->Bool|.non=>true|_=>false
noncomputable def cmN(neg:Bool)(x:D):D->Option Bool|.non=>some (if neg then !jC x else jC x)|_=>none
noncomputable def Gv(neg:Bool)(x y:D):Option Bool:=(items y).bind λys=>if(flat x&&ys.all flat)=true then some (if neg then !(ys.any λy=>jg y x)else ys.any λy=>jg y x)else none
noncomputable def cmT(neg:Bool):D->D->Option Bool|.bl b,.bl true=>some (if neg then !b else b)|_,_=>none
noncomputable def aZ:List Int->List Int->Bool|[],_::_=>true|i::is,j::js=>decide (i<j)||(decide (i=j)&&aZ is js)|_,[]=>false
noncomputable def rN:D->Int|.int i=>i|_=>0
noncomputable def cC:D->List Int|.int i=>[i]|.tup a=>a.map rN|_=>[]
noncomputable def gC:D->Bool|.int _=>true|_=>false
noncomputable def Dc.get:Dc->D->Option (Option Int)|.k kvs,.int i=>some ((kvs.find? λa=>decide (a.1=i)).map (·.2))|_,_=>none
noncomputable def putD{κ:Type}[DecidableEq κ](kvs:List (κ×Int))(k:κ)(v:Int):List (κ×Int):=if(kvs.any λa=>decide (a.1=k))=true then kvs.map (λa=>if a.1=k then(a.1,v)else a)else kvs++[(k,v)]
noncomputable def Dc.put:Dc->D->Int->Option Dc|.k kvs,.int i,v=>if kvs.length<lim then some (.k (putD kvs i v))else none|_,_,_=>none
noncomputable def kW(kvs:List (Int×D))(k:Int):Option D:=(kvs.find? λp=>decide (p.1=k)).map (·.2)
noncomputable def gD(kvs:List (Int×D))(k:Int)(d:D):List (Int×D):=if(kvs.any λp=>decide (p.1=k))=true then kvs.map (λp=>if p.1=k then(p.1,d)else p)else kvs++[(k,d)]
noncomputable def wD(neg:Bool):D->D->Option R|.int k,.dv ks _=>some (.val (.bl (if neg then !ks.contains k else ks.contains k)))|_,_=>none
noncomputable def Be:D->D->Option R|.dq m,k=>(m.get k).bind λo=>o.map λv=>.val (.int v)|.dv ks a,.int k=>(kW (ks.zip a) k).map .val|_,_=>none
noncomputable def rM:Op->D->D->Option R|.add=>qd|.mul=>jA|.sub=>xU|.fdiv=>pN|.mod=>xH|.pow=>wC|.shl=>Jk|.shr=>Jq|.band=>yS|.Ej=>Be|.din=>wD false|.adQ=>wD true
noncomputable def XH:D->D->Option Bool|.int i,.int j=>some (decide (i<j))|.tup xs,.tup ys=>if(xs.all gC&&ys.all gC)=true then some (aZ (xs.map rN) (ys.map rN))else none|_,_=>none
noncomputable def acy:D->D->Option Bool|.int i,.int j=>some (decide (i<=j))|.tup xs,.tup ys=>if(xs.all gC&&ys.all gC)=true then some (!aZ (ys.map rN) (xs.map rN))else none|_,_=>none
noncomputable def cm:Cm->D->D->Option Bool|.eq=>uJ|.ne=>yV|.lt=>XH|.le=>J7 λi j=>decide (i<=j)|.leT=>acy|.gt=>J7 λi j=>decide (j<i)|.ge=>J7 λi j=>decide (j<=i)|.isN=>cmN false|.Nk=>cmN true|.inn=>Gv false|.Cr=>Gv true|.isT=>cmT false|.Y9=>cmT true
noncomputable def o8(o:Cm)(x y:D):Option R:=(cm o x y).map λk=>.val (.bl k)
noncomputable def iW(n:Nat)(i:Int):Option Nat:=if 0<=i then(if i<n then some i.toNat else none)else if-(n:Int)<=i then some (i+n).toNat else none
noncomputable def at'{a:Type}(xs:List a)(i:Int):Option a:=(iW xs.length i).bind λj=>xs[j]?
noncomputable def du(n d:Nat):Option Int->Nat|none=>d|some i=>if 0<=i then min i.toNat n else(i+n).toNat
noncomputable def cut{a:Type}(xs:List a)(lo hi:Option Int):List a:=(xs.drop (du xs.length 0 lo)).take (du xs.length xs.length hi-du xs.length 0 lo)
noncomputable def gF:D->Option Int|.int i=>some i|_=>none
noncomputable def Wd:D->Option Bool|.bl b=>some b|_=>none
noncomputable def dl2(k e:Int)(x y:D):Option R:=(gF x).bind λi=>(gF y).bind λj=>if i=k then none else some (.val (.dv [k,i] [.int e,.int j]))
noncomputable def lixR:D->D->Option R|.lst a,.int i=>(a.mapM gF).bind λns=>if i∈ns/\ns.length<=1000 then some (.val (.int (ns.idxOf i)))else none|_,_=>none
noncomputable def Dn(x y:D):Option R:=(items x).bind λa=>(gF y).bind λi=>(at' a i).map .val
noncomputable def HQ(x:D):Option R:=(gF x).map λi=>.val (.int (-i))
noncomputable def Qx:P->Bool|.con .non=>true|_=>false
noncomputable def part(p:P)(d:D):Option (Option Int):=if Qx p then some none else(gF d).map some
noncomputable def Mh:D->Option (Option Int)->Option (Option Int)->Option R|.lst xs,some lo,some hi=>some (.own (cut xs lo hi))|.tup xs,some lo,some hi=>some (.val (.tup (cut xs lo hi)))|_,_,_=>none
noncomputable def dg:Ty->D->Bool|.int,.int _=>true|.int,.bl _=>true|.bool,.bl _=>true|.str,.str _=>true|.tuple,.tup _=>true|.list,.lst _=>true|.none,.non=>true|_,_=>false
noncomputable def uz:D->Bool|.tup (x::xs)=>(x::xs).all gC|_=>false
noncomputable def sortable(ds:List D):Bool:=decide (ds.length<=16777216)&&(ds.all gC||ds.all uz)
noncomputable def nQ(c:List D):List D:=c.mergeSort λa b=>!aZ (cC b) (cC a)
noncomputable def R6:D->Option (List D)|.lst a=>some a|_=>none
noncomputable def cF(p:Int×Int):D:=.tup [.int p.1,.int p.2]
noncomputable def blt:WM->List D->Option R|.len,[x]=>(items x).map λc=>.val (.int c.length)|.list,[x]=>(items x).map λc=>.own c|.tuple,[x]=>(items x).map λc=>.val (.tup c)|.min2,[.int i,.int j]=>some (.val (.int (if j<i then j else i)))|.max2,[.int i,.int j]=>some (.val (.int (if i<j then j else i)))|.JH,[x]=>((items x).bind λc=>c.mapM gF).bind λns=>ns.min?.map λi=>.val (.int i)|.sum,[x]=>((items x).bind λc=>c.mapM gF).map λns=>.val (.int ns.sum)|.Ek,[x]=>((items x).bind λc=>c.mapM gF).map λns=>.val (.int (ns.max?.getD 0))|.int,[.int i]=>some (.val (.int i))|.int,[.bl b]=>some (.val (.int (if b then 1 else 0)))|.Cu,[.lst c]=>if c.length<=16777216 then some (.own c)else none|.rvs,[.tup c]=>some (.val (.tup c.reverse))|.keys,[.dq (.k kvs)]=>some (.val (.tup (kvs.map λp=>.int p.1)))|.keys,[.dv ks _]=>some (.val (.tup (ks.map D.int)))|.Wn,[.dv ks _]=>if ks.length<=16777216 then some (.own (ks.map D.int))else none|.rvT,[.lst c]=>some (.val (.tup c.reverse))|.JK,[.dq (.k kvs)]=>if kvs.length<=16777216/\kvs.Pairwise (λa b=>a.1<b.1)then some (.own (kvs.map cF))else none|.JL,[.dq (.k kvs)]=>if kvs.length<64 then some (.own (nQ (kvs.map cF)))else none|_,_=>none
noncomputable def pk(ρ:List Sl)(i:Nat):Option D:=match ρ[i]?with|some (.val _ d)=>some d|some (.own _ a)=>some (.lst a)|some (.lent a)=>some (.lst a)|_=>none
noncomputable def BW(ρ:List Sl)(i:Nat):Option (List D):=match pk ρ i with|some (.lst a)=>some a|_=>none
noncomputable abbrev Ev:=List Sl->Res R
noncomputable def isVar:P->Option Nat|.var i=>some i|_=>none
noncomputable def cH(i:Option Nat)(e:Ev)(ρ:List Sl):Res D:=match i with|some i=>lift (pk ρ i) ρ|none=>(e ρ).bind λr ρ=>.ok r.d ρ
noncomputable def ie(i:Option Nat)(e:Ev)(j:Option Nat)(f:Ev)(ρ:List Sl):Res (D×D):=match i with|some i=>(lift (pk ρ i) ρ).bind λ_ ρ=>(cH j f ρ).bind λy ρ=>(lift (pk ρ i) ρ).bind λx ρ=>.ok (x,y) ρ|none=>(cH none e ρ).bind λx ρ=>(cH j f ρ).bind λy ρ=>.ok (x,y) ρ
noncomputable def jM(e:Ev)(ρ:List Sl):Res Bool:=(e ρ).bind λr ρ=>lift (Wd r.d) ρ
inductive Arg where|dat(d:D)|tmp(ds:List D)|fc(i:Nat)
noncomputable def tH:R->Arg|.val d=>.dat d|.own a=>.tmp a
noncomputable def bQ(ρ:List Sl):List Arg->List Nat->Option (List Sl)|[],_=>some []|.dat d::r,a=>(bQ ρ r a).map λs=>.val false d::s|.tmp b::r,a=>(bQ ρ r a).map λs=>.own false b::s|.fc i::r,a=>match ρ[i]?with|some (.val _ d)=>(bQ ρ r a).map λs=>.val false d::s|some (.own _ b)=>if a.contains i then none else(bQ ρ r (i::a)).map λs=>.own true b::s|some (.lent b)=>if a.contains i then none else(bQ ρ r (i::a)).map λs=>.lent b::s|_=>none
theorem zA{ρ:List Sl}{u:List Nat}:bQ ρ [] u=some []:=rfl
theorem yW{ρ:List Sl}{d:D}{r:List Arg}{u:List Nat}:bQ ρ (.dat d::r) u=(bQ ρ r u).map λs=>.val false d::s:=rfl
theorem yx{ρ:List Sl}{d:List D}{r:List Arg}{u:List Nat}:bQ ρ (.tmp d::r) u=(bQ ρ r u).map λs=>.own false d::s:=rfl
theorem pP{ρ:List Sl}{i:Nat}{r:List Arg}{u:List Nat}:bQ ρ (.fc i::r) u=match ρ[i]?with|some (.val _ d)=>(bQ ρ r u).map λs=>.val false d::s|some (.own _ a)=>if u.contains i then none else(bQ ρ r (i::u)).map λs=>.own true a::s|some (.lent a)=>if u.contains i then none else(bQ ρ r (i::u)).map λs=>.lent a::s|_=>none:=rfl
noncomputable def aR(i:Nat):List Arg->List Sl->Option Sl|.fc k::as,s::ss=>if k=i then some s else aR i as ss|.dat _::as,_::ss=>aR i as ss|.tmp _::as,_::ss=>aR i as ss|_,_=>none
noncomputable def dJ:Sl->Option Sl->Sl|.own b _,some (.own _ a)=>.own b a|.own b _,some (.val _ d)=>.val b d|s,_=>s
noncomputable def dR(as:List Arg)(ss:List Sl):Nat->List Sl->List Sl|_,[]=>[]|i,s::ρ=>dJ s (aR i as ss)::dR as ss (i+1) ρ
theorem qe{as:List Arg}{ss:List Sl}{i:Nat}:dR as ss i []=[]:=rfl
theorem j7{as:List Arg}{ss:List Sl}{i:Nat}{s:Sl}{ρ:List Sl}:dR as ss i (s::ρ)=dJ s (aR i as ss)::dR as ss (i+1) ρ:=rfl
noncomputable abbrev Call:=Nat->List Sl->Res R
noncomputable def p7(c:Call)(f:Nat)(as:List Arg)(ρ:List Sl):Res R:=match bQ ρ as []with|none=>.stuck|some args=>match c f args with|.ok r a=>.ok r (dR as a 0 ρ)|.exc _ _=>.stuck|.stuck=>.stuck
noncomputable def put(ρ:List Sl)(i:Nat)(s:Sl):Option (List Sl):=match ρ[i]?with|some .aW=>some (ρ.set i s)|some (.val false _)=>some (ρ.set i s)|some (.own false _)=>some (ρ.set i s)|_=>none
noncomputable def putAll(ρ:List Sl):List Nat->List D->Option (List Sl)|[],[]=>some ρ|i::is,d::a=>(put ρ i (.val false d)).bind λρ=>putAll ρ is a|_,_=>none
theorem jz{ρ:List Sl}:putAll ρ [] []=some ρ:=rfl
theorem iI{ρ:List Sl}{i:Nat}{is:List Nat}{d:D}{a:List D}:putAll ρ (i::is) (d::a)=(put ρ i (.val false d)).bind λρ=>putAll ρ is a:=rfl
theorem mU{ρ:List Sl}{i:Nat}{is:List Nat}:putAll ρ (i::is) []=none:=rfl
theorem m7{ρ:List Sl}{d:D}{a:List D}:putAll ρ [] (d::a)=none:=rfl
noncomputable def cP(ρ:List Sl)(is:List Nat)(one:Bool)(d:D):Option (List Sl):=match one,is,d with|true,[i],d=>put ρ i (.val false d)|false,is,.tup a=>putAll ρ is a|_,_,_=>none
noncomputable def srcOf(i:Option Nat)(e:Ev)(ρ:List Sl):Res (List D):=match i with
 |some i=>match ρ[i]?with|some (.val _ d)=>lift (items d) ρ|some (.own _ a)=>.ok a (ρ.set i (.lent a))|some (.lent a)=>.ok a ρ|_=>.stuck
 |none=>(e ρ).bind λr ρ=>lift (items r.d) ρ
noncomputable def bj(a:List Sl)(i:Option Nat)(ρ:List Sl):List Sl:=match i with
 |some i=>match a[i]?with|some (.own b c)=>ρ.set i (.own b c)|_=>ρ
 |none=>ρ
noncomputable def srcY(i:Nat)(f:Ev)(ρ:List Sl):Res (List D×List Sl):=(f ρ).bind λr a=>(lift (items r.d) a).bind λes a=>match a[i]?with|some (.val _ d)=>(lift (items d) a).bind λb a=>.ok ((es.zip b).map λp=>D.tup [p.1,p.2],a) a|some (.own _ b)=>.ok ((es.zip b).map λp=>D.tup [p.1,p.2],a) (a.set i (.lent b))|some (.lent b)=>.ok ((es.zip b).map λp=>D.tup [p.1,p.2],a) a|_=>.stuck
noncomputable def turns(is:List Nat)(one:Bool)(a:List Sl->Res Bool)(e:Ev):List D->List D->List Sl->Res (List D)|[],c,ρ=>.ok c ρ|d::r,c,ρ=>match cP ρ is one d with|none=>.stuck|some ρ=>(a ρ).bind λb ρ=>if b then(e ρ).bind λx ρ=>turns is one a e r (c++[x.d]) ρ else turns is one a e r c ρ
theorem Gi{is:List Nat}{o:Bool}{f:List Sl->Res Bool}{e:Ev}{a:List D}{ρ:List Sl}:turns is o f e [] a ρ=.ok a ρ:=rfl
theorem Fo{is:List Nat}{o:Bool}{f:List Sl->Res Bool}{e:Ev}{d:D}{r a:List D}{ρ:List Sl}:turns is o f e (d::r) a ρ=match cP ρ is o d with|none=>.stuck|some ρ=>(f ρ).bind λb ρ=>if b then(e ρ).bind λx ρ=>turns is o f e r (a++[x.d]) ρ else turns is o f e r a ρ:=rfl
mutual
noncomputable def ev(c:Call):P->List Sl->Res R
 |.var i,ρ=>match ρ[i]?with|some (.val _ d)=>.ok (.val d) ρ|some (.own b g)=>.ok (.val (.lst g)) (ρ.set i (.val b (.lst g)))|some (.gA (.k kvs))=>.ok (.val (.dq (.k kvs))) (ρ.set i (.val false (.dq (.k kvs))))|some (.di kvs)=>.ok (.val (.dv (kvs.map (·.1)) (kvs.map (·.2)))) (ρ.set i (.val false (.dv (kvs.map (·.1)) (kvs.map (·.2)))))|_=>.stuck
 |.con d,ρ=>.ok (.val d) ρ|.bin o a b,ρ=>(ie (isVar a) (ev c a) (isVar b) (ev c b) ρ).bind λq ρ=>lift (rM o q.1 q.2) ρ|.neg a,ρ=>(cH (isVar a) (ev c a) ρ).bind λx ρ=>lift (HQ x) ρ|.not a,ρ=>(jM (ev c a) ρ).bind λb ρ=>.ok (.val (.bl (!b))) ρ|.and a b,ρ=>(jM (ev c a) ρ).bind λx ρ=>if x then(jM (ev c b) ρ).bind λy ρ=>.ok (.val (.bl y)) ρ else .ok (.val (.bl false)) ρ|.or a b,ρ=>(jM (ev c a) ρ).bind λx ρ=>if x then .ok (.val (.bl true)) ρ else(jM (ev c b) ρ).bind λy ρ=>.ok (.val (.bl y)) ρ|.cmp o a b,ρ=>(ie (isVar a) (ev c a) (isVar b) (ev c b) ρ).bind λq ρ=>lift (o8 o q.1 q.2) ρ|.chain o C a b d,ρ=>(ie (isVar a) (ev c a) (isVar b) (ev c b) ρ).bind λq ρ=>(lift (if flat q.2=true then cm o q.1 q.2 else none) ρ).bind λk ρ=>if k then(cH (isVar d) (ev c d) ρ).bind λz ρ=>lift (o8 C q.2 z) ρ else .ok (.val (.bl false)) ρ|.Nm t a b,ρ=>(jM (ev c t) ρ).bind λk ρ=>if k then(ev c a ρ).bind λr ρ=>.ok (.val r.d) ρ else(ev c b ρ).bind λr ρ=>.ok (.val r.d) ρ|.tup as,ρ=>(evs c as ρ).bind λg ρ=>.ok (.val (.tup g)) ρ|.lst as,ρ=>(evs c as ρ).bind λg ρ=>.ok (.own g) ρ|.idx a i,ρ=>(ie (isVar a) (ev c a) (isVar i) (ev c i) ρ).bind λq ρ=>lift (Dn q.1 q.2) ρ|.slice a l h,ρ=>match isVar a with|some i=>(lift (pk ρ i) ρ).bind λ_ ρ=>(cH (isVar l) (ev c l) ρ).bind λy ρ=>(cH (isVar h) (ev c h) ρ).bind λz ρ=>(lift (pk ρ i) ρ).bind λx ρ=>lift (Mh x (part l y) (part h z)) ρ|none=>(cH none (ev c a) ρ).bind λx ρ=>(cH (isVar l) (ev c l) ρ).bind λy ρ=>(cH (isVar h) (ev c h) ρ).bind λz ρ=>lift (Mh x (part l y) (part h z)) ρ
 |.call f as,ρ=>(zL c as ρ).bind λxs ρ=>p7 c f xs ρ|.blt b [a],ρ=>(cH (isVar a) (ev c a) ρ).bind λx ρ=>lift (blt b [x]) ρ|.blt b as,ρ=>(evs c as ρ).bind λg ρ=>lift (blt b g) ρ|.comp src n is one w B,ρ=>(srcOf (isVar src) (ev c src) ρ).bind λg s=>if g.length<=lim then(turns is one (vU c w) (ev c B) g [] (s++replicate n .aW)).bind λxs u=>.ok (.own xs) (bj ρ (isVar src) (u.take s.length))else .stuck|.yc a b,ρ=>(ie (isVar a) (ev c a) (isVar b) (ev c b) ρ).bind λq ρ=>lift ((gF q.1).bind λi=>(gF q.2).bind λj=>if-1000000<=i/\i<=1000000000/\j<=1000000000/\-1000000000<=j then some (.val (.lst ((List.range (j-i).toNat).map λ(k:Nat)=>D.int (i+(k:Int)))))else none) ρ|.zip a b,ρ=>(ev c a ρ).bind λx ρ=>(ev c b ρ).bind λy ρ=>lift ((items x.d).bind λg=>(items y.d).map λes=>.val (.lst ((g.zip es).map λp=>D.tup [p.1,p.2]))) ρ|.Uv x k d,ρ=>match ρ[x]?with
   |some (.gA _)=>(cH (isVar k) (ev c k) ρ).bind λA ρ=>(cH (isVar d) (ev c d) ρ).bind λE ρ=>match ρ[x]?with|some (.gA m)=>lift ((m.get A).bind λo=>(gF E).map λv=>.val (.int (o.getD v))) ρ|_=>.stuck
   |_=>.stuck
 |.vw x,ρ=>match ρ[x]?with|some (.gA m)=>.ok (.val (.dq m)) (ρ.set x (.val false (.dq m)))|some (.di kvs)=>.ok (.val (.dv (kvs.map (·.1)) (kvs.map (·.2)))) (ρ.set x (.val false (.dv (kvs.map (·.1)) (kvs.map (·.2)))))|some (.own b g)=>.ok (.val (.lst g)) (ρ.set x (.val b (.lst g)))|some (.val _ d)=>.ok (.val d) ρ|_=>.stuck
 |.PX x k,ρ=>match ρ[x]?with
   |some (.di _)=>(cH (isVar k) (ev c k) ρ).bind λA ρ=>match ρ[x]?with|some (.di kvs)=>lift ((gF A).bind λk=>(kW kvs k).map .val) ρ|_=>.stuck
   |_=>.stuck
 |.P0 x k neg,ρ=>(cH (isVar k) (ev c k) ρ).bind λA ρ=>match ρ[x]?with|some (.di kvs)=>lift ((gF A).map λk=>.val (.bl (if neg then !(kvs.map (·.1)).contains k else(kvs.map (·.1)).contains k))) ρ|_=>.stuck
 |.zU k e,ρ=>.ok (.val (.dv [k] [.int e])) ρ
noncomputable def evs(c:Call):List P->List Sl->Res (List D)|[],ρ=>.ok [] ρ|a::r,ρ=>(ev c a ρ).bind λx ρ=>(evs c r ρ).bind λxs ρ=>.ok (x.d::xs) ρ
noncomputable def zL(c:Call):List P->List Sl->Res (List Arg)|[],ρ=>.ok [] ρ|a::r,ρ=>match isVar a with|some i=>(lift (pk ρ i) ρ).bind λ_ ρ=>(zL c r ρ).bind λxs ρ=>.ok (.fc i::xs) ρ|none=>(ev c a ρ).bind λx ρ=>(zL c r ρ).bind λxs ρ=>.ok (tH x::xs) ρ
noncomputable def vU(c:Call):Option P->List Sl->Res Bool|none,ρ=>.ok true ρ|some t,ρ=>jM (ev c t) ρ
end
theorem Hf{c:Call}{ρ:List Sl}:evs c [] ρ=.ok [] ρ:=rfl
theorem FP{c:Call}{a:P}{r:List P}{ρ:List Sl}:evs c (a::r) ρ=(HH.ev c a ρ).bind λx ρ=>(evs c r ρ).bind λxs ρ=>.ok (x.d::xs) ρ:=rfl
theorem Jl{c:Call}{ρ:List Sl}:zL c [] ρ=.ok [] ρ:=rfl
theorem zp{c:Call}{a:P}{r:List P}{ρ:List Sl}:zL c (a::r) ρ=match isVar a with|some i=>(lift (pk ρ i) ρ).bind λ_ ρ=>(zL c r ρ).bind λxs ρ=>.ok (.fc i::xs) ρ|none=>(HH.ev c a ρ).bind λx ρ=>(zL c r ρ).bind λxs ρ=>.ok (tH x::xs) ρ:=rfl
theorem E1{c i ρ}:ev c (.var i) ρ=match ρ[i]?with|some (.val _ d)=>.ok (.val d) ρ|some (.own b a)=>.ok (.val (.lst a)) (ρ.set i (.val b (.lst a)))|some (.gA (.k kvs))=>.ok (.val (.dq (.k kvs))) (ρ.set i (.val false (.dq (.k kvs))))|some (.di kvs)=>.ok (.val (.dv (kvs.map (·.1)) (kvs.map (·.2)))) (ρ.set i (.val false (.dv (kvs.map (·.1)) (kvs.map (·.2)))))|_=>.stuck:=(rfl)
theorem E2{c d ρ}:ev c (.con d) ρ=.ok (.val d) ρ:=(rfl)
theorem E3{c o a b ρ}:ev c (.bin o a b) ρ=(ie (isVar a) (ev c a) (isVar b) (ev c b) ρ).bind λe ρ=>lift (rM o e.1 e.2) ρ:=(rfl)
theorem E4{c a ρ}:ev c (.neg a) ρ=(cH (isVar a) (ev c a) ρ).bind λx ρ=>lift (HQ x) ρ:=(rfl)
theorem E5{c a ρ}:ev c (.not a) ρ=(jM (ev c a) ρ).bind λb ρ=>.ok (.val (.bl (!b))) ρ:=(rfl)
theorem E6{c a b ρ}:ev c (.and a b) ρ=(jM (ev c a) ρ).bind λx ρ=>if x then(jM (ev c b) ρ).bind λy ρ=>.ok (.val (.bl y)) ρ else .ok (.val (.bl false)) ρ:=(rfl)
theorem E7{c a b ρ}:ev c (.or a b) ρ=(jM (ev c a) ρ).bind λx ρ=>if x then .ok (.val (.bl true)) ρ else(jM (ev c b) ρ).bind λy ρ=>.ok (.val (.bl y)) ρ:=(rfl)
theorem E8{c o a b ρ}:ev c (.cmp o a b) ρ=(ie (isVar a) (ev c a) (isVar b) (ev c b) ρ).bind λe ρ=>lift (o8 o e.1 e.2) ρ:=(rfl)
theorem E9{c o o' a b d ρ}:ev c (.chain o o' a b d) ρ=(ie (isVar a) (ev c a) (isVar b) (ev c b) ρ).bind λe ρ=>(lift (if flat e.2=true then cm o e.1 e.2 else none) ρ).bind λk ρ=>if k then(cH (isVar d) (ev c d) ρ).bind λz ρ=>lift (o8 o' e.2 z) ρ else .ok (.val (.bl false)) ρ:=(rfl)
theorem E10{c t a b ρ}:ev c (.Nm t a b) ρ=(jM (ev c t) ρ).bind λk ρ=>if k then(ev c a ρ).bind λr ρ=>.ok (.val r.d) ρ else(ev c b ρ).bind λr ρ=>.ok (.val r.d) ρ:=(rfl)
theorem E11{c as ρ}:ev c (.tup as) ρ=(evs c as ρ).bind λa ρ=>.ok (.val (.tup a)) ρ:=(rfl)
theorem E12{c as ρ}:ev c (.lst as) ρ=(evs c as ρ).bind λa ρ=>.ok (.own a) ρ:=(rfl)
theorem E13{c a i ρ}:ev c (.idx a i) ρ=(ie (isVar a) (ev c a) (isVar i) (ev c i) ρ).bind λb ρ=>lift (Dn b.1 b.2) ρ:=(rfl)
theorem E14{c a l h ρ}:ev c (.slice a l h) ρ=match isVar a with|some i=>(lift (pk ρ i) ρ).bind λ_ ρ=>(cH (isVar l) (ev c l) ρ).bind λy ρ=>(cH (isVar h) (ev c h) ρ).bind λz ρ=>(lift (pk ρ i) ρ).bind λx ρ=>lift (Mh x (part l y) (part h z)) ρ|none=>(cH none (ev c a) ρ).bind λx ρ=>(cH (isVar l) (ev c l) ρ).bind λy ρ=>(cH (isVar h) (ev c h) ρ).bind λz ρ=>lift (Mh x (part l y) (part h z)) ρ:=(rfl)
theorem E15{c f as ρ}:ev c (.call f as) ρ=(zL c as ρ).bind λxs ρ=>p7 c f xs ρ:=(rfl)
theorem E16{c b a ρ}:ev c (.blt b [a]) ρ=(cH (isVar a) (ev c a) ρ).bind λx ρ=>lift (blt b [x]) ρ:=(rfl)
theorem E17{c b x y r ρ}:ev c (.blt b (x::y::r)) ρ=(evs c (x::y::r) ρ).bind λa ρ=>lift (blt b a) ρ:=(rfl)
theorem Xb{c b ρ}:ev c (.blt b []) ρ=(evs c [] ρ).bind λa ρ=>lift (blt b a) ρ:=(rfl)
theorem E18{c src n is one test elt ρ}:ev c (.comp src n is one test elt) ρ=(srcOf (isVar src) (ev c src) ρ).bind λe a=>if e.length<=lim then(turns is one (vU c test) (ev c elt) e [] (a++replicate n .aW)).bind λxs b=>.ok (.own xs) (bj ρ (isVar src) (b.take a.length))else .stuck:=(rfl)
theorem E19{c a b ρ}:ev c (.yc a b) ρ=(ie (isVar a) (ev c a) (isVar b) (ev c b) ρ).bind λe ρ=>lift ((gF e.1).bind λi=>(gF e.2).bind λj=>if-1000000<=i/\i<=1000000000/\j<=1000000000/\-1000000000<=j then some (.val (.lst ((List.range (j-i).toNat).map λ(k:Nat)=>D.int (i+(k:Int)))))else none) ρ:=(rfl)
theorem E20{c a b ρ}:ev c (.zip a b) ρ=(ev c a ρ).bind λx ρ=>(ev c b ρ).bind λy ρ=>lift ((items x.d).bind λe=>(items y.d).map λes=>.val (.lst ((e.zip es).map λp=>D.tup [p.1,p.2]))) ρ:=(rfl)
theorem E21{c x k d ρ}:ev c (.Uv x k d) ρ=match ρ[x]?with
 |some (.gA _)=>(cH (isVar k) (ev c k) ρ).bind λa ρ=>(cH (isVar d) (ev c d) ρ).bind λb ρ=>match ρ[x]?with|some (.gA m)=>lift ((m.get a).bind λo=>(gF b).map λv=>.val (.int (o.getD v))) ρ|_=>.stuck
 |_=>.stuck:=(rfl)
theorem E22{c x ρ}:ev c (.vw x) ρ=match ρ[x]?with|some (.gA m)=>.ok (.val (.dq m)) (ρ.set x (.val false (.dq m)))|some (.di kvs)=>.ok (.val (.dv (kvs.map (·.1)) (kvs.map (·.2)))) (ρ.set x (.val false (.dv (kvs.map (·.1)) (kvs.map (·.2)))))|some (.own b a)=>.ok (.val (.lst a)) (ρ.set x (.val b (.lst a)))|some (.val _ d)=>.ok (.val d) ρ|_=>.stuck:=(rfl)
theorem E23{c x k ρ}:ev c (.PX x k) ρ=match ρ[x]?with
 |some (.di _)=>(cH (isVar k) (ev c k) ρ).bind λa ρ=>match ρ[x]?with|some (.di kvs)=>lift ((gF a).bind λk=>(kW kvs k).map .val) ρ|_=>.stuck
 |_=>.stuck:=(rfl)
theorem E24{c x k neg ρ}:ev c (.P0 x k neg) ρ=(cH (isVar k) (ev c k) ρ).bind λa ρ=>match ρ[x]?with|some (.di kvs)=>lift ((gF a).map λk=>.val (.bl (if neg then !(kvs.map (·.1)).contains k else(kvs.map (·.1)).contains k))) ρ|_=>.stuck:=(rfl)
theorem E25{c k e ρ}:ev c (.zU k e) ρ=.ok (.val (.dv [k] [.int e])) ρ:=(rfl)
inductive S where|pass|brk|cont|bad|expr(e:P)|asg(i:Nat)(e:P)|par(i j:Nat)(a b:P)|zV(x:Nat)(i e:P)|app(x:Nat)(e:P)|ret(e:P)|Za|ifs(c:P)(a b:List S)|jQ(src:P)(i:List Nat)(one:Bool)(body:List S)|whl(c:P)(body:List S)|aug(x:Nat)(sub:Bool)(e:P)|JM(x:Nat)(i:P)(sub:Bool)(e:P)|Np(x:Nat)(e:P)|El(x:Nat)(t:Bool)|dput(x:Nat)(k e:P)|JN(x:Nat)(src:P)(k:Nat)(is:List Nat)(one:Bool)(elt:P)|JP(x:Nat)(i e:P)|Em(src:P)(is:List Nat)(one:Bool)(body:List S)|dh(x:Nat)|Eo(x:Nat)|gD(x:Nat)(k e:P)deriving Inhabited
inductive Fl where|next|brk|cont|ret(r:R)deriving Inhabited
noncomputable def yC:R->Sl|.val d=>.val false d|.own a=>.own false a
noncomputable def iw(is:List Nat)(one:Bool)(body:List Sl->Res Fl):List D->List Sl->Res Fl|[],ρ=>.ok .next ρ|d::r,ρ=>match cP ρ is one d with|none=>.stuck|some ρ=>(body ρ).bind λfl ρ=>match fl with|.next=>iw is one body r ρ|.cont=>iw is one body r ρ|.brk=>.ok .next ρ|.ret r=>.ok (.ret r) ρ
theorem HS{is:List Nat}{o:Bool}{b:List Sl->Res Fl}{ρ:List Sl}:iw is o b [] ρ=.ok .next ρ:=rfl
theorem zN{is:List Nat}{o:Bool}{b:List Sl->Res Fl}{d:D}{r:List D}{ρ:List Sl}:iw is o b (d::r) ρ=match cP ρ is o d with|none=>.stuck|some ρ=>(b ρ).bind λfl ρ=>match fl with|.next=>iw is o b r ρ|.cont=>iw is o b r ρ|.brk=>.ok .next ρ|.ret r=>.ok (.ret r) ρ:=rfl
noncomputable def qt(a:List Sl->Res Bool)(body:List Sl->Res Fl):Nat->List Sl->Res Fl|0,_=>.stuck|n+1,ρ=>(a ρ).bind λb ρ=>if b then(body ρ).bind λfl ρ=>match fl with|.next=>qt a body n ρ|.cont=>qt a body n ρ|.brk=>.ok .next ρ|.ret r=>.ok (.ret r) ρ else .ok .next ρ
theorem QM{f:List Sl->Res Bool}{b:List Sl->Res Fl}{ρ:List Sl}:qt f b 0 ρ=.stuck:=rfl
theorem IK{f:List Sl->Res Bool}{b:List Sl->Res Fl}{n:Nat}{ρ:List Sl}:qt f b (n+1) ρ=(f ρ).bind λx ρ=>if x then(b ρ).bind λfl ρ=>match fl with|.next=>qt f b n ρ|.cont=>qt f b n ρ|.brk=>.ok .next ρ|.ret r=>.ok (.ret r) ρ else .ok .next ρ:=rfl
noncomputable def gf(is:List Nat)(one:Bool)(b:Ev):List D->List (List D)->List Sl->Res (List (List D))|[],a,ρ=>.ok a ρ|d::r,a,ρ=>match cP ρ is one d with|none=>.stuck|some ρ=>(b ρ).bind λx ρ=>match x with|.own c=>gf is one b r (a++[c]) ρ|.val _=>.stuck
theorem Gw{is:List Nat}{o:Bool}{e:Ev}{a:List (List D)}{ρ:List Sl}:gf is o e [] a ρ=.ok a ρ:=rfl
theorem G9{is:List Nat}{o:Bool}{e:Ev}{d:D}{r:List D}{a:List (List D)}{ρ:List Sl}:gf is o e (d::r) a ρ=match cP ρ is o d with|none=>.stuck|some ρ=>(e ρ).bind λx ρ=>match x with|.own b=>gf is o e r (a++[b]) ρ|.val _=>.stuck:=rfl
noncomputable def rowAt(a:List (List D))(k:Int):Option (List D):=(iW a.length k).bind λr=>a[r]?
noncomputable def jt(a:List (List D))(k:Int)(f:List D->Option (List D)):Option (List (List D)):=(iW a.length k).bind λr=>(a[r]?).bind λrow=>(f row).map λb=>a.set r b
noncomputable def setAt(l:Int)(d:D)(row:List D):Option (List D):=(iW row.length l).map λm=>row.set m d
noncomputable def iV(ρ:List Sl)(x:Nat):Option (List (List D)):=match ρ[x]?with|some (.hold a)=>some a|_=>none
noncomputable def uM(ρ:List Sl)(x:Nat)(k:D):Option (List D):=(iV ρ x).bind λa=>(gF k).bind λk=>rowAt a k
noncomputable def CJ(ρ:List Sl)(x:Nat)(o:Option (List (List D))):Res Fl:=match o with|some a=>.ok .next (ρ.set x (.hold a))|none=>.stuck
noncomputable def rowOne(x r:Nat)(b c e:List Sl->Res D)(ρ:List Sl):Res Fl:=(c ρ).bind λk ρ=>(lift ((iV ρ x).bind λa=>(a[r]?).bind λrow=>(gF k).bind λk=>(at' row k).bind gF) ρ).bind λu ρ=>(e ρ).bind λl ρ=>(lift ((iV ρ x).bind λa=>(a[r]?).bind λrow=>(gF l).bind λl=>(at' row l).bind gF) ρ).bind λv ρ=>(b ρ).bind λj ρ=>CJ ρ x ((iV ρ x).bind λa=>(a[r]?).bind λrow=>(gF j).bind λj=>(setAt j (.int (u+v)) row).map λf=>a.set r f)
noncomputable def T3(x y:Nat)(a b c:List Sl->Res D):Nat->Nat->List Sl->Res Fl|0,_,ρ=>.ok .next ρ|m+1,r,ρ=>(lift (put ρ y .aW) ρ).bind λρ _=>(rowOne x r a b c ρ).bind λ_ ρ=>T3 x y a b c m (r+1) ρ
noncomputable def Uo(is:List Nat)(one:Bool)(body:List Sl->Res Fl)(b:List Sl->Option (Nat×List Sl)):List D->List Sl->Option (Nat×List Sl)|[],_=>none|d::r,ρ=>match cP ρ is one d with|none=>none|some ρ=>match b ρ with|some x=>some x|none=>match body ρ with|.ok .next a=>Uo is one body b r a|.ok .cont a=>Uo is one body b r a|_=>none
noncomputable def RZ:P->P|.idx a _=>a|e=>e
noncomputable def PB(c:Call)(e:P)(ρ:List Sl):Option (Nat×List Sl):=match RZ e with
 |.call f as=>match zL c as ρ with
   |.ok xs b=>match bQ b xs []with
     |some args=>match c f args with|.exc k a=>some (k,dR xs a 0 b)|_=>none
     |none=>none
   |_=>none
 |_=>none
mutual
noncomputable def ex(c:Call)(n:Nat):S->List Sl->Res Fl
 |.pass,ρ=>.ok .next ρ|.brk,ρ=>.ok .brk ρ|.cont,ρ=>.ok .cont ρ|.bad,_=>.stuck|.expr e,ρ=>(ev c e ρ).bind λ_ ρ=>.ok .next ρ|.asg i e,ρ=>(ev c e ρ).bind λr ρ=>(lift (put ρ i (yC r)) ρ).bind λo _=>.ok .next o|.par i j a b,ρ=>(ev c a ρ).bind λx ρ=>(ev c b ρ).bind λy ρ=>(lift ((put ρ i (.val false x.d)).bind λρ=>put ρ j (.val false y.d)) ρ).bind λo _=>.ok .next o|.zV x i e,ρ=>(ev c e ρ).bind λr ρ=>(lift (pk ρ x) ρ).bind λ_ ρ=>(cH (isVar i) (ev c i) ρ).bind λk ρ=>match ρ[x]?,k with
   |some (.own b g),.int k=>match iW g.length k with|some j=>.ok .next (ρ.set x (.own b (g.set j r.d)))|none=>.stuck
   |_,_=>.stuck
 |.app x e,ρ=>(lift (BW ρ x) ρ).bind λ_ ρ=>(ev c e ρ).bind λr ρ=>match ρ[x]?with|some (.own b g)=>if g.length<lim then .ok .next (ρ.set x (.own b (g++[r.d])))else .stuck|_=>.stuck
 |.ret e,ρ=>match isVar e with
   |some i=>match ρ[i]?with|some (.own false g)=>.ok (.ret (.own g)) (ρ.set i .aW)|_=>(ev c e ρ).bind λr ρ=>.ok (.ret r) ρ
   |none=>(ev c e ρ).bind λr ρ=>.ok (.ret r) ρ
 |.Za,ρ=>.ok (.ret (.val .non)) ρ|.ifs t a b,ρ=>(jM (ev c t) ρ).bind λk ρ=>if k then iu c n a ρ else iu c n b ρ|.jQ src is one body,ρ=>(srcOf (isVar src) (ev c src) ρ).bind λg f=>(iw is one (iu c n body) g f).bind λfl p=>.ok fl (bj ρ (isVar src) p)|.whl t body,ρ=>qt (jM (ev c t)) (iu c n body) n ρ|.aug x sub e,ρ=>(lift (pk ρ x) ρ).bind λa ρ=>(cH (isVar e) (ev c e) ρ).bind λb ρ=>match a,b with|.int i,.int j=>(lift (put ρ x (.val false (.int (if sub then i-j else i+j)))) ρ).bind λo _=>.ok .next o|_,_=>.stuck
 |.JM x i sub e,ρ=>(lift (BW ρ x) ρ).bind λ_ ρ=>(cH (isVar i) (ev c i) ρ).bind λk ρ=>(lift (BW ρ x) ρ).bind λl ρ=>(lift ((gF k).bind λi=>at' l i) ρ).bind λa ρ=>(cH (isVar e) (ev c e) ρ).bind λb ρ=>match a,b,ρ[x]?,k with
   |.int u,.int v,some (.own w g),.int k=>match iW g.length k with|some j=>.ok .next (ρ.set x (.own w (g.set j (.int (if sub then u-v else u+v)))))|none=>.stuck
   |_,_,_,_=>.stuck
 |.Np x e,ρ=>(lift (BW ρ x) ρ).bind λ_ ρ=>(ev c e ρ).bind λr ρ=>match ρ[x]?,r with|some (.own b g),.own es=>if g.length+es.length<=lim then .ok .next (ρ.set x (.own b (g++es)))else .stuck|_,_=>.stuck
 |.El x t,ρ=>match ρ[x]?with|some .aW=>.ok .next (ρ.set x (.gA (if t then .t []else .k [])))|_=>.stuck
 |.dput x k e,ρ=>(ev c e ρ).bind λr ρ=>match ρ[x]?with
   |some (.gA _)=>(cH (isVar k) (ev c k) ρ).bind λq ρ=>match ρ[x]?,r with
     |some (.gA m),.val (.int v)=>match m.put q v with|some z=>.ok .next (ρ.set x (.gA z))|none=>.stuck
     |_,_=>.stuck
   |_=>.stuck
 |.JN x src k is one s,ρ=>(srcOf (isVar src) (ev c src) ρ).bind λg f=>if g.length<=lim then(gf is one (ev c s) g [] (f++replicate k .aW)).bind λh p=>(lift (put (bj ρ (isVar src) (p.take f.length)) x (.hold h)) ρ).bind λo _=>.ok .next o else .stuck|.JP x i e,ρ=>(cH (isVar i) (ev c i) ρ).bind λk ρ=>(lift (uM ρ x k) ρ).bind λ_ ρ=>(ev c e ρ).bind λr ρ=>CJ ρ x ((iV ρ x).bind λh=>(gF k).bind λk=>jt h k λrow=>if row.length<lim then some (row++[r.d])else none)|.Em src is one body,ρ=>(ev c src ρ).bind λr f=>(lift (items r.d) f).bind λg f=>iw is one (iu c n body) g f|.dh x,ρ=>match ρ[x]?with|some (.hold h)=>.ok .next (ρ.set x (.val false (.lst (h.map D.lst))))|_=>.stuck
 |.Eo x,ρ=>match ρ[x]?with|some .aW=>.ok .next (ρ.set x (.di []))|some (.di _)=>.ok .next (ρ.set x (.di []))|some (.val false _)=>.ok .next (ρ.set x (.di []))|_=>.stuck
 |.gD x k e,ρ=>(ev c e ρ).bind λr ρ=>match ρ[x]?with
   |some (.di _)=>(cH (isVar k) (ev c k) ρ).bind λq ρ=>match ρ[x]?,q with|some (.di kvs),.int k=>if kvs.length<lim then .ok .next (ρ.set x (.di (gD kvs k r.d)))else .stuck|_,_=>.stuck
   |_=>.stuck
noncomputable def iu(c:Call)(n:Nat):List S->List Sl->Res Fl|[],ρ=>.ok .next ρ|s::r,ρ=>(ex c n s ρ).bind λfl ρ=>match fl with|.next=>iu c n r ρ|fl=>.ok fl ρ
noncomputable def exX(c:Call)(n:Nat):S->List Sl->Option (Nat×List Sl)
 |.ifs t a b,ρ=>match jM (ev c t) ρ with|.ok x f=>if x then Gr c n a f else Gr c n b f|_=>none
 |.jQ src is one body,ρ=>match srcOf (isVar src) (ev c src) ρ with|.ok g f=>(Uo is one (iu c n body) (Gr c n body) g f).map λx=>(x.1,bj ρ (isVar src) x.2)|_=>none
 |.asg _ e,ρ=>PB c e ρ|.expr e,ρ=>PB c e ρ|_,_=>none
noncomputable def Gr(c:Call)(n:Nat):List S->List Sl->Option (Nat×List Sl)|[],_=>none|s::r,ρ=>match exX c n s ρ with|some x=>some x|none=>match ex c n s ρ with|.ok .next a=>Gr c n r a|_=>none
end
theorem X1{c n ρ}:ex c n (.pass) ρ=.ok .next ρ:=(rfl)
theorem X2{c n ρ}:ex c n (.brk) ρ=.ok .brk ρ:=(rfl)
theorem X3{c n ρ}:ex c n (.cont) ρ=.ok .cont ρ:=(rfl)
theorem X4{c n ρ}:ex c n (.bad) ρ=.stuck:=(rfl)
theorem X5{c n e ρ}:ex c n (.expr e) ρ=(ev c e ρ).bind λ_ ρ=>.ok .next ρ:=(rfl)
theorem X6{c n i e ρ}:ex c n (.asg i e) ρ=(ev c e ρ).bind λr ρ=>(lift (put ρ i (yC r)) ρ).bind λa _=>.ok .next a:=(rfl)
theorem X7{c n i j a b ρ}:ex c n (.par i j a b) ρ=(ev c a ρ).bind λx ρ=>(ev c b ρ).bind λy ρ=>(lift ((put ρ i (.val false x.d)).bind λρ=>put ρ j (.val false y.d)) ρ).bind λe _=>.ok .next e:=(rfl)
theorem X8{c n x i e ρ}:ex c n (.zV x i e) ρ=(ev c e ρ).bind λr ρ=>(lift (pk ρ x) ρ).bind λ_ ρ=>(cH (isVar i) (ev c i) ρ).bind λk ρ=>match ρ[x]?,k with
 |some (.own b a),.int k=>match iW a.length k with|some j=>.ok .next (ρ.set x (.own b (a.set j r.d)))|none=>.stuck
 |_,_=>.stuck:=(rfl)
theorem X9{c n x e ρ}:ex c n (.app x e) ρ=(lift (BW ρ x) ρ).bind λ_ ρ=>(ev c e ρ).bind λr ρ=>match ρ[x]?with|some (.own b a)=>if a.length<lim then .ok .next (ρ.set x (.own b (a++[r.d])))else .stuck|_=>.stuck:=(rfl)
theorem X10{c n e ρ}:ex c n (.ret e) ρ=match isVar e with
 |some i=>match ρ[i]?with|some (.own false a)=>.ok (.ret (.own a)) (ρ.set i .aW)|_=>(ev c e ρ).bind λr ρ=>.ok (.ret r) ρ
 |none=>(ev c e ρ).bind λr ρ=>.ok (.ret r) ρ:=(rfl)
theorem X11{c n ρ}:ex c n (.Za) ρ=.ok (.ret (.val .non)) ρ:=(rfl)
theorem ZM{c n t a b ρ}:ex c n (.ifs t a b) ρ=(jM (ev c t) ρ).bind λk ρ=>if k then iu c n a ρ else iu c n b ρ:=(rfl)
theorem X13{c n src is one body ρ}:ex c n (.jQ src is one body) ρ=(srcOf (isVar src) (ev c src) ρ).bind λe a=>(iw is one (iu c n body) e a).bind λfl b=>.ok fl (bj ρ (isVar src) b):=(rfl)
theorem X14{c n t body ρ}:ex c n (.whl t body) ρ=qt (jM (ev c t)) (iu c n body) n ρ:=(rfl)
theorem X15{c n x sub e ρ}:ex c n (.aug x sub e) ρ=(lift (pk ρ x) ρ).bind λa ρ=>(cH (isVar e) (ev c e) ρ).bind λb ρ=>match a,b with|.int i,.int j=>(lift (put ρ x (.val false (.int (if sub then i-j else i+j)))) ρ).bind λf _=>.ok .next f|_,_=>.stuck:=(rfl)
theorem X16{c n x i sub e ρ}:ex c n (.JM x i sub e) ρ=(lift (BW ρ x) ρ).bind λ_ ρ=>(cH (isVar i) (ev c i) ρ).bind λk ρ=>(lift (BW ρ x) ρ).bind λl ρ=>(lift ((gF k).bind λi=>at' l i) ρ).bind λa ρ=>(cH (isVar e) (ev c e) ρ).bind λb ρ=>match a,b,ρ[x]?,k with
 |.int u,.int v,some (.own g f),.int k=>match iW f.length k with|some j=>.ok .next (ρ.set x (.own g (f.set j (.int (if sub then u-v else u+v)))))|none=>.stuck
 |_,_,_,_=>.stuck:=(rfl)
theorem X17{c n x e ρ}:ex c n (.Np x e) ρ=(lift (BW ρ x) ρ).bind λ_ ρ=>(ev c e ρ).bind λr ρ=>match ρ[x]?,r with|some (.own b a),.own es=>if a.length+es.length<=lim then .ok .next (ρ.set x (.own b (a++es)))else .stuck|_,_=>.stuck:=(rfl)
theorem X18{c n x t ρ}:ex c n (.El x t) ρ=match ρ[x]?with|some .aW=>.ok .next (ρ.set x (.gA (if t then .t []else .k [])))|_=>.stuck:=(rfl)
theorem X19{c n x k e ρ}:ex c n (.dput x k e) ρ=(ev c e ρ).bind λr ρ=>match ρ[x]?with
 |some (.gA _)=>(cH (isVar k) (ev c k) ρ).bind λa ρ=>match ρ[x]?,r with
   |some (.gA m),.val (.int v)=>match m.put a v with|some b=>.ok .next (ρ.set x (.gA b))|none=>.stuck
   |_,_=>.stuck
 |_=>.stuck:=(rfl)
theorem X20{c n x src k is one elt ρ}:ex c n (.JN x src k is one elt) ρ=(srcOf (isVar src) (ev c src) ρ).bind λg a=>if g.length<=lim then(gf is one (ev c elt) g [] (a++replicate k .aW)).bind λe b=>(lift (put (bj ρ (isVar src) (b.take a.length)) x (.hold e)) ρ).bind λf _=>.ok .next f else .stuck:=(rfl)
theorem X21{c n x i e ρ}:ex c n (.JP x i e) ρ=(cH (isVar i) (ev c i) ρ).bind λk ρ=>(lift (uM ρ x k) ρ).bind λ_ ρ=>(ev c e ρ).bind λr ρ=>CJ ρ x ((iV ρ x).bind λa=>(gF k).bind λk=>jt a k λrow=>if row.length<lim then some (row++[r.d])else none):=(rfl)
theorem X22{c n src is one body ρ}:ex c n (.Em src is one body) ρ=(ev c src ρ).bind λr a=>(lift (items r.d) a).bind λb a=>iw is one (iu c n body) b a:=(rfl)
theorem X23{c n x ρ}:ex c n (.dh x) ρ=match ρ[x]?with|some (.hold a)=>.ok .next (ρ.set x (.val false (.lst (a.map D.lst))))|_=>.stuck:=(rfl)
theorem X24{c n x ρ}:ex c n (.Eo x) ρ=match ρ[x]?with|some .aW=>.ok .next (ρ.set x (.di []))|some (.di _)=>.ok .next (ρ.set x (.di []))|some (.val false _)=>.ok .next (ρ.set x (.di []))|_=>.stuck:=(rfl)
theorem X25{c n x k e ρ}:ex c n (.gD x k e) ρ=(ev c e ρ).bind λr ρ=>match ρ[x]?with
 |some (.di _)=>(cH (isVar k) (ev c k) ρ).bind λa ρ=>match ρ[x]?,a with|some (.di kvs),.int k=>if kvs.length<lim then .ok .next (ρ.set x (.di (gD kvs k r.d)))else .stuck|_,_=>.stuck
 |_=>.stuck:=(rfl)
structure Fd where
 np:Nat
 nn:Nat
 body:List S deriving Inhabited
noncomputable abbrev Tab:=Nat->Option Fd
noncomputable def enter(c:Call)(n:Nat)(d:Fd)(args:List Sl):Res R:=if args.length=d.np/\d.np<=d.nn then match iu c n d.body (args++replicate (d.nn-d.np) .aW)with|.ok .next ρ=>.ok (.val .non) (ρ.take d.np)|.ok (.ret r) ρ=>.ok r (ρ.take d.np)|_=>match Gr c n d.body (args++replicate (d.nn-d.np) .aW)with|some (k,ρ)=>.exc k (ρ.take d.np)|none=>.stuck else .stuck
noncomputable def run(Γ:Tab)(w:Nat):Nat->Call|0,_,_=>.stuck|n+1,f,args=>match Γ f with|some d=>enter (run Γ w n) w d args|none=>.stuck
end HH
end
section
namespace HH
open PySem L2
variable{ρ:List Sl}{σ:St}{v:V}
noncomputable def Dc.ho:Dc->HO|.k kvs=>.dK (kvs.map λp=>(Sum.inl p.1,V.int p.2))|.t kvs=>.dT (kvs.map λp=>(p.1.map Sum.inl,V.int p.2))
noncomputable def Ar(ks:List Int)(vs:List V):HO:=.dK ((ks.zip vs).map λp=>(Sum.inl p.1,p.2))
section
variable(K:PySem.W.Frag)
mutual
def Rep(F:Hp):V->D->Prop|v,.non=>v=.non|v,.bl b=>v=.bl b|v,.int i=>v=.int i|v,.str x=>v=.str x|v,.tup c=>∃a xs,v=.ref a/\jO K F a xs/\aF F xs c|v,.lst c=>∃a xs,v=.ref a/\fP K F a xs/\aF F xs c|v,.dq m=>∃a o,v=.ref a/\F a=some (.dh o m.ho)|v,.dv ks c=>∃a o vs,v=.ref a/\F a=some (.dh o (Ar ks vs))/\aF F vs c/\ks.length=c.length
def aF(F:Hp):List V->List D->Prop|vs,[]=>vs=[]|vs,d::a=>∃v r,vs=v::r/\Rep F v d/\aF F r a
end
end
section
variable{K:PySem.W.Frag}{F F' H H':Hp}
theorem aH.iD{a:Addr}{xs:List V}(e:aH H H')(h:jO K H a xs):jO K H' a xs:=by
 rcases h with(h|⟨o,h⟩)|h;.exact .inl (.inl (e _ _ h))
 .exact .inl (.inr ⟨o,e _ _ h⟩)
 .exact .inr h
mutual
theorem Rep.mono(e:aH F F'):∀{d:D}{v:V},Rep K F v d->Rep K F' v d|.non,_,h=>by rw[Rep]at h ⊢;exact h|.bl _,_,h=>by rw[Rep]at h ⊢;exact h|.int _,_,h=>by rw[Rep]at h ⊢;exact h|.str _,_,h=>by rw[Rep]at h ⊢;exact h|.tup b,_,h=>by rw[Rep]at h ⊢;obtain⟨a,xs,rfl,hs,r⟩:=h;exact⟨a,xs,rfl,aH.iD e hs,aF.mono e r⟩|.lst b,_,h=>by rw[Rep]at h ⊢;obtain⟨a,xs,rfl,hs,r⟩:=h;exact⟨a,xs,rfl,e.seq hs,aF.mono e r⟩|.dq m,_,h=>by rw[Rep]at h ⊢;obtain⟨a,o,rfl,hs⟩:=h;exact⟨a,o,rfl,e _ _ hs⟩|.dv ks b,_,h=>by rw[Rep]at h ⊢;obtain⟨a,o,vs,rfl,hs,r,c⟩:=h;exact⟨a,o,vs,rfl,e _ _ hs,aF.mono e r,c⟩theorem aF.mono(e:aH F F'):∀{a:List D}{vs:List V},aF K F vs a->aF K F' vs a|[],_,h=>by rw[aF]at h ⊢;exact h|d::a,_,h=>by rw[aF]at h ⊢;obtain⟨v,r,rfl,h1,b⟩:=h;exact⟨v,r,rfl,Rep.mono e h1,aF.mono e b⟩end
theorem aF.nil:aF K F [] []:=by rw[aF]
theorem aF.cons{v:V}{d:D}{vs:List V}{a:List D}(h:Rep K F v d)(t:aF K F vs a):aF K F (v::vs) (d::a):=by rw[aF];exact⟨v,vs,rfl,h,t⟩
theorem aF.cM{vs:List V}{d:D}{a:List D}(h:aF K F vs (d::a)):∃v r,vs=v::r/\Rep K F v d/\aF K F r a:=by rw[aF]at h;exact h
theorem aF.fL{vs:List V}(h:aF K F vs []):vs=[]:=by rw[aF]at h;exact h
theorem aF.length:∀{a:List D}{vs:List V},aF K F vs a->vs.length=a.length|[],_,h=>by rw[h.fL];rfl|d::a,_,h=>by obtain⟨v,r,rfl,_,t⟩:=h.cM;simp[aF.length t]
theorem aF.get:∀{a:List D}{vs:List V}{i:Nat}{d:D},aF K F vs a->a[i]?=some d->∃v,vs[i]?=some v/\Rep K F v d|[],_,_,_,h,e=>by simp at e|d::a,_,0,_,h,e=>by obtain⟨v,r,rfl,h1,t⟩:=h.cM;simp at e;subst e;exact⟨v,rfl,h1⟩|d::a,_,i+1,_,h,e=>by obtain⟨v,r,rfl,_,t⟩:=h.cM;simp at e;obtain⟨w,b,c⟩:=t.get e;exact⟨w,by simpa using b,c⟩
theorem aF.append:∀{a es:List D}{vs us:List V},aF K F vs a->aF K F us es->aF K F (vs++us) (a++es)|[],_,_,_,h,h'=>by rw[h.fL];exact h'|d::a,_,_,_,h,h'=>by obtain⟨v,r,rfl,h1,t⟩:=h.cM;exact .cons h1 (t.append h')
theorem aF.set{v:V}{d:D}(hr:Rep K F v d):∀{a:List D}{vs:List V}(i:Nat),aF K F vs a->aF K F (vs.set i v) (a.set i d)|[],_,_,h=>by rw[h.fL];exact .nil|_::_,_,0,h=>by obtain⟨w,r,rfl,h1,t⟩:=h.cM;exact .cons hr t|_::_,_,i+1,h=>by obtain⟨w,r,rfl,h1,t⟩:=h.cM;exact .cons h1 (aF.set hr i t)
theorem aF.take:∀{a:List D}{vs:List V}(n:Nat),aF K F vs a->aF K F (vs.take n) (a.take n)|[],_,n,h=>by rw[h.fL];simpa using aF.nil|_::_,_,0,h=>.nil|_::_,_,n+1,h=>by obtain⟨w,r,rfl,h1,t⟩:=h.cM;exact .cons h1 (t.take n)
theorem aF.drop:∀{a:List D}{vs:List V}(n:Nat),aF K F vs a->aF K F (vs.drop n) (a.drop n)|[],_,n,h=>by rw[h.fL];simpa using aF.nil|_::_,_,0,h=>h|_::_,_,n+1,h=>by obtain⟨w,r,rfl,h1,t⟩:=h.cM;exact t.drop n
theorem aF.rep{a:List D}{vs:List V}(h:aF K F vs a):∀n,aF K F (replicate n vs).flatten (replicate n a).flatten|0=>by simpa using aF.nil|n+1=>by simpa[replicate_succ]using h.append (aF.rep h n)
inductive Oc where|l(ds:List D)|d(m:Dc)|v(kvs:List (Int×D))
noncomputable def lst?:Sl->Option Oc|.own _ a=>some (.l a)|.lent a=>some (.l a)|.gA m=>some (.d m)|.di kvs=>some (.v kvs)|_=>none
def jV(K:PySem.W.Frag)(F:Hp)(o:HO):Oc->Prop|.l a=>∃xs,o=.lst xs/\aF K F xs a|.d m=>o=m.ho|.v kvs=>∃vs,o=Ar (kvs.map (·.1)) vs/\aF K F vs (kvs.map (·.2))
theorem jV.mono{o:HO}{x:Oc}(e:aH F F')(h:jV K F o x):jV K F' o x:=by cases x with|l b=>obtain⟨xs,a,h⟩:=h;exact⟨xs,a,h.mono e⟩|d m=>exact h|v kvs=>obtain⟨xs,a,h⟩:=h;exact⟨xs,a,h.mono e⟩
def aQ(ρ:List Sl)(σ:St)(i:Nat)(a:Addr):Prop:=(∃s b,ρ[i]?=some s/\lst? s=some b)/\σ[i]?=some (some (V.ref a))
def Own(ρ:List Sl)(σ:St)(a:Addr):Prop:=∃i,aQ ρ σ i a
structure GS(K:PySem.W.Frag)(F:Hp)(ρ:List Sl)(σ:St)(H:Hp):Prop where
 sub:aH F H
 len:ρ.length=σ.length
 val:∀(i:Nat)(b:Bool)(d:D),ρ[i]?=some (Sl.val b d)->∃v:V,σ[i]?=some (some v)/\Rep K F v d
 own:∀(i:Nat)(s:Sl)(ds:Oc),ρ[i]?=some s->lst? s=some ds->∃(a:Addr)(xs:HO),σ[i]?=some (some (V.ref a))/\H a=some xs/\F a=none/\jV K F xs ds
 dis:∀(i j:Nat)(a:Addr),aQ ρ σ i a->aQ ρ σ j a->i=j
theorem GS.qi(g:GS K F ρ σ H)(i:Nat)(s:Sl)(b:List D)(e:ρ[i]?=some s)(c:lst? s=some (.l b)):∃(a:Addr)(xs:List V),σ[i]?=some (some (V.ref a))/\H a=some (.lst xs)/\F a=none/\aF K F xs b:=by obtain⟨a,o,h1,f,h,xs,rfl,j⟩:=g.own i s (.l b) e c;exact⟨a,xs,h1,f,h,j⟩
noncomputable def uH:Sl->Bool|.val b _=>b|.own b _=>b|.lent _=>true|.aW=>false|.gA _=>false|.di _=>false|.hold _=>true
def lY:Sl->Sl->Prop|.val true d,s=>s=.val true d|.own true _,s=>(∃a,s=.own true a)\/∃d,s=.val true d|.lent a,s=>s=.lent a|.hold a,s=>s=.hold a|_,_=>True
theorem lY.refl(s:Sl):lY s s:=by unfold lY;split<;>first|rfl|exact .inl ⟨_,rfl⟩|trivial
theorem lY.uH{s a:Sl}(h:lY s a)(l:uH s=true):HH.uH a=true:=by cases s with
 |aW=>cases l|gA _=>cases l|di _=>cases l|val b d=>cases b with|true=>cases h;rfl|false=>cases l
 |own b d=>cases b with|true=>rcases h with⟨_,rfl⟩|⟨_,rfl⟩<;>rfl|false=>cases l
 |lent d=>cases h;rfl|hold d=>cases h;rfl
theorem lY.trans{s c a:Sl}(l:HH.uH s=true)(h:lY s c)(h':lY c a):lY s a:=by cases s with
 |aW=>cases l|gA _=>cases l|di _=>cases l|val b d=>cases b with|true=>cases h;exact h'|false=>cases l
 |own b d=>cases b with
   | true => rcases h with⟨_,rfl⟩|⟨d,rfl⟩;.exact h'
             .exact .inr ⟨d,h'⟩|false=>cases l
 |lent d=>cases h;exact h'|hold d=>cases h;exact h'
noncomputable def nt:Option HO->Option HO|some (.tup _)=>none|o=>o
theorem jN{o:Option HO}(h:o=none):nt o=none:=by rw[h];rfl
theorem Ik{H:Hp}{b:Addr}{xs:List V}(h:H b=some (.lst xs))(z:nt (H b)=none):False:=by rw[h]at z;cases z
theorem GP{o:HO}{x:Oc}(h:jV K F o x)(z:nt (some o)=none):False:=by cases x with|l a=>obtain⟨xs,rfl,_⟩:=h;cases z|d m=>cases m<;>(cases(show o=_ from h);cases z)|v kvs=>obtain⟨xs,rfl,_⟩:=h;cases z
structure az(K:PySem.W.Frag)(F:Hp)(ρ:List Sl)(σ:St)(H:Hp)(F':Hp)(ρ':List Sl)(σ':St)(H':Hp):Prop where
 gs:GS K F' ρ' σ' H'
 cW:aH F F'
 ye:∀b,F b=none->F' b≠none->Own ρ σ b\/nt (H b)=none
 keep:∀b o,H b=some o->¬ Own ρ σ b->H' b=some o
 vV:∀b,Own ρ' σ' b->Own ρ σ b\/H b=none
 len:ρ'.length=ρ.length
 lk:∀(i:Nat)(s:Sl),ρ[i]?=some s->uH s=true->σ'[i]?=σ[i]?/\∃s',ρ'[i]?=some s'/\lY s s'
theorem az.refl{ρ:List Sl}{σ:St}(g:GS K F ρ σ H):az K F ρ σ H F ρ σ H:=⟨g,aH.refl _,λb h h'=>absurd h h',λ_ _ h _=>h,λ_ h=>.inl h,rfl,λi s h _=>⟨rfl,s,h,.refl s⟩⟩
theorem az.trans{F1 p m r:Hp}{ρ f j:List Sl}{σ g k:St}(a:az K F ρ σ H F1 f g m)(b:az K F1 f g m p j k r):az K F ρ σ H p j k r:=by
 have back:∀c,Own f g c\/m c=none->Own ρ σ c\/H c=none:=λc h=>by
  rcases h with h|h;.exact a.vV c h
  . by_cases ho:Own ρ σ c;.exact .inl ho
    .right;cases e:H c with|none=>rfl|some o=>rw[a.keep c o e ho]at h;cases h
 refine⟨b.gs,a.cW.trans b.cW,λc h h'=>?_,λc o h n=>?_,λc h=>back c (b.vV c h),b.len.trans a.len,λi s h l=>?_⟩
 . by_cases e:F1 c=none
   . by_cases ho:Own ρ σ c;.exact .inl ho
     . rcases b.ye c e h' with z|z;.exact(back c (.inl z)).imp id jN
       .right;cases q:H c with|none=>rfl|some o=>rw[a.keep c o q ho]at z;exact z
   .exact a.ye c h e
 . refine b.keep c o (a.keep c o h n) λh'=>?_;rcases a.vV c h' with h'|h';.exact n h'
   .rw[h]at h';cases h'
 .obtain⟨u,s1,h1,t⟩:=a.lk i s h l;obtain⟨w,s2,x,y⟩:=b.lk i s1 h1 (t.uH l);exact⟨w.trans u,s2,x,.trans l t y⟩
def dD(K:PySem.W.Frag)(F H:Hp)(v:V)(d:D):Prop:=Rep K F v d\/∃a xs b,v=.ref a/\H a=some (.lst xs)/\aF K F xs b/\d=.lst b
def cR(K:PySem.W.Frag)(F':Hp)(b:List Sl)(c:St)(H':Hp)(ρ:List Sl)(σ:St)(H:Hp)(v:V):R->Prop|.val d=>Rep K F' v d|.own e=>∃a xs,v=.ref a/\H' a=some (.lst xs)/\F' a=none/\aF K F' xs e/\¬ Own b c a/\(Own ρ σ a\/H a=none)
theorem aH.bO{F:Hp}{a:Addr}{o:HO}(h:F a=none):aH F (upd F a o):=λb u e=>by
 have:b≠a:=by rintro rfl;rw[h]at e;cases e
 rw[aA this];exact e
theorem az.dh{c:List Sl}{f:St}{r:R}(s:az K F ρ σ H F' c f H')(h:cR K F' c f H' ρ σ H v r):∃g,az K F ρ σ H g c f H'/\aH F' g/\Rep K g v r.d:=by cases r with|val d=>exact⟨F',s,.refl _,h⟩|own t=>
   obtain⟨a,xs,rfl,h1,u,w,x,y⟩:=h;have sm:aH F' (upd F' a (.lst xs)):=aH.bO u;refine⟨upd F' a (.lst xs),⟨⟨λb o e=>?_,s.gs.len,λi b d e=>?_,λi sl k e p=>?_,s.gs.dis⟩,s.cW.trans sm,λb n q=>?_,s.keep,s.vV,s.len,s.lk⟩,sm,?_⟩
   . by_cases j:b=a;.subst j;rw[aJ]at e;cases e;exact h1
     .rw[aA j]at e;exact s.gs.sub b o e
   .obtain⟨v,l,m⟩:=s.gs.val i b d e;exact⟨v,l,m.mono sm⟩
   . obtain⟨b,ys,l,m,z,A⟩:=s.gs.own i sl k e p;have j:b≠a:=by rintro rfl;exact x ⟨i,⟨sl,k,e,p⟩,l⟩
     exact⟨b,ys,l,m,by rw[aA j];exact z,A.mono sm⟩
   . by_cases j:b=a;.subst j;exact y.imp id jN
     .rw[aA j]at q;exact s.ye b n q
   .show Rep K _ _ (.lst t);rw[Rep];exact⟨a,xs,rfl,fP.of aJ,w.mono sm⟩
theorem GS.pk{ρ:List Sl}{σ:St}{i:Nat}{d:D}(g:GS K F ρ σ H)(e:HH.pk ρ i=some d):∃v:V,σ[i]?=some (some v)/\dD K F H v d:=by
 unfold HH.pk at e;split at e;.rename_i b d' h;cases e;obtain⟨v,h1,c⟩:=g.val i b d h;exact⟨v,h1,.inl c⟩
 .rename_i b f h;cases e;obtain⟨a,xs,h1,c,k,j⟩:=g.qi i _ f h rfl;exact⟨.ref a,h1,.inr ⟨a,xs,f,rfl,c,j,rfl⟩⟩
 .rename_i f h;cases e;obtain⟨a,xs,h1,c,k,j⟩:=g.qi i _ f h rfl;exact⟨.ref a,h1,.inr ⟨a,xs,f,rfl,c,j,rfl⟩⟩
 .cases e
structure Ext(F H F' H':Hp):Prop where
 hs:aH H H'
 fs:aH F F'
 sub:aH F' H'
 gr:∀b,F b=none->F' b≠none->nt (H b)=none
theorem Ext.refl(h:aH F H):Ext F H F H:=⟨.refl _,.refl _,h,λ_ a b=>absurd a b⟩
theorem Ext.stp(g:GS K F ρ σ H)(e:Ext F H F' H'):az K F ρ σ H F' ρ σ H':=by
 refine⟨⟨e.sub,g.len,λi b d h=>?_,λi s j h h'=>?_,g.dis⟩,e.fs,λb n k=>.inr (e.gr b n k),λb o h _=>e.hs b o h,λ_ h=>.inl h,rfl,λi s h _=>⟨rfl,s,h,.refl s⟩⟩;.obtain⟨v,h1,c⟩:=g.val i b d h;exact⟨v,h1,c.mono e.fs⟩
 .obtain⟨a,xs,h1,c,l,f⟩:=g.own i s j h h';refine⟨a,xs,h1,e.hs _ _ c,?_,f.mono e.fs⟩;cases q:F' a with|none=>rfl|some o=>have:=e.gr a l (by rw[q];simp);rw[c]at this;exact(GP f this).elim
def bY(K:PySem.W.Frag)(F' H' H:Hp)(v:V):R->Prop|.val d=>Rep K F' v d|.own b=>∃a xs,v=.ref a/\H' a=some (.lst xs)/\F' a=none/\aF K F' xs b/\H a=none
theorem bY.mC{r:R}(g:GS K F ρ σ H)(h:bY K F' H' H v r):cR K F' ρ σ H' ρ σ H v r:=by cases r with|val d=>exact h|own p=>obtain⟨a,xs,rfl,h1,l,m,f⟩:=h;refine⟨a,xs,rfl,h1,l,m,?_,.inr f⟩;rintro⟨i,⟨s,c,e,n⟩,o⟩;obtain⟨b,ys,j,k,_⟩:=g.own i s c e n;rw[o]at j;cases j;rw[f]at k;cases k
theorem cR.later{F1 j k l:Hp}{c f:List Sl}{g i:St}{r:R}(a:az K F ρ σ H F1 c g j)(h:cR K k f i l c g j v r):cR K k f i l ρ σ H v r:=by cases r with|val d=>exact h|own q=>
   obtain⟨b,xs,rfl,h1,m,n,p,h5⟩:=h;refine⟨b,xs,rfl,h1,m,n,p,?_⟩;rcases h5 with h5|h5;.exact a.vV b h5
   . by_cases ho:Own ρ σ b;.exact .inl ho
     .right;cases e:H b with|none=>rfl|some o=>rw[a.keep b o e ho]at h5;cases h5
end
end HH
end
section
namespace HH
open PySem L2 PySem.Spec PyProof.Rows
variable{ρ' ρ ρ₀:List Sl}{es:List Expr}{K:PySem.W.Frag}{F H H₀:Hp}{σ:L2.St}{i n:Nat}{ds:List D}{x:Str}{v:V}{op:CmpOp}{p':Pos}{as:List Arg}
theorem aj{c e:Type}{x:Res c}{f:c->List Sl->Res e}{b:e}(h:x.bind f=.ok b ρ'):∃a ρ,x=.ok a ρ/\f a ρ=.ok b ρ':=by cases x with|ok a ρ=>exact⟨a,ρ,rfl,h⟩|exc _ _=>cases h|stuck=>cases h
theorem aC{c:Type}{o:Option c}{a:c}(h:lift o ρ=.ok a ρ'):o=some a/\ρ=ρ':=by cases o with|none=>cases h|some b=>cases h;exact⟨rfl,rfl⟩
theorem map_some{c e:Type}{o:Option c}{f:c->e}{b:e}(h:o.map f=some b):∃a,o=some a/\f a=b:=by cases o with|none=>cases h|some a=>cases h;exact⟨a,rfl,rfl⟩
theorem bV{c e:Type}{o:Option c}{f:c->Option e}{b:e}(h:o.bind f=some b):∃a,o=some a/\f a=some b:=by cases o with|none=>cases h|some a=>exact⟨a,rfl,h⟩
theorem aU{e:Type}{c:Prop}[Decidable c]{a b:e}(h:(if c then some a else none)=some b):c/\a=b:=by
 split at h;.rename_i hc;cases h;exact⟨hc,rfl⟩
 .cases h
section
variable{X:Cx}{c:Call}{e a b:Expr}{p pa pb:P}{pos:Pos}
theorem fu{t t':TE}(h:PE X e t)(i:∀σ H Q,t' σ H Q->t σ H Q):PE X e t':=λf s σ H Q I q=>h f s σ H Q I (i σ H Q q)
theorem sY{t t':TT}(h:PT X e t)(i:∀σ H Q,t' σ H Q->t σ H Q):PT X e t':=λf s σ H Q I q=>h f s σ H Q I (i σ H Q q)
theorem YZ{t t':TT}(h:PW X e t)(i:∀σ H Q,t' σ H Q->t σ H Q):PW X e t':=λwh f s σ H Q I q=>h wh f s σ H Q I (i σ H Q q)
theorem wR{t t':TA}(h:PA X es t)(i:∀σ H Q,t' σ H Q->t σ H Q):PA X es t':=λpos f s σ H Q I q=>h pos f s σ H Q I (i σ H Q q)
inductive Bv(K:PySem.W.Frag)(f:Ev)(σ:L2.St)(H:Hp)(Q:VK):Prop where|mk(F:Hp)(ρ:List Sl)(r:R)(ρ':List Sl)(g:GS K F ρ σ H)(e:f ρ=.ok r ρ')(k:∀v F' H',az K F ρ σ H F' ρ' σ H'->cR K F' ρ' σ H' ρ σ H v r->Q v H')
inductive HY(K:PySem.W.Frag)(f:List Sl->Res Bool)(σ:L2.St)(H:Hp)(Q:Bool->Hp->Prop):Prop where|mk(F:Hp)(ρ:List Sl)(b:Bool)(ρ':List Sl)(g:GS K F ρ σ H)(e:f ρ=.ok b ρ')(k:∀F' H',az K F ρ σ H F' ρ' σ H'->Q b H')
inductive acK(K:PySem.W.Frag)(f:List Sl->Res (List D))(σ:L2.St)(H:Hp)(Q:List V->Hp->Prop):Prop where|mk(F:Hp)(ρ:List Sl)(ds:List D)(ρ':List Sl)(g:GS K F ρ σ H)(e:f ρ=.ok ds ρ')(k:∀vs F' H',az K F ρ σ H F' ρ' σ H'->aF K F' vs ds->Q vs H')
structure SX(X:Cx)(c:Call)(e:Expr)(p:P):Prop where ev:PE X e (Bv X.K (HH.ev c p))var:∀i,isVar p=some i->PE X e (Q7 i)
def SA(X:Cx)(c:Call)(es:List Expr)(ps:List P):Prop:=PA X es (acK X.K (evs c ps))/\ps.length=es.length
theorem SX.cH(h:SX X c e p):∃t,PE X e t/\∀{σ:L2.St}{H F:Hp}{ρ ρ':List Sl}{d:D}{Q:VK},GS X.K F ρ σ H->cH (isVar p) (HH.ev c p) ρ=.ok d ρ'->(∀v j f,az X.K F ρ σ H j ρ' σ f->dD X.K j f v d->Q v f)->t σ H Q:=by cases hv:isVar p with|none=>refine⟨_,h.ev,λ{σ H F ρ ρ' d Q}g e k=>?_⟩;obtain⟨r,q,l,m⟩:=aj e;cases m;refine⟨F,ρ,r,_,g,l,λv j f s u=>?_⟩;obtain⟨o,w,_,y⟩:=s.dh u;exact k v o f w (.inl y)|some i=>refine⟨_,h.var i hv,λ{σ H F ρ ρ' d Q}g e k=>?_⟩;obtain⟨l,m⟩:=aC e;subst m;obtain⟨v,h1,z⟩:=g.pk l;exact⟨v,h1,k v F H (.refl g) z⟩
theorem SX.ie(J:SX X c a pa)(N:SX X c b pb):∃L h,PE X a L/\PE X b h/\∀{σ:L2.St}{H F:Hp}{ρ ρ':List Sl}{j:D×D}{R:V->V->Hp->Prop},GS X.K F ρ σ H->ie (isVar pa) (HH.ev c pa) (isVar pb) (HH.ev c pb) ρ=.ok j ρ'->(∀v u w l,az X.K F ρ σ H w ρ' σ l->dD X.K w l v j.1->dD X.K w l u j.2->R v u l)->L σ H λx z=>h σ z λy A=>R x y A:=by obtain⟨h,m,o⟩:=N.cH;cases hv:isVar pa with|none=>refine⟨_,h,J.ev,m,λ{σ H F ρ ρ' j R}g e k=>?_⟩;obtain⟨x,B,q,e⟩:=aj e;obtain⟨y,C,f,e⟩:=aj e;cases e;obtain⟨r,M,q,E⟩:=aj q;cases E;refine⟨F,ρ,r,_,g,q,λv w l s O=>?_⟩;obtain⟨F1,s1,_,Q⟩:=s.dh O;refine o s1.gs f λu U A s2 G=>?_;exact k v u U A (s1.trans s2) (.inl (Q.mono s2.cW)) G|some i=>refine⟨_,h,J.var i hv,m,λ{σ H F ρ ρ' j R}g e k=>?_⟩;obtain⟨x0,W,E,e⟩:=aj e;obtain⟨I,Y⟩:=aC E;subst Y;obtain⟨y,B,q,e⟩:=aj e;obtain⟨x,C,f,e⟩:=aj e;cases e;have Z:=aC f;clear f;obtain⟨f,e3⟩:=Z;subst e3;obtain⟨v,h1,_⟩:=g.pk I;refine⟨v,h1,o g q λu F1 z s1 G=>?_⟩;obtain⟨v',t,pv⟩:=s1.gs.pk f;rw[h1]at t;cases t;exact k v u F1 z s1 pv G
inductive rD(K:PySem.W.Frag)(f:D->D->Option R)(x y:V)(H:Hp)(Q:VK):Prop where|mk(F:Hp)(d e:D)(r:R)(sm:aH F H)(px:dD K F H x d)(py:dD K F H y e)(he:f d e=some r)(k:∀v F' H',Ext F H F' H'->bY K F' H' H v r->Q v H')
inductive rD1(K:PySem.W.Frag)(f:D->Option R)(x:V)(H:Hp)(Q:VK):Prop where|mk(F:Hp)(d:D)(r:R)(sm:aH F H)(px:dD K F H x d)(he:f d=some r)(k:∀v F' H',Ext F H F' H'->bY K F' H' H v r->Q v H')
theorem uy{E:Expr}{f:D->D->Option R}{q:P}(t:∀{m o},PE X a m->PE X b o->PE X E (Rf (rD X.K f) m o))(y:SX X c a pa)(z:SX X c b pb)(A:∀ρ,HH.ev c q ρ=(HH.ie (isVar pa) (HH.ev c pa) (isVar pb) (HH.ev c pb) ρ).bind λj ρ=>lift (f j.1 j.2) ρ)(B:isVar q=none):SX X c E q:=by obtain⟨m,o,h1,C,G⟩:=y.ie z;refine⟨fu (t h1 C) ?_,λi h=>by rw[B]at h;cases h⟩;rintro σ H Q⟨F,ρ,r,ρ',g,e,k⟩;rw[A]at e;obtain⟨j,I,J,l⟩:=aj e;have L:=aC l;clear l;obtain⟨l,M⟩:=L;subst M;refine G g J λv u N H' s O U=>⟨N,j.1,j.2,r,s.gs.sub,O,U,l,λw W Y x Z=>?_⟩;exact k w W Y (s.trans (x.stp s.gs)) (.later s (Z.mC s.gs))
theorem Gy{E:Expr}{f:D->Option R}{q:P}(m:∀{l},PE X a l->PE X E (tUn (rD1 X.K f) l))(o:SX X c a pa)(t:∀ρ,HH.ev c q ρ=(HH.cH (isVar pa) (HH.ev c pa) ρ).bind λx ρ=>lift (f x) ρ)(u:isVar q=none):SX X c E q:=by obtain⟨l,h1,y⟩:=o.cH;refine⟨fu (m h1) ?_,λi h=>by rw[u]at h;cases h⟩;rintro σ H Q⟨F,ρ,r,ρ',g,e,k⟩;rw[t]at e;obtain⟨x,z,A,j⟩:=aj e;have B:=aC j;clear j;obtain⟨j,C⟩:=B;subst C;refine y g A λv G N s I=>⟨G,x,r,s.gs.sub,I,j,λw J L x M=>?_⟩;exact k w J L (s.trans (x.stp s.gs)) (.later s (M.mC s.gs))
theorem GS.freeze{b:Bool}(g:GS K F ρ σ H)(e:ρ[i]?=some (.own b ds)):∃v z,σ[i]?=some (some v)/\az K F ρ σ H z (ρ.set i (.val b (.lst ds))) σ H/\Rep K z v (.lst ds):=by
 obtain⟨a,xs,h1,C,E,G⟩:=g.qi i _ ds e rfl;have hi:i<ρ.length:=(eG e).1;have sm:aH F (upd F a (.lst xs)):=aH.bO E;have A:Rep K (upd F a (.lst xs)) (.ref a) (.lst ds):=by rw[Rep];exact⟨a,xs,rfl,fP.of aJ,G.mono sm⟩
 have I:Own ρ σ a:=⟨i,⟨_,_,e,rfl⟩,h1⟩;have r:∀j x,aQ (ρ.set i (.val b (.lst ds))) σ j x->aQ ρ σ j x/\j≠i:=λj x⟨⟨s,h,m,u⟩,y⟩=>by
  by_cases f:j=i;.subst f;rw[getElem?_set_self hi]at m;cases m;cases u
  .rw[eV f]at m;exact⟨⟨⟨s,h,m,u⟩,y⟩,f⟩
 refine⟨.ref a,upd F a (.lst xs),h1,⟨⟨λx o q=>?_,by simpa using g.len,λj J d q=>?_,λj s h q w=>?_,λj k x q w=>g.dis j k x (r j x q).1 (r k x w).1⟩,sm,λx n B=>?_,λ_ _ q _=>q,λx⟨j,q⟩=>.inl ⟨j,(r j x q).1⟩,by simp,λj s q l=>⟨rfl,?_⟩⟩,A⟩
 . by_cases t:x=a;.subst t;rw[aJ]at q;cases q;exact C
   .rw[aA t]at q;exact g.sub x o q
 . by_cases f:j=i;.subst f;rw[getElem?_set_self hi]at q;cases q;exact⟨_,h1,A⟩
   .rw[eV f]at q;obtain⟨v,m,u⟩:=g.val j J d q;exact⟨v,m,u.mono sm⟩
 . by_cases f:j=i;.subst f;rw[getElem?_set_self hi]at q;cases q;cases w
   . rw[eV f]at q;obtain⟨x,ys,m,u,y,L⟩:=g.own j s h q w;have t:x≠a:=by rintro rfl;exact f (g.dis j i x ⟨⟨s,h,q,w⟩,m⟩ ⟨⟨_,_,e,rfl⟩,h1⟩)
     exact⟨x,ys,m,u,by rw[aA t];exact y,L.mono sm⟩
 . by_cases t:x=a;.subst t;exact .inl I
   .rw[aA t]at B;exact absurd n B
 . by_cases f:j=i;.subst f;rw[e]at q;cases q;refine⟨_,getElem?_set_self hi,?_⟩;cases b with|true=>exact .inr ⟨_,rfl⟩|false=>cases l
   .exact⟨s,by rw[eV f];exact q,.refl s⟩
theorem GS.BP{m:Dc}(g:GS K F ρ σ H)(e:ρ[i]?=some (.gA m)):∃a,σ[i]?=some (some (.ref a))/\H a=some m.ho/\∀u,az K F ρ σ H (upd F a (.dh u m.ho)) (ρ.set i (.val false (.dq m))) σ (upd H a (.dh u m.ho))/\Rep K (upd F a (.dh u m.ho)) (.ref a) (.dq m):=by
 obtain⟨a,G,h1,I,J,L⟩:=g.own i _ _ e rfl;cases(show G=m.ho from L);have hi:i<ρ.length:=(eG e).1;refine⟨a,h1,I,λu=>?_⟩;have sm:aH F (upd F a (.dh u m.ho)):=aH.bO J;have B:Rep K (upd F a (.dh u m.ho)) (.ref a) (.dq m):=by rw[Rep];exact⟨a,u,rfl,aJ⟩
 have C:Own ρ σ a:=⟨i,⟨_,_,e,rfl⟩,h1⟩;have w:∀j x,aQ (ρ.set i (.val false (.dq m))) σ j x->aQ ρ σ j x/\j≠i:=λj x⟨⟨s,r,t,y⟩,A⟩=>by
  by_cases f:j=i;.subst f;rw[getElem?_set_self hi]at t;cases t;cases y
  .rw[eV f]at t;exact⟨⟨⟨s,r,t,y⟩,A⟩,f⟩
 refine⟨⟨⟨λx o q=>?_,by simpa using g.len,λj M d q=>?_,λj s r q z=>?_,λj k x q z=>g.dis j k x (w j x q).1 (w k x z).1⟩,sm,λx n E=>?_,λx o q n=>?_,λx⟨j,q⟩=>.inl ⟨j,(w j x q).1⟩,by simp,λj s q l=>⟨rfl,?_⟩⟩,B⟩
 . by_cases h:x=a;.subst h;rw[aJ]at q ⊢;exact q
   .rw[aA h]at q ⊢;exact g.sub x o q
 . by_cases f:j=i;.subst f;rw[getElem?_set_self hi]at q;cases q;exact⟨_,h1,B⟩
   .rw[eV f]at q;obtain⟨v,t,y⟩:=g.val j M d q;exact⟨v,t,y.mono sm⟩
 . by_cases f:j=i;.subst f;rw[getElem?_set_self hi]at q;cases q;cases z
   . rw[eV f]at q;obtain⟨x,ys,t,y,A,N⟩:=g.own j s r q z;have h:x≠a:=by rintro rfl;exact f (g.dis j i x ⟨⟨s,r,q,z⟩,t⟩ ⟨⟨_,_,e,rfl⟩,h1⟩)
     exact⟨x,ys,t,by rw[aA h];exact y,by rw[aA h];exact A,N.mono sm⟩
 . by_cases h:x=a;.subst h;exact .inl C
   .rw[aA h]at E;exact absurd n E
 . have h:x≠a:=by rintro rfl;exact n C
   rw[aA h];exact q
 . by_cases f:j=i;.subst f;rw[e]at q;cases q;cases l
   .exact⟨s,by rw[eV f];exact q,.refl s⟩
theorem GS.Ci{kvs:List (Int×D)}(g:GS K F ρ σ H)(e:ρ[i]?=some (.di kvs)):∃a vs,σ[i]?=some (some (.ref a))/\H a=some (Ar (kvs.map (·.1)) vs)/\∀t,az K F ρ σ H (upd F a (.dh t (Ar (kvs.map (·.1)) vs))) (ρ.set i (.val false (.dv (kvs.map (·.1)) (kvs.map (·.2))))) σ (upd H a (.dh t (Ar (kvs.map (·.1)) vs)))/\Rep K (upd F a (.dh t (Ar (kvs.map (·.1)) vs))) (.ref a) (.dv (kvs.map (·.1)) (kvs.map (·.2))):=by
 obtain⟨a,N,h1,E,G,I⟩:=g.own i _ _ e rfl;obtain⟨vs,rfl,J⟩:=I;have hi:i<ρ.length:=(eG e).1;refine⟨a,vs,h1,E,λt=>?_⟩;have sm:aH F (upd F a (.dh t (Ar (kvs.map (·.1)) vs))):=aH.bO G;have A:Rep K (upd F a (.dh t (Ar (kvs.map (·.1)) vs))) (.ref a) (.dv (kvs.map (·.1)) (kvs.map (·.2))):=by rw[Rep];exact⟨a,t,vs,rfl,aJ,J.mono sm,by simp⟩
 have B:Own ρ σ a:=⟨i,⟨_,_,e,rfl⟩,h1⟩;have u:∀j x,aQ (ρ.set i (.val false (.dv (kvs.map (·.1)) (kvs.map (·.2))))) σ j x->aQ ρ σ j x/\j≠i:=λj x⟨⟨s,m,r,w⟩,z⟩=>by
  by_cases f:j=i;.subst f;rw[getElem?_set_self hi]at r;cases r;cases w
  .rw[eV f]at r;exact⟨⟨⟨s,m,r,w⟩,z⟩,f⟩
 refine⟨⟨⟨λx o q=>?_,by simpa using g.len,λj L d q=>?_,λj s m q y=>?_,λj k x q y=>g.dis j k x (u j x q).1 (u k x y).1⟩,sm,λx n C=>?_,λx o q n=>?_,λx⟨j,q⟩=>.inl ⟨j,(u j x q).1⟩,by simp,λj s q l=>⟨rfl,?_⟩⟩,A⟩
 . by_cases h:x=a;.subst h;rw[aJ]at q ⊢;exact q
   .rw[aA h]at q ⊢;exact g.sub x o q
 . by_cases f:j=i;.subst f;rw[getElem?_set_self hi]at q;cases q;exact⟨_,h1,A⟩
   .rw[eV f]at q;obtain⟨v,r,w⟩:=g.val j L d q;exact⟨v,r,w.mono sm⟩
 . by_cases f:j=i;.subst f;rw[getElem?_set_self hi]at q;cases q;cases y
   . rw[eV f]at q;obtain⟨x,ys,r,w,z,M⟩:=g.own j s m q y;have h:x≠a:=by rintro rfl;exact f (g.dis j i x ⟨⟨s,m,q,y⟩,r⟩ ⟨⟨_,_,e,rfl⟩,h1⟩)
     exact⟨x,ys,r,by rw[aA h];exact w,by rw[aA h];exact z,M.mono sm⟩
 . by_cases h:x=a;.subst h;exact .inl B
   .rw[aA h]at C;exact absurd n C
 . have h:x≠a:=by rintro rfl;exact n B
   rw[aA h];exact q
 . by_cases f:j=i;.subst f;rw[e]at q;cases q;cases l
   .exact⟨s,by rw[eV f];exact q,.refl s⟩
theorem Inv.Ga{X:Cx}{f:List (Addr×Obj)}{s:Shared}{a:Addr}{kvs:List (Key×V)}(I:L2.Inv X f σ H s)(h:H a=some (.dK kvs)):∃o,L2.Inv X f σ (upd H a (.dh o (.dK kvs))) s:=by obtain⟨hz,j,vs,r,g⟩:=(show bz X.prog X.w H s.heap a (.dK kvs)from I.hok a _ h);obtain⟨o,ho,_⟩:=g.typeIs;exact⟨o,I.write (h':=s.heap) (t':=s.toks) (by rw[h];exact trivial) (.inl rfl) (λb u _ e=>e) ⟨o,ho⟩ ⟨ho,hz,j,vs,r,g⟩⟩
theorem Rp(z:X.N[i]?=some x)(A:vQ X.env.scope x)(hd:(x==("__debug__":Str))=false:=by decide)(t:(x==("__classdict__":Str))=false:=by decide):SX X c (.Name x pos) (.var i):=by
 have h:=eX (X:=X) (pos:=pos) z A hd t;refine⟨?_,λj B=>by cases B;exact h⟩;rintro f s σ H Q I⟨F,ρ,r,ρ',g,e,k⟩;rw[HH.E1]at e;split at e;.rename_i b d q;cases e;obtain⟨v,h1,l⟩:=g.val i b d q;exact h f s σ H Q I ⟨v,h1,k v F H (.refl g) l⟩
 .rename_i b ds q;cases e;obtain⟨v,C,h1,l,m⟩:=g.freeze q;exact h f s σ H Q I ⟨v,h1,k v C H l m⟩
 .rename_i kvs q;cases e;obtain⟨a,h1,l,m⟩:=g.BP q;refine bT (h f s σ H (λv w=>v=.ref a/\w=H) I ⟨.ref a,h1,rfl,rfl⟩) λu s1⟨v,H1,I1,r1,e1,e2⟩=>?_;subst e1 e2;obtain⟨o,y⟩:=Inv.Ga I1 l;exact⟨.ref a,_,y,r1,k _ _ _ (m o).1 (m o).2⟩
 .rename_i kvs q;cases e;obtain⟨a,vs,h1,l,m⟩:=g.Ci q;refine bT (h f s σ H (λv w=>v=.ref a/\w=H) I ⟨.ref a,h1,rfl,rfl⟩) λu s1⟨v,H1,I1,r1,e1,e2⟩=>?_;subst e1 e2;obtain⟨o,y⟩:=Inv.Ga I1 l;exact⟨.ref a,_,y,r1,k _ _ _ (m o).1 (m o).2⟩
 .cases e
theorem yJ{d:D}(h:PE X e (tC v))(hr:∀F,Rep X.K F v d):SX X c e (.con d):=⟨fu h λσ H Q⟨F,ρ,r,ρ',g,e,k⟩=>by rw[HH.E2]at e;cases e;exact k v F H (.refl g) (hr F),λi h=>by cases h⟩
theorem aa{i j}:SX X c (.Constant (.int i) j pos) (.con (.int i)):=yJ uF λF=>by rw[Rep]
theorem gq{i j}:SX X c (.Constant (.bool i) j pos) (.con (.bl i)):=yJ Yr λF=>by rw[Rep]
theorem Hj{j}:SX X c (.Constant .none j pos) (.con .non):=yJ QB λF=>by rw[Rep]
theorem dD.int{K:PySem.W.Frag}{F H:Hp}{v:V}{i:Int}(h:dD K F H v (.int i)):v=.int i:=by
 rcases h with h|⟨_,_,_,_,_,_,h⟩;.rw[Rep]at h;exact h
 .cases h
theorem dD.bl{K:PySem.W.Frag}{F H:Hp}{v:V}{i:Bool}(h:dD K F H v (.bl i)):v=.bl i:=by
 rcases h with h|⟨_,_,_,_,_,_,h⟩;.rw[Rep]at h;exact h
 .cases h
theorem dD.str{K:PySem.W.Frag}{F H:Hp}{v:V}{i:Str}(h:dD K F H v (.str i)):v=.str i:=by
 rcases h with h|⟨_,_,_,_,_,_,h⟩;.rw[Rep]at h;exact h
 .cases h
theorem dD.non{K:PySem.W.Frag}{F H:Hp}{v:V}(h:dD K F H v .non):v=.non:=by
 rcases h with h|⟨_,_,_,_,_,_,h⟩;.rw[Rep]at h;exact h
 .cases h
theorem dD.tup{K:PySem.W.Frag}{F H:Hp}{v:V}{ds:List D}(s:aH F H)(h:dD K F H v (.tup ds)):∃a xs,v=.ref a/\jO K H a xs/\aF K F xs ds/\Rep K F v (.tup ds):=by
 rcases h with h|⟨_,_,_,_,_,_,h⟩;.have h':=h;rw[Rep]at h;obtain⟨a,xs,rfl,h1,f⟩:=h;exact⟨a,xs,rfl,aH.iD s h1,f,h'⟩
 .cases h
theorem dD.lst{K:PySem.W.Frag}{F H:Hp}{v:V}{ds:List D}(s:aH F H)(h:dD K F H v (.lst ds)):∃a xs,v=.ref a/\fP K H a xs/\aF K F xs ds:=by
 rcases h with h|⟨a,xs,es,h1,f,g,h⟩;.rw[Rep]at h;obtain⟨a,xs,rfl,h1,f⟩:=h;exact⟨a,xs,rfl,s.seq h1,f⟩
 .cases h;exact⟨a,xs,h1,fP.of f,g⟩
theorem dD.dq{m:Dc}(s:aH F H)(h:dD K F H v (.dq m)):∃a o,v=.ref a/\H a=some (.dh o m.ho):=by
 rcases h with h|⟨_,_,_,_,_,_,h⟩;.rw[Rep]at h;obtain⟨a,o,rfl,h⟩:=h;exact⟨a,o,rfl,s _ _ h⟩
 .cases h
theorem RM{X:Cx}{f:List (Addr×Obj)}{s:Shared}{a:Addr}{g:Obj}{m:Dc}(I:L2.Inv X f σ H s)(h:H a=some (.dh g m.ho)):∃o,s.heap.get? a=some o/\o.cls=.type "dict":=by have z:=(show bz X.prog X.w H s.heap a (.dh g m.ho)from I.hok a _ h).2;cases m with|k kvs=>obtain⟨_,_,vs,_,d2⟩:=(show bz X.prog X.w H s.heap a (.dK _)from z);exact d2.typeIs|t kvs=>obtain⟨_,_,xs,_,o,es,ep,h1,j,_⟩:=(show bz X.prog X.w H s.heap a (.dT _)from z);exact⟨o,h1,j.1⟩
theorem dD.dv{ks:List Int}(s:aH F H)(h:dD K F H v (.dv ks ds)):∃a o vs,v=.ref a/\H a=some (.dh o (Ar ks vs))/\aF K F vs ds/\ks.length=ds.length:=by
 rcases h with h|⟨_,_,_,_,_,_,h⟩;.rw[Rep]at h;obtain⟨a,o,vs,rfl,h,h1,f⟩:=h;exact⟨a,o,vs,rfl,s _ _ h,h1,f⟩
 .cases h
theorem Ua{X:Cx}{f:List (Addr×Obj)}{s:Shared}{a:Addr}{g:Obj}{ks:List Int}{vs:List V}(I:L2.Inv X f σ H s)(h:H a=some (.dh g (Ar ks vs))):∃o,s.heap.get? a=some o/\o.cls=.type "dict":=by have z:=(show bz X.prog X.w H s.heap a (.dh g (Ar ks vs))from I.hok a _ h).2;obtain⟨_,_,vs,_,d2⟩:=(show bz X.prog X.w H s.heap a (.dK _)from z);exact d2.typeIs
theorem dD.items{d:D}(s:aH F H)(h:dD K F H v d)(e:items d=some ds):∃a xs,v=.ref a/\(fP K H a xs\/jO K H a xs)/\aF K F xs ds:=by cases d with|tup es=>cases e;obtain⟨a,xs,h1,f,g,_⟩:=h.tup s;exact⟨a,xs,h1,.inr f,g⟩|lst es=>cases e;obtain⟨a,xs,h1,f,g⟩:=h.lst s;exact⟨a,xs,h1,.inl f,g⟩|_=>cases e
theorem bY.cV{Q:VK}{d:D}(s:aH F H)(r:Rep K F v d)(k:∀v g f,Ext F H g f->bY K g f H v (.val d)->Q v f):Q v H:=k v F H (.refl s) r
theorem bN(i:Int):Rep K F (.int i) (.int i):=by rw[Rep]
theorem jT(i:Bool):Rep K F (.bl i) (.bl i):=by rw[Rep]
theorem TJ(i:Str):Rep K F (.str i) (.str i):=by rw[Rep]
theorem TY:Rep K F .non .non:=by rw[Rep]
theorem uL{Q:VK}{xs:List V}{p:Addr}(s:aH F H)(r:aF K F xs ds)(f:H p=none)(k:∀v h g,Ext F H h g->bY K h g H v (.own ds)->Q v g):Q (.ref p) (upd H p (.lst xs)):=by
 have j:F p=none:=by cases q:F p with|none=>rfl|some o=>rw[s p o q]at f;cases f
 exact k _ F _ ⟨aH.bO f,.refl _,s.trans (aH.bO f),λ_ a b=>absurd a b⟩ ⟨p,xs,rfl,aJ,j,r,f⟩
theorem zx{Q:VK}{xs:List V}{p:Addr}(s:aH F H)(r:aF K F xs ds)(g:H p=none)(k:∀v j h,Ext F H j h->bY K j h H v (.val (.tup ds))->Q v h):Q (.ref p) (upd H p (.tup xs)):=by
 have m:F p=none:=by cases q:F p with|none=>rfl|some o=>rw[s p o q]at g;cases g
 have sm:aH F (upd F p (.tup xs)):=aH.bO m;refine k _ (upd F p (.tup xs)) _ ⟨aH.bO g,sm,λb o e=>?_,λb n l=>?_⟩ ?_
 . by_cases f:b=p;.subst f;rw[aJ]at e ⊢;exact e
   .rw[aA f]at e ⊢;exact s b o e
 . by_cases f:b=p;.subst f;exact jN g
   .rw[aA f]at l;exact absurd n l
 .show Rep K _ _ (.tup ds);rw[Rep];exact⟨p,xs,rfl,jO.of aJ,r.mono sm⟩
end
theorem rO(k:Int)(t:Tok)(l:Addr)(a:Array Value)(n:Nat)(b:Option Addr)(sl:Array (Option Value)):Meets (Builtin.«int.__rmul__» ⟨[.int k t,.ref l],[]⟩) (λ_ R s=>s.heap.get? l=some ⟨.type "list",b,.seq a n,sl⟩/\R (.ok (.ret Value.notImplemented)) s):=.of_wp λprog w A R s h=>by obtain⟨c,g,d,tk,os⟩:=s;obtain⟨e,h⟩:=h;wp_walk;exact⟨_,rfl,h⟩
theorem CG(l:Addr)(a:Array Value)(n:Nat)(b:Option Addr)(sl:Array (Option Value))(k:Int)(t:Tok)(h0:¬(!Builtin.List.listFitsIndex k)=true)(h1:¬a.size*k.toNat>(2^63-1)/8)(c:¬listTooLong (a.size*k.toNat)=true):Meets (Builtin.«list.__mul__» ⟨[.ref l,.int k t],[]⟩) (λ_ R s=>s.heap.get? l=some ⟨.type "list",b,.seq a n,sl⟩/\R (.ok (.ret (Value.ref s.heap.objs.size))) {s with heap:=s.heap.push {cls:=.type "list",data:=.seq (foldl (·++·) #[] (replicate (if a.isEmpty=true then 0 else k.toNat) a))}}):=.of_wp λprog w A R s h=>by obtain⟨f,g,d,tk,os⟩:=s;obtain⟨e,h⟩:=h;have hz:=AutoListH.joined_fits c;wp_walk using wpAny_loadPart' e;refine wpAny_ite_false (decide_eq_false (Nat.not_lt.mpr hz)) ?_;wp_walk;exact⟨_,rfl,h⟩
section
variable{X:Cx}{c:Call}{e a b d:Expr}{p pa pb pd:P}{pos:Pos}
theorem Mg:fW X (binaryOp .Add) (λx y H Q=>∃l b xs o,x=.ref l/\y=.ref b/\fP X.K H l xs/\fP X.K H b o/\xs.length+o.length<=sizeLine/\∀p,H p=none->Q (.ref p) (upd H p (.lst (xs++o)))):=by
 intro A s σ H x y v u Q I E G h;obtain⟨l,b,xs,o,rfl,rfl,J,L,hz,q⟩:=h;cases E;cases G;obtain⟨g,r,M,_⟩:=I.list J;obtain⟨f,B,t,_⟩:=I.list L;obtain⟨⟨cls,N,data,sl⟩,ho,hc,n,hd⟩:=id M.isList;obtain⟨⟨C,w,data2,z⟩,j,k,O,m⟩:=id t.isList;simp only at hc hd k m;subst hc hd k m;have e:g.toArray++f.toArray=(g++f).toArray:=by simp
 refine concat_meets ⟨_,ho,rfl⟩ ⟨_,j,rfl⟩ noFill_list_add seq_list_add PySem.F.slot_list_add PySem.F.entry_list_add (PySem.F.args_list_add_2 _ _) (list_addW l b g.toArray f.toArray n O N w sl z (by simp only[size_toArray];rw[<-r.length,<-B.length];exact hz)) ⟨ho,j,?_⟩;rw[e];exact⟨.ref _,_,I.Tt (t':=s.toks) (r.append B) (by rw[length_append];exact hz),rfl,q _ I.fresh⟩
theorem G5:fW X (binaryOp .Add) (λx y H Q=>∃a b ys,x=.ref a/\y=.ref b/\jO X.K H a []/\jO X.K H b ys/\Q (.ref b) H):=by intro r s σ H x y v u Q I w z h;obtain⟨a,b,ys,rfl,rfl,A,B,q⟩:=h;cases w;cases z;obtain⟨l,r1,C,_⟩:=I.tuple A;obtain⟨f,M,E,_⟩:=I.tuple B;obtain⟨⟨cls,G,data,sl⟩,ho,hc,n,hd⟩:=id C;obtain⟨⟨t,m,data2,o⟩,g,j,J,k⟩:=id E;simp only at hc hd j k;subst hc hd j k;have L:l=[]:=r1.oW.mpr rfl;subst L;exact concat_meets ⟨_,ho,rfl⟩ ⟨_,g,rfl⟩ noFill_tuple_add seq_tuple_add slot_tuple_add entry_tuple_add (args_tuple_add_2 _ _) (tuple_addW0 a b _ f.toArray n J G m sl o (by simp)) ⟨ho,g,⟨.ref b,H,I,rfl,q⟩⟩
theorem aK:fW X (binaryOp .Add) (rD X.K (rM .add)):=by
 rintro f s σ H x y v u Q I g h⟨F,d,e,r,sm,o,q,he,k⟩;replace he:qd d e=some r:=he;unfold qd at he;split at he;.cases he;rw[o.int]at g;rw[q.int]at h;exact RT f s σ H _ _ v u Q I g h ⟨_,_,rfl,rfl,bY.cV sm (bN _) k⟩
 .rename_i xs ys;obtain⟨m,he⟩:=aU he;subst he;obtain⟨a,vs,rfl,t,j⟩:=o.lst sm;obtain⟨b,us,rfl,w,l⟩:=q.lst sm;exact Mg f s σ H _ _ v u Q I g h ⟨a,b,vs,us,rfl,rfl,t,w,by rw[j.length,l.length];exact m,λp z=>uL sm (j.append l) z k⟩
 . rename_i xs ys;obtain⟨m,he⟩:=aU he;subst he;obtain⟨a,vs,rfl,t,j,B⟩:=o.tup sm;obtain⟨b,us,rfl,w,l,C⟩:=q.tup sm;by_cases h0:vs=[]
   . subst h0;have A:xs=[]:=by have:=j.length;exact List.eq_nil_of_length_eq_zero this.symm
     subst A;exact G5 f s σ H _ _ v u Q I g h ⟨a,b,us,rfl,rfl,t,w,bY.cV sm C k⟩
   . refine Ly f s σ H _ _ v u Q I g h ⟨a,b,vs,us,rfl,rfl,t,w,h0,by rw[j.length,l.length];exact m,λe=>?_,λ_ p z=>zx sm (j.append l) z k⟩;subst e;have A:ys=[]:=by have:=l.length;exact List.eq_nil_of_length_eq_zero this.symm
     subst A;rw[append_nil]at k;exact bY.cV sm B k
 .rename_i E G;obtain⟨m,he⟩:=aU he;subst he;rw[o.str]at g;rw[q.str]at h;exact zH f s σ H _ _ v u Q I g h ⟨_,_,rfl,rfl,m,bY.cV sm (TJ _) k⟩
 .cases he
theorem cX:fW X (binaryOp .Sub) (rD X.K (rM .sub)):=by
 rintro f s σ H x y v u Q I g h⟨F,d,e,r,sm,j,l,he,k⟩;replace he:xU d e=some r:=he;unfold xU at he;split at he;.cases he;rw[j.int]at g;rw[l.int]at h;exact Tc f s σ H _ _ v u Q I g h ⟨_,_,rfl,rfl,bY.cV sm (bN _) k⟩
 .cases he
theorem Mf:fW X (binaryOp .Mult) (λx y H Q=>∃l k xs,x=.ref l/\y=.int k/\fP X.K H l xs/\-(2^63)<=k/\k<2^63/\xs.length*k.toNat<=sizeLine/\∀p,H p=none->Q (.ref p) (upd H p (.lst (replicate k.toNat xs).flatten))):=by
 intro w s σ H x y v u Q I A B h;obtain⟨l,k,xs,rfl,rfl,C,h1,E,hz,q⟩:=h;cases A;obtain⟨t,rfl⟩:=B;obtain⟨f,r,G,_⟩:=I.list C;obtain⟨⟨cls,z,data,sl⟩,ho,hc,n,hd⟩:=id G.isList;simp only at hc hd;subst hc hd;have g:f.toArray.size*k.toNat<=sizeLine:=by rw[size_toArray,<-r.length];exact hz
 have o:¬ f.toArray.size*k.toNat>(2^63-1)/8:=by
  have:(sizeLine:Nat)<=(2^63-1)/8:=by decide
  omega
 have j:foldl (·++·) #[] (replicate (if f.toArray.isEmpty=true then 0 else k.toNat) f.toArray)=(replicate k.toNat f).flatten.toArray:=by
  have f0:∀m:Nat,foldl (·++·) #[] (replicate m f.toArray)=(replicate m f).flatten.toArray:=λm=>by have:=foldl_rep f m [];rw[nil_append]at this;exact this
  rw[f0];cases f with|nil=>simp|cons a L=>rw[if_neg (by simp)]
 refine wpAny_binaryOp_repeat_ref (T:="list") (U:="int") (by decide) ⟨_,ho,rfl⟩ (λJ=>typeIs_int J k t) noFill_list_mul F.fills_int_mul F.slot_int_rmul repeat_list F.slot_int_index.lookup ?_;refine call_meets F.slot_int_rmul (typeIs_int s k t) F.entry_int_rmul (F.args_int_rmul_2 _ _) (rO k t l f.toArray n z sl) ⟨ho,rfl,⟨_,ho,rfl⟩,?_⟩;refine call_meets F.slot_list_mul ⟨_,ho,rfl⟩ F.entry_list_mul (F.args_list_mul_2 _ _) (CG l f.toArray n z sl k t (by rw[fitsIndex_both h1 E];exact Bool.false_ne_true) o (by rw[wI g];exact Bool.false_ne_true)) ⟨ho,?_⟩;rw[j];exact⟨.ref _,_,I.Tt (t':=s.toks) (r.rep k.toNat) (by rw[len_rep,Nat.mul_comm];exact hz),rfl,q _ I.fresh⟩
theorem nD:fillsNumberSlot (.type "tuple") "mul"=pure false:=PySem.fillsNumberSlot_seq (id:="tuple.__mul__") (r:=some (.builtin "tuple.__rmul__")) slot_tuple_mul.lookup (by decide+kernel) PySem.F.slot_tuple_rmul.lookup (by decide+kernel)
theorem vd:seqRepeat? (.type "tuple")=pure (some (.builtin "tuple.__mul__")):=by unfold seqRepeat?;rw[PySem.seqSlot_of (T:="tuple") (name:="__mul__") (id:="tuple.__mul__") slot_tuple_mul.lookup (by decide+kernel),PySem.seqSlot_of (T:="tuple") (name:="__rmul__") (id:="tuple.__rmul__") PySem.F.slot_tuple_rmul.lookup (by decide+kernel)];rfl
theorem pY(k:Int)(t:Tok)(l:Addr)(f:Array Value)(n:Nat)(j:Option Addr)(sl:Array (Option Value)):Meets (Builtin.«int.__rmul__» ⟨[.int k t,.ref l],[]⟩) (λ_ R s=>s.heap.get? l=some ⟨.type "tuple",j,.seq f n,sl⟩/\R (.ok (.ret Value.notImplemented)) s):=.of_wp λprog w A R s h=>by obtain⟨m,g,d,tk,os⟩:=s;obtain⟨o,h⟩:=h;wp_walk;exact⟨_,rfl,h⟩
theorem zf(l:Addr)(f:Array Value)(n:Nat)(r:Option Addr)(sl:Array (Option Value))(k:Int)(t:Tok)(h0:0<=k)(h1:k<2^63)(hz:f.size*k.toNat<=sizeLine)(u:0<f.size):Meets (Builtin.«tuple.__mul__» ⟨[.ref l,.int k t],[]⟩) (λ_ R s=>s.heap.get? l=some ⟨.type "tuple",r,.seq f n,sl⟩/\(k=1->R (.ok (.ret (Value.ref l))) s)/\(k≠1->R (.ok (.ret (Value.ref s.heap.objs.size))) {s with heap:=s.heap.push {cls:=.type "tuple",data:=.seq (foldl (·++·) #[] (replicate k.toNat f))}})):=.of_wp λprog w A R s h=>by
  obtain⟨y,g,d,tk,os⟩:=s;obtain⟨o,z,B⟩:=h;have j:f.isEmpty=false:=by cases e:f.isEmpty with|false=>rfl|true=>rw[Array.isEmpty_iff_size_eq_zero]at e;omega
  show wpAny _ _ (asIndex (.int k t)>>=_) _ _ _;wp_walk using wpAny_loadPart' o;have C:IsTup y l f:=⟨_,o,rfl,n,rfl⟩;rw[if_neg (by simp;omega)];refine wpAny_bind (PyProof.Rows.tupleItemsOf_ C ?_);try dsimp only
  by_cases m:k=1;.rw[if_pos (by simp[m])];wp_walk using wpAny_loadPart' o;exact⟨_,rfl,z m⟩
  . have q:=B m;rw[if_neg (by simp[j,m])];by_cases E:k=0;.subst E;rw[if_pos (by simp)];unfold tupleExact;refine wpAny_bind (wpAny_newObj_type ?_);exact wpAny_pure ⟨_,rfl,q⟩
    . have I:(f.size:Int)*k<=sizeLine:=by
       have:((f.size*k.toNat:Nat):Int)<=(sizeLine:Nat):=by exact_mod_cast hz
       rw[Int.natCast_mul,show((k.toNat:Nat):Int)=k by omega]at this;exact this
      have G:(sizeLine:Int)<=(2^63-1)/8:=by decide
      rw[if_neg (by simp[j];omega),if_neg (by omega),if_neg (by simp[Builtin.Tuple.tupleTooMany];omega)];unfold tupleExact;refine wpAny_bind (wpAny_newObj_type ?_ ?_);.exact wpAny_pure ⟨_,rfl,q⟩
      .have:=foldl_rep f.toList k.toNat [];rw[nil_append,show f.toList.toArray=f by simp]at this;show(foldl (·++·) #[] (replicate k.toNat f)).size<=sizeLine;rw[show(#[]:Array Value)=([]:List Value).toArray from rfl,this,size_toArray,len_rep,length_toList,Nat.mul_comm];exact hz
theorem Nf:fW X (binaryOp .Mult) (λx y H Q=>∃l k xs,x=.ref l/\y=.int k/\jO X.K H l xs/\0<xs.length/\0<=k/\k<2^63/\xs.length*k.toNat<=sizeLine/\(k=1->Q (.ref l) H)/\(k≠1->∀p,H p=none->Q (.ref p) (upd H p (.tup (replicate k.toNat xs).flatten)))):=by
 intro w s σ H x y v u Q I A B h;obtain⟨l,k,xs,rfl,rfl,C,m,h1,E,hz,G,J⟩:=h;cases A;obtain⟨t,rfl⟩:=B;obtain⟨f,r,L,_⟩:=I.tuple C;obtain⟨⟨cls,z,data,sl⟩,ho,hc,n,hd⟩:=id L;simp only at hc hd;subst hc hd;have g:f.toArray.size*k.toNat<=sizeLine:=by rw[size_toArray,<-r.length];exact hz
 have j:foldl (·++·) #[] (replicate k.toNat f.toArray)=(replicate k.toNat f).flatten.toArray:=by have:=foldl_rep f k.toNat [];rw[nil_append]at this;exact this
 refine wpAny_binaryOp_repeat_ref (T:="tuple") (U:="int") (by decide) ⟨_,ho,rfl⟩ (λM=>typeIs_int M k t) nD F.fills_int_mul F.slot_int_rmul vd F.slot_int_index.lookup ?_;refine call_meets F.slot_int_rmul (typeIs_int s k t) F.entry_int_rmul (F.args_int_rmul_2 _ _) (pY k t l f.toArray n z sl) ⟨ho,rfl,⟨_,ho,rfl⟩,?_⟩;refine call_meets slot_tuple_mul ⟨_,ho,rfl⟩ PySem.F.entry_tuple_mul (PySem.F.args_tuple_mul_2 _ _) (zf l f.toArray n z sl k t h1 E g (by rw[size_toArray,<-r.length];exact m)) ⟨ho,λe=>⟨.ref l,H,I,rfl,G e⟩,λe=>?_⟩;rw[j];refine⟨.ref s.heap.objs.size,_,I.laid (t':=s.toks) (o:=.tup (replicate k.toNat xs).flatten) (λb N q=>fJ q) (cO) ?_,rfl,J e _ (I.hok.fresh (cO))⟩;exact⟨by rw[len_rep,Nat.mul_comm];exact hz,_,r.rep k.toNat,IsTup.new _ _⟩
theorem cY:fW X (binaryOp .Mult) (rD X.K (rM .mul)):=by
 rintro f s σ H x y v u Q I l g⟨F,d,e,r,sm,o,q,he,k⟩;replace he:jA d e=some r:=he;unfold jA at he;split at he;.obtain⟨hc,he⟩:=aU he;subst he;rw[o.int]at l;rw[q.int]at g;exact Qp f s σ H _ _ v u Q I l g ⟨_,_,rfl,rfl,hc,bY.cV sm (bN _) k⟩
 . rename_i xs i;obtain⟨⟨h1,m,j⟩,he⟩:=aU he;subst he;obtain⟨a,vs,rfl,t,h⟩:=o.lst sm;rw[q.int]at g;have w:i<2^63:=by have z:=Nat.le_mul_of_pos_left i.toNat m;have B:i.toNat<=16777216:=le_trans z j;omega
   exact Mf f s σ H _ _ v u Q I l g ⟨a,i,vs,rfl,rfl,t,by omega,w,by rw[h.length];exact j,λp A=>uL sm (h.rep i.toNat) A k⟩
 . rename_i xs i;obtain⟨⟨h1,m,j⟩,he⟩:=aU he;subst he;obtain⟨a,vs,rfl,t,h,C⟩:=o.tup sm;rw[q.int]at g;have w:i<2^63:=by have z:=Nat.le_mul_of_pos_left i.toNat m;have B:i.toNat<=16777216:=le_trans z j;omega
   refine Nf f s σ H _ _ v u Q I l g ⟨a,i,vs,rfl,rfl,t,by rw[h.length];exact m,h1,w,by rw[h.length];exact j,λe=>?_,λe p A=>zx sm (h.rep i.toNat) A k⟩;subst e;refine bY.cV sm ?_ k;have E:(replicate (1:Int).toNat xs).flatten=xs:=by simp
   rw[E];exact C
 .cases he
theorem lX:fW X (binaryOp .FloorDiv) (rD X.K (rM .fdiv)):=by
 rintro f s σ H x y v u Q I g h⟨F,d,e,r,sm,l,m,he,k⟩;replace he:pN d e=some r:=he;unfold pN at he;split at he
 . rename_i i j;obtain⟨⟨h1,q⟩,he⟩:=aU he;subst he;rw[l.int]at g;rw[m.int]at h;obtain⟨t,rfl⟩:=g;obtain⟨t',rfl⟩:=h;have o:j.natAbs.log2<9000:=by
    have:j.natAbs<2^200:=by
     have:(2:Nat)^200=1606938044258990275541962092341162602522202993782792835301376:=by decide
     omega
    have w:=(Nat.log2_lt (by omega)).mpr this;omega
   exact floordiv_int (by omega) (by rw[Int.fdiv_eq_ediv_of_nonneg i (by omega)];exact⟨.int _,H,I.tok _,⟨_,rfl⟩,bY.cV sm (bN _) k⟩) (.inl (PyProof.noPylong_of_log2 o))
 .cases he
theorem eY:fW X (binaryOp .Mod) (rD X.K (rM .mod)):=by
 rintro f s σ H x y v u Q I g h⟨F,d,e,r,sm,j,l,he,k⟩;replace he:xH d e=some r:=he;unfold xH at he;split at he;.obtain⟨h1,he⟩:=aU he;subst he;rw[j.int]at g;rw[l.int]at h;exact RD f s σ H _ _ v u Q I g h ⟨_,_,rfl,rfl,h1,bY.cV sm (bN _) k⟩
 .cases he
theorem iM:fW X (binaryOp .Pow) (rD X.K (rM .pow)):=by
 rintro f s σ H x y v u Q I g h⟨F,d,e,r,sm,j,l,he,k⟩;replace he:wC d e=some r:=he;unfold wC at he;split at he;.obtain⟨⟨h1,o,m⟩,he⟩:=aU he;subst he;rw[j.int]at g;rw[l.int]at h;exact Rm f s σ H _ _ v u Q I g h ⟨_,_,rfl,rfl,⟨h1,by omega,m⟩,bY.cV sm (bN _) k⟩
 .cases he
theorem aq{o:Op}{op:Operator}(ho:fW X (binaryOp op) (rD X.K (rM o)))(f:SX X c a pa)(g:SX X c b pb):SX X c (.BinOp a op b pos) (.bin o pa pb):=uy (λh1 h=>Xo ho h1 h) f g (λρ=>rfl) rfl
theorem Je(j:SX X c a pa):SX X c (.UnaryOp .USub a pos) (.neg pa):=by refine Gy (f:=HQ) (λh1=>Pj ?_ h1) j (λρ=>rfl) rfl;rintro g s σ H x v Q I h⟨F,d,r,sm,l,he,k⟩;unfold HQ at he;obtain⟨i,m,o⟩:=map_some he;subst o;cases d<;>cases m;rw[l.int]at h;exact Iu g s σ H _ v Q I h ⟨_,rfl,bY.cV sm (bN _) k⟩
theorem Aj{f:Int->Int->Bool}(ho:fW X (compareOp op) (Lr λi j=>.bl (f i j))):fW X (compareOp op) (rD X.K λx y=>(J7 f x y).map λk=>.val (.bl k)):=by
 rintro g s σ H x y v u Q I l m⟨F,d,e,r,sm,o,q,he,k⟩;obtain⟨t,h,w⟩:=map_some (show(J7 f d e).map _=some r from he);subst w;unfold J7 at h;split at h;.cases h;rw[o.int]at l;rw[q.int]at m;exact ho g s σ H _ _ v u Q I l m ⟨_,_,rfl,rfl,bY.cV sm (jT _) k⟩
 .cases h
theorem Hg{f:Int->Int->Bool}(ho:fW X (compareOp op) (Lr λi j=>.bl (f i j))){o:Cm}(hc:cm o=J7 f):fW X (compareOp op) (rD X.K (o8 o)):=by
 have e:o8 o=λx y=>(J7 f x y).map λk=>.val (.bl k):=by funext x y;unfold o8;rw[hc]
 rw[e];exact Aj ho
theorem RX:fW X (compareOp .Lt) (rD X.K λx y=>(J7 (λi j=>decide (i<j)) x y).map λk=>.val (.bl k)):=Aj Xd
theorem uZ:fW X (compareOp .LtE) (rD X.K (o8 .le)):=Hg XF rfl
theorem j8:fW X (compareOp .Gt) (rD X.K (o8 .gt)):=Hg W0 rfl
theorem Dp{d:D}(h:dD K F H v d):decide (v=.non)=jC d:=by cases d with
 |non=>rw[h.non];rfl|bl _=>rw[h.bl];rfl|int _=>rw[h.int];rfl|str _=>rw[h.str];rfl|tup _=>
   rcases h with h|⟨a,_,_,rfl,_⟩;.rw[Rep]at h;obtain⟨a,_,rfl,_⟩:=h;rfl
   .rfl|lst _=>
   rcases h with h|⟨a,_,_,rfl,_⟩;.rw[Rep]at h;obtain⟨a,_,rfl,_⟩:=h;rfl
   .rfl|dq _=>
   rcases h with h|⟨a,_,_,rfl,_⟩;.rw[Rep]at h;obtain⟨a,_,rfl,_⟩:=h;rfl
   .rfl|dv _ _=>
   rcases h with h|⟨a,_,_,rfl,_⟩;.rw[Rep]at h;obtain⟨a,_,_,rfl,_⟩:=h;rfl
   .rfl
theorem Mi:fW X (compareOp .IsNot) (rD X.K (o8 .Nk)):=by
 rintro f s σ H x y v u Q I h j⟨F,d,e,r,sm,l,m,he,k⟩;obtain⟨t,g,o⟩:=map_some (show(cmN true d e).map _=some r from he);subst o;unfold cmN at g;split at g;.cases g;exact Kd f s σ H x y v u Q I h j ⟨m.non,by rw[Dp l];exact bY.cV sm (jT _) k⟩
 .cases g
theorem Jv{o:Cm}(ho:fW X (compareOp op) (rD X.K (o8 o)))(f:SX X c a pa)(g:SX X c b pb)(h:behindInMarks op b=false):SX X c (.Compare a [op] [b] pos) (.cmp o pa pb):=uy (λh1 j=>Kf ho h1 j h) f g (λρ=>rfl) rfl
end
section
variable{X:Cx}{c:Call}{e a b d:Expr}{p pa pb pd:P}{pos:Pos}{rest:List Expr}
theorem Hv{x:D}{k:Bool}(h:Wd x=some k):x=.bl k:=by cases x<;>cases h;rfl
theorem cJ{x:D}{k:Int}(h:gF x=some k):x=.int k:=by cases x<;>cases h;rfl
theorem cR.bool{g j:Hp}{f:L2.St}{r:R}{k:Bool}(h:cR K g ρ' f j ρ σ H v r)(e:r.d=.bl k):v=.bl k:=by cases r with|val d=>cases(show d=.bl k from e);have h:Rep K g v (.bl k):=h;rw[Rep]at h;exact h|own ds=>cases e
def ST(X:Cx)(c:Call)(e:Expr)(p:P):Prop:=PT X e (HY X.K (jM (HH.ev c p)))
def SW(X:Cx)(c:Call)(e:Expr)(p:P):Prop:=PW X e (HY X.K (jM (HH.ev c p)))
theorem SW.st(h:SW X c e p):ST X c e p:=PW.pt h
theorem qm{t:TE}{Q:Bool->Hp->Prop}(hi:∀Q,Bv X.K (HH.ev c p) σ H Q->t σ H Q)(h:HY X.K (jM (HH.ev c p)) σ H Q):t σ H λx l=>∃k,x=.bl k/\Q k l:=by obtain⟨F,ρ,k,ρ',g,e,q⟩:=h;obtain⟨r,j,m,f⟩:=aj e;have o:=aC f;clear f;obtain⟨f,u⟩:=o;subst u;exact hi _ ⟨F,ρ,r,j,g,m,λv w y s z=>⟨k,z.bool (Hv f),q w y s⟩⟩
theorem nj(h:SX X c e p)(he:∀f,isTrue e X.env f=(do let v<-f;standAt e.pos;holding [v] (truthy v)):=by intro _;rfl):ST X c e p:=sY (TQ h.ev he) λσ H Q q=>qm (λ_ z=>z) q
theorem cN{o:Cm}(ho:fW X (compareOp op) (rD X.K (o8 o)))(j:SX X c a pa)(l:SX X c b pb)(m:behindInMarks op b=false):ST X c (.Compare a [op] [b] pos) (.cmp o pa pb):=by obtain⟨y,A,h1,B,C⟩:=j.ie l;refine sY (Bs ho h1 B m) λσ H Q q=>qm (t:=Rf (rD X.K (o8 o)) y A) (λQ z=>?_) q;obtain⟨F,ρ,r,ρ',g,e,k⟩:=z;rw[HH.E8]at e;obtain⟨h,E,G,f⟩:=aj e;have I:=aC f;clear f;obtain⟨f,J⟩:=I;subst J;refine C g G λv u L Y s M N=>⟨L,h.1,h.2,r,s.gs.sub,M,N,f,λw O U x W=>?_⟩;exact k w O U (s.trans (x.stp s.gs)) (.later s (W.mC s.gs))
theorem uP(l:ST X c a pa):ST X c (.UnaryOp .Not a pos) (.not pa):=by
 refine sY (Tf l) ?_;rintro σ H Q⟨F,ρ,k,ρ',g,e,q⟩;unfold jM at e;rw[HH.E5]at e;obtain⟨r,m,o,f⟩:=aj e;obtain⟨h,t,u,w⟩:=aj o;cases w;have y:=aC f;clear f;obtain⟨f,z⟩:=y;subst z;have f:(!h)=k:=by cases f;rfl
 exact⟨F,ρ,h,_,g,u,λA j s=>by show Q (!h) j;rw[f];exact q A j s⟩
theorem Ql(ρ:List Sl):jM (HH.ev c (.or pa pb)) ρ=(jM (HH.ev c pa) ρ).bind λx ρ=>if x then .ok true ρ else jM (HH.ev c pb) ρ:=by unfold jM;rw[HH.E7];unfold jM;cases HH.ev c pa ρ with|exc _ _=>rfl|stuck=>rfl|ok r f=>simp only[Res.bind];cases h:Wd r.d with|none=>rfl|some k=>cases k with|true=>rfl|false=>simp only[lift,false_eq_true,if_false];cases HH.ev c pb f with|exc _ _=>rfl|stuck=>rfl|ok g j=>simp only[Res.bind];cases h2:Wd g.d with|none=>rfl|some l=>rfl
theorem Gg(f:ST X c a pa):SW X c (.BoolOp .Or [a] pos) pa:=S9 f
theorem Oa(h:ST X c a pa)(j:SW X c (.BoolOp .Or (b::rest) pos) pb):SW X c (.BoolOp .Or (a::b::rest) pos) (.or pa pb):=by refine YZ (Wu h j) ?_;rintro σ H Q⟨F,ρ,k,ρ',g,e,q⟩;rw[Ql]at e;obtain⟨x,f,l,e⟩:=aj e;refine⟨F,ρ,x,f,g,l,λF1 m s1=>?_⟩;cases x with|true=>rw[if_pos rfl]at e ⊢;cases e;exact q F1 m s1|false=>rw[if_neg Bool.false_ne_true]at e ⊢;exact⟨F1,f,k,ρ',s1.gs,e,λo r s2=>q o r (s1.trans s2)⟩
theorem pU(hc:ST X c e p)(u:SX X c a pa)(w:SX X c b pb):SX X c (.IfExp e a b pos) (.Nm p pa pb):=by refine⟨fu (Ff hc u.ev w.ev) ?_,λi h=>by cases h⟩;rintro σ H Q⟨F,ρ,r,ρ',g,e,k⟩;rw[HH.E10]at e;obtain⟨x,f,y,e⟩:=aj e;refine⟨F,ρ,x,f,g,y,λF1 A s1=>?_⟩;cases x with|true=>rw[if_pos rfl]at e ⊢;obtain⟨j,l,m,o⟩:=aj e;cases o;refine⟨F1,f,j,_,s1.gs,m,λv z q s2 s=>?_⟩;obtain⟨F3,s3,_,t⟩:=s2.dh s;exact k v F3 q (s1.trans s3) t|false=>rw[if_neg Bool.false_ne_true]at e ⊢;obtain⟨j,l,m,o⟩:=aj e;cases o;refine⟨F1,f,j,_,s1.gs,m,λv z q s2 s=>?_⟩;obtain⟨F3,s3,_,t⟩:=s2.dh s;exact k v F3 q (s1.trans s3) t
theorem uT:∀{ps:List P}{ρ ρ':List Sl}{ds:List D},evs c ps ρ=.ok ds ρ'->ds.length=ps.length|[],_,_,_,h=>by rw[Hf]at h;cases h;rfl|p::ps,_,_,_,h=>by rw[FP]at h;obtain⟨r,f,_,h⟩:=aj h;obtain⟨xs,g,j,h⟩:=aj h;cases h;simp[uT j]
theorem aG:SA X c [] []:=⟨wR dY λσ H Q⟨F,ρ,ds,ρ',g,e,k⟩=>by rw[Hf]at e;cases e;exact k [] F H (.refl g) .nil,rfl⟩
theorem An{ps:List P}(h:SX X c a pa)(hr:SA X c es ps)(hs:starEach (a::es) X.env=(false,eval a X.env)::starEach es X.env:=by rfl):SA X c (a::es) (pa::ps):=by refine⟨wR (cu h.ev hr.1 hs) ?_,by simp[hr.2]⟩;rintro σ H Q⟨F,ρ,ds,ρ',g,e,k⟩;rw[FP]at e;obtain⟨r,f,j,e⟩:=aj e;obtain⟨xs,l,m,e⟩:=aj e;cases e;refine⟨F,ρ,r,f,g,j,λv w y s o=>?_⟩;obtain⟨F1,s1,_,q⟩:=s.dh o;refine⟨F1,f,xs,_,s1.gs,m,λvs t u s2 rs=>?_⟩;exact k _ t u (s1.trans s2) (.cons (q.mono s2.cW) rs)
theorem Ext.K3{h j:Hp}{Q:VK}{xs:List V}(s:az K j ρ σ h F ρ' σ H)(r:aF K F xs ds)(k:∀v g f,az K j ρ σ h g ρ' σ f->cR K g ρ' σ f ρ σ h v (.val (.tup ds))->Q v f)(p:Addr)(l:H p=none):Q (.ref p) (upd H p (.tup xs)):=zx s.gs.sub r l λv g f x m=>k v g f (s.trans (x.stp s.gs)) m
theorem bf{ps:List P}{x1}(h:SA X c es ps)(hz:ps.length<=sizeLine:=by decide):SX X c (.Tuple es x1 pos) (.tup ps):=by refine⟨fu (Th h.1) ?_,λi h=>by cases h⟩;rintro σ H Q⟨F,ρ,r,ρ',g,e,k⟩;rw[HH.E11]at e;obtain⟨ds,j,f,e⟩:=aj e;cases e;exact⟨F,ρ,ds,_,g,f,λvs m o s rs=>⟨by rw[rs.length,uT f];exact hz,λp l=>Ext.K3 s rs k p l⟩⟩
theorem dB{ps:List P}(h:SA X c es ps)(hz:ps.length<=sizeLine:=by decide):SX X c (.List es pos) (.lst ps):=by refine⟨fu (RG h.1) ?_,λi h=>by cases h⟩;rintro σ H Q⟨F,ρ,r,ρ',g,e,k⟩;rw[HH.E12]at e;obtain⟨ds,j,f,e⟩:=aj e;cases e;exact⟨F,ρ,ds,_,g,f,λvs t u s rs=>⟨by rw[rs.length,uT f];exact hz,λp l=>uL s.gs.sub rs l λv m o x q=>k v m o (s.trans (x.stp s.gs)) (.later s (q.mC s.gs))⟩⟩
theorem HF{i:Int}{d:D}(h:at' ds i=some d):∃j,L2.iW ds.length i=some j/\ds[j]?=some d:=bV h
theorem acD:IxR X (rD X.K Dn):=by
 rintro f slice g s σ H x y v u Q I m l⟨F,d,e,r,sm,q,t,he,k⟩hs;unfold Dn at he;obtain⟨ds,A,he⟩:=bV he;obtain⟨i,B,he⟩:=bV he;obtain⟨z,C,he⟩:=map_some he;subst he;cases cJ B;rw[t.int]at l;obtain⟨p,xs,rfl,hq,rs⟩:=q.items sm A;obtain⟨j,h1,E⟩:=HF C;obtain⟨w,G,o⟩:=rs.get E;have h:Gx xs i=some w:=by unfold Gx;rw[rs.length,h1];exact G
 rcases hq with hq|hq;.exact Ah f slice g s σ H _ _ v u Q I m l ⟨p,xs,i,w,rfl,rfl,hq,h,bY.cV sm o k⟩ hs
 .exact Sy f slice g s σ H _ _ v u Q I m l ⟨p,xs,i,w,rfl,rfl,hq,h,bY.cV sm o k⟩ hs
theorem ao(g:SX X c a pa)(h:SX X c b pb)(hs:vC b:=by intro _ _;rfl):SX X c (.Subscript a b pos) (.idx pa pb):=uy (f:=Dn) (λh1 j=>Pz acD h1 j hs) g h (λρ=>rfl) rfl
def O3(K:PySem.W.Frag)(f:D->Option R):List V->Hp->VK->Prop:=λxs H Q=>∃x,xs=[x]/\rD1 K f x H Q
theorem qO{E:Expr}{f:D->Option R}{q:P}(l:∀{t},PA X [a] t->PE X E (WW (O3 X.K f) t))(m:SX X c a pa)(o:∀ρ,HH.ev c q ρ=(HH.cH (isVar pa) (HH.ev c pa) ρ).bind λx ρ=>lift (f x) ρ)(u:isVar q=none)(hs:starEach [a] X.env=(false,eval a X.env)::starEach [] X.env:=by rfl):SX X c E q:=by obtain⟨N,h1,y⟩:=m.cH;refine⟨fu (l (cu h1 dY hs)) ?_,λi h=>by rw[u]at h;cases h⟩;rintro σ H Q⟨F,ρ,r,ρ',g,e,k⟩;rw[o]at e;obtain⟨x,z,A,j⟩:=aj e;have B:=aC j;clear j;obtain⟨j,C⟩:=B;subst C;refine y g A λv G O s I=>⟨v,rfl,G,x,r,s.gs.sub,I,j,λw J L x M=>?_⟩;exact k w J L (s.trans (x.stp s.gs)) (.later s (M.mC s.gs))
theorem Xf:fG X (.builtin "len") (O3 X.K λx=>blt .len [x]):=by rintro f s σ H xs us Q I r⟨x,g,F,d,h,sm,j,he,k⟩;obtain⟨ds,l,he⟩:=map_some (show(items d).map _=some h from he);subst he;obtain⟨p,ys,rfl,m,rs⟩:=j.items sm l;exact uU f s σ H xs us Q I r ⟨p,ys,g,m,by rw[rs.length];exact bY.cV sm (bN _) k⟩
theorem Q9:fG X (.type "list") (O3 X.K λx=>blt .list [x]):=by rintro f s σ H xs us Q I r⟨x,g,F,d,h,sm,j,he,k⟩;obtain⟨ds,m,he⟩:=map_some (show(items d).map _=some h from he);subst he;obtain⟨p,ys,rfl,o,rs⟩:=j.items sm m;exact u9 f s σ H xs us Q I r ⟨p,ys,g,o,λl q=>uL sm rs q k⟩
theorem Mz:fG X (.type "tuple") (O3 X.K λx=>blt .tuple [x]):=by rintro f s σ H xs us Q I r⟨x,j,F,d,o,sm,m,he,k⟩;obtain⟨ds,g,he⟩:=map_some (show(items d).map _=some o from he);subst he;cases d with|tup es=>cases g;obtain⟨a,ys,rfl,h,rs,rt⟩:=m.tup sm;exact jU f s σ H xs us Q I r ⟨a,ys,j,.inr ⟨h,bY.cV sm rt k⟩⟩|lst es=>cases g;obtain⟨a,ys,rfl,h,rs⟩:=m.lst sm;exact jU f s σ H xs us Q I r ⟨a,ys,j,.inl ⟨h,λl q=>zx sm rs q k⟩⟩|_=>cases g
theorem j6(f:x="len")(g:Gl X x)(j:X.mg x=none)(k:SX X c a pa)(hs:starEach [a] X.env=(false,eval a X.env)::starEach [] X.env:=by rfl):SX X c (.Call (.Name x p') [a] [] pos) (.blt .len [pa]):=by subst f;exact qO (λh=>gb Xf g j PySem.boot_len h (he:=hs)) k (λρ=>rfl) rfl hs
theorem Ls(f:x="list")(g:Gl X x)(j:X.mg x=none)(k:SX X c a pa)(hs:starEach [a] X.env=(false,eval a X.env)::starEach [] X.env:=by rfl):SX X c (.Call (.Name x p') [a] [] pos) (.blt .list [pa]):=by subst f;exact qO (λh=>nG Q9 g j (by decide+kernel) h (he:=hs)) k (λρ=>rfl) rfl hs
theorem jj(f:x="tuple")(g:Gl X x)(j:X.mg x=none)(k:SX X c a pa)(hs:starEach [a] X.env=(false,eval a X.env)::starEach [] X.env:=by rfl):SX X c (.Call (.Name x p') [a] [] pos) (.blt .tuple [pa]):=by subst f;exact qO (λh=>nG Mz g j (by decide+kernel) h (he:=hs)) k (λρ=>rfl) rfl hs
end
def Mm(K:PySem.W.Frag)(np:Nat)(f:List Sl->Res R):Sp:=λvs H Q _=>vs.length=np/\∃F args r a,GS K F args (vs.map some) H/\f args=.ok r a/\∀v e b c,az K F args (vs.map some) H e a b c->cR K e a b c args (vs.map some) H v r->Q v c
section
variable{K:PySem.W.Frag}
def yZ(K:PySem.W.Frag)(F:Hp)(ρ:List Sl)(σ:L2.St)(H:Hp)(ρ₀:List Sl)(H₀:Hp)(v:V):Arg->Prop|.dat d=>Rep K F v d|.tmp ds=>∃x xs,v=.ref x/\H x=some (.lst xs)/\F x=none/\aF K F xs ds/\¬ Own ρ σ x/\(Own ρ₀ σ x\/H₀ x=none)|.fc i=>σ[i]?=some (some v)
structure wL(K:PySem.W.Frag)(F:Hp)(ρ:List Sl)(σ:L2.St)(H:Hp)(ρ₀:List Sl)(H₀:Hp)(as:List Arg)(vs:List V):Prop where
 len:as.length=vs.length
 one:∀(j:Nat)(a:Arg)(v:V),as[j]?=some a->vs[j]?=some v->yZ K F ρ σ H ρ₀ H₀ v a
 dis:∀(j k:Nat)(ds es:List D)(x:Addr),as[j]?=some (.tmp ds)->as[k]?=some (.tmp es)->vs[j]?=some (.ref x)->vs[k]?=some (.ref x)->j=k
theorem yZ.later{b f:Hp}{a:Arg}(s:az K F ρ σ H b ρ' σ f)(h:yZ K F ρ σ H ρ₀ H₀ v a):yZ K b ρ' σ f ρ₀ H₀ v a:=by cases a with|dat d=>exact Rep.mono s.cW h|fc i=>exact h|tmp ds=>
   obtain⟨x,xs,h1,c,g,j,e,k⟩:=h;refine⟨x,xs,h1,s.keep x _ c e,?_,j.mono s.cW,λo=>?_,k⟩;.cases q:b x with|none=>rfl|some o=>
       rcases s.ye x g (by rw[q];simp)with z|z;.exact absurd z e
       .exact(Ik c z).elim
   . rcases s.vV x o with z|z;.exact e z
     .rw[c]at z;cases z
theorem wL.nil:wL K F ρ σ H ρ₀ H₀ [] []:=⟨rfl,λj a v h=>by simp at h,λj k ds es x h=>by simp at h⟩
theorem wL.cons{F H H₀:Hp}{ρ ρ₀:List Sl}{σ:L2.St}{a:Arg}{v:V}{as:List Arg}{vs:List V}(h:yZ K F ρ σ H ρ₀ H₀ v a)(t:wL K F ρ σ H ρ₀ H₀ as vs)(hd:∀ds x,a=.tmp ds->v=.ref x->∀(k:Nat)es,as[k]?=some (.tmp es)->vs[k]?≠some (.ref x)):wL K F ρ σ H ρ₀ H₀ (a::as) (v::vs):=by
 refine⟨by simp[t.len],λj b u h1 c=>?_,λj k ds es x h1 c e f=>?_⟩;.cases j with|zero=>simp at h1 c;subst h1;subst c;exact h|succ j=>exact t.one j b u (by simpa using h1) (by simpa using c)
 .cases j with
   |zero=>cases k with|zero=>rfl|succ k=>simp at h1 e;exact absurd (by simpa using f) (hd ds x h1 e k es (by simpa using c))
   |succ j=>cases k with|zero=>simp at c f;exact absurd (by simpa using e) (hd es x c f j ds (by simpa using h1))|succ k=>rw[t.dis j k ds es x (by simpa using h1) (by simpa using c) (by simpa using e) (by simpa using f)]
def Gk(ρ:List Sl):Arg->Sl->Prop|.dat d,s=>s=.val false d|.tmp ds,s=>s=.own false ds|.fc i,s=>(∃b d,ρ[i]?=some (.val b d)/\s=.val false d)\/(∃b ds,ρ[i]?=some (.own b ds)/\s=.own true ds)\/∃ds,ρ[i]?=some (.lent ds)/\s=.lent ds
theorem pW{ρ:List Sl}:∀{as:List Arg}{c:List Nat}{args:List Sl},bQ ρ as c=some args->args.length=as.length/\(∀(j:Nat)(a:Arg)(s:Sl),as[j]?=some a->args[j]?=some s->Gk ρ a s)/\(∀(j:Nat)(i:Nat)(s:Sl)ds,as[j]?=some (.fc i)->args[j]?=some s->lst? s=some ds->i∉c)/\(∀(j k:Nat)(i:Nat)(s t:Sl)ds es,as[j]?=some (.fc i)->as[k]?=some (.fc i)->args[j]?=some s->args[k]?=some t->lst? s=some ds->lst? t=some es->j=k)
 |[],c,args,h=>by rw[zA]at h;cases h;exact⟨rfl,λj a s h=>by simp at h,λj i s ds h=>by simp at h,λj k i s t ds es h=>by simp at h⟩|a::as,c,args,h=>by--the adT slot,the adU
   have key:∃s0 r u,args=s0::r/\bQ ρ as u=some r/\Gk ρ a s0/\((∃i ds,a=.fc i/\lst? s0=some ds/\u=i::c/\i∉c)\/((∀i ds,a=.fc i->lst? s0≠some ds)/\u=c)):=by cases a with|dat d=>rw[yW]at h;obtain⟨r,g,l⟩:=map_some h;exact⟨_,r,c,l.symm,g,rfl,.inr ⟨λi ds z=>(by cases z),rfl⟩⟩|tmp d=>rw[yx]at h;obtain⟨r,g,l⟩:=map_some h;exact⟨_,r,c,l.symm,g,rfl,.inr ⟨λi ds z=>(by cases z),rfl⟩⟩|fc i=>
      rw[pP]at h;split at h;.rename_i b d q;obtain⟨r,g,l⟩:=map_some h;exact⟨_,r,c,l.symm,g,.inl ⟨b,d,q,rfl⟩,.inr ⟨λ_ _ _ z=>(by cases z),rfl⟩⟩
      . rename_i b ds q;split at h;.cases h
        .rename_i o;obtain⟨r,g,l⟩:=map_some h;exact⟨_,r,_,l.symm,g,.inr (.inl ⟨b,ds,q,rfl⟩),.inl ⟨i,_,rfl,rfl,rfl,by simpa using o⟩⟩
      . rename_i ds q;split at h;.cases h
        .rename_i o;obtain⟨r,g,l⟩:=map_some h;exact⟨_,r,_,l.symm,g,.inr (.inr ⟨ds,q,rfl⟩),.inl ⟨i,_,rfl,rfl,rfl,by simpa using o⟩⟩
      .cases h
   obtain⟨s0,r,u,rfl,hr,A,o⟩:=key;obtain⟨M,l2,B,N⟩:=pW hr;have sub:∀i,i∉u->i∉c:=λi hi J=>by
    rcases o with⟨_,_,_,_,rfl,_⟩|⟨_,rfl⟩;.exact hi (mem_cons_of_mem _ J)
    .exact hi J
   refine⟨by simp[M],λj b s h1 f=>?_,λj i s ds h1 f p=>?_,λj k i s t ds es h1 f p y C E=>?_⟩;.cases j with|zero=>simp at h1 f;subst h1;subst f;exact A|succ j=>exact l2 j b s (by simpa using h1) (by simpa using f)
   .cases j with|zero=>
       simp at h1 f;subst h1;subst f;rcases o with⟨L,_,e,_,_,m⟩|⟨m,_⟩;.cases e;exact m
       .exact absurd p (m i ds rfl)|succ j=>exact sub i (B j i s ds (by simpa using h1) (by simpa using f) p)
   . have O:∀(k:Nat)(t:Sl)es,a=.fc i->lst? s0=some ds->(as[k]?=some (.fc i))->r[k]?=some t->lst? t=some es->False:=λk t es w G I ht he=>by
      rcases o with⟨L,_,e,_,rfl,m⟩|⟨m,_⟩;.rw[w]at e;cases e;exact B k i t es I ht he mem_cons_self
      .exact m i ds w G
     have Q:∀(k:Nat)(t:Sl)es,a=.fc i->lst? s0=some es->(as[k]?=some (.fc i))->r[k]?=some t->lst? t=some ds->False:=λk t es w G I ht he=>by
      rcases o with⟨L,_,e,_,rfl,m⟩|⟨m,_⟩;.rw[w]at e;cases e;exact B k i t ds I ht he mem_cons_self
      .exact m i es w G
     cases j with
     |zero=>cases k with|zero=>rfl|succ k=>simp at h1 p;subst p;exact(O k t es h1 C (by simpa using f) (by simpa using y) E).elim
     |succ j=>cases k with|zero=>simp at f y;subst y;exact(Q j s es f E (by simpa using h1) (by simpa using p) C).elim|succ k=>rw[N j k i s t ds es (by simpa using h1) (by simpa using f) (by simpa using p) (by simpa using y) C E]
theorem wL.get{vs:List V}(A:wL K F ρ σ H ρ₀ H₀ as vs){args:List Sl}{j:Nat}{s:Sl}(c:args.length=as.length)(h:args[j]?=some s):∃a v,as[j]?=some a/\vs[j]?=some v/\yZ K F ρ σ H ρ₀ H₀ v a:=by
 have e:j<args.length:=(eG h).1;have h1:j<as.length:=by omega
 have b:j<vs.length:=by rw[<-A.len];exact h1
 exact⟨as[j],vs[j],by simp[h1],by simp[b],A.one j _ _ (by simp[h1]) (by simp[b])⟩
theorem args_gs{vs:List V}{args:List Sl}(g:GS K F ρ σ H)(A:wL K F ρ σ H ρ₀ H₀ as vs)(h:bQ ρ as []=some args):GS K F args (vs.map some) H:=by
 obtain⟨I,l2,l3,Z⟩:=pW h;have M:∀{j:Nat}{v:V},vs[j]?=some v->(vs.map some)[j]?=some (some v):=λe=>by rw[getElem?_map,e];rfl
 have dn:∀{j:Nat}{v:V},(vs.map some)[j]?=some (some v)->vs[j]?=some v:=λ{j v}e=>by rw[getElem?_map]at e;cases q:vs[j]?with|none=>rw[q]at e;cases e|some w=>rw[q]at e;cases e;rfl
 refine⟨g.sub,by rw[I,A.len,length_map],λj b d e=>?_,λj s ds e J=>?_,λj k x⟨⟨s,ds,e1,e2⟩,N⟩⟨⟨t,es,f1,f2⟩,f3⟩=>?_⟩;.obtain⟨a,v,h1,u,m⟩:=A.get I e;have B:=l2 j a _ h1 e;refine⟨v,M u,?_⟩;cases a with|dat d'=>cases B;exact m|tmp ds=>cases B|fc i=>
     rcases B with⟨O,d',r,c⟩|⟨_,_,_,c⟩|⟨_,_,c⟩;.cases c;obtain⟨w,f,p⟩:=g.val i O d r;have m:σ[i]?=some (some v):=m;rw[m]at f;cases f;exact p
     .cases c
     .cases c
 .obtain⟨a,v,h1,u,m⟩:=A.get I e;have B:=l2 j a _ h1 e;cases a with|dat d'=>cases B;cases J|tmp es=>cases B;cases J;obtain⟨x,xs,rfl,c,f,p,_⟩:=m;exact⟨x,_,M u,c,f,xs,rfl,p⟩|fc i=>
     have m:σ[i]?=some (some v):=m;rcases B with⟨O,d',r,c⟩|⟨O,es,r,c⟩|⟨es,r,c⟩;.cases c;cases J
     .cases c;cases J;obtain⟨x,xs,f,p⟩:=g.own i _ _ r rfl;rw[m]at f;cases f;exact⟨x,xs,M u,p⟩
     .cases c;cases J;obtain⟨x,xs,f,p⟩:=g.own i _ _ r rfl;rw[m]at f;cases f;exact⟨x,xs,M u,p⟩
 . obtain⟨a,v,h1,u,m⟩:=A.get I e1;obtain⟨Q,v',C,L,E⟩:=A.get I f1;have N:=dn N;have f3:=dn f3;rw[u]at N;cases N;rw[L]at f3;cases f3;have s1:=l2 j a _ h1 e1;have s2:=l2 k Q _ C f1;have U:∀{i:Nat}{s:Sl}{ds:Oc},lst? s=some ds->Gk ρ (.fc i) s->∃G o,ρ[i]?=some G/\lst? G=some o:=λ{i s ds}l z=>by
    rcases z with⟨_,_,_,z⟩|⟨b,es,q,_⟩|⟨es,q,_⟩;.subst z;cases l
    .exact⟨_,_,q,rfl⟩
    .exact⟨_,_,q,rfl⟩
   cases a with
   |dat d=>cases s1;cases e2|tmp Uw=>cases Q with|dat d=>cases s2;cases f2|tmp Y=>exact A.dis j k Uw Y x h1 C u L|fc i=>obtain⟨y,_,r,_,_,_,c,_⟩:=m;cases r;obtain⟨G,o,f,p⟩:=U f2 s2;exact absurd ⟨i,⟨G,o,f,p⟩,E⟩ c
   |fc i=>obtain⟨G,o,f,p⟩:=U e2 s1;cases Q with|dat d=>cases s2;cases f2|tmp Y=>obtain⟨y,_,r,_,_,_,c,_⟩:=E;cases r;exact absurd ⟨i,⟨G,o,f,p⟩,m⟩ c|fc i'=>obtain⟨W,X,q5,q6⟩:=U f2 s2;have:=g.dis i i' x ⟨⟨G,o,f,p⟩,m⟩ ⟨⟨W,X,q5,q6⟩,E⟩;subst this;exact Z j k i s t ds es h1 C e1 f1 e2 f2
theorem ni{as:List Arg}{ss:List Sl}:∀(ρ:List Sl)(n i:Nat),(dR as ss n ρ)[i]?=(ρ[i]?).map λs=>dJ s (aR (n+i) as ss)
 |[],n,i=>by simp[qe,j7]|s::ρ,n,0=>by simp[qe,j7]|s::ρ,n,i+1=>by
   rw[j7];simp only[List.getElem?_cons_succ];rw[ni ρ (n+1) i];have:n+1+i=n+(i+1):=by omega
   rw[this]
theorem mR{as:List Arg}{ss:List Sl}:∀(ρ:List Sl)(n:Nat),(dR as ss n ρ).length=ρ.length|[],n=>rfl|s::ρ,n=>by rw[j7];simp[mR ρ]
theorem iC{i:Nat}:∀{as:List Arg}{ss:List Sl}{t:Sl},aR i as ss=some t->∃j:Nat,as[j]?=some (.fc i)/\ss[j]?=some t
 |[],_,_,h=>by simp[aR]at h|a::as,[],_,h=>by cases a<;>simp[aR]at h|a::as,s::ss,t,h=>by
   have b:aR i as ss=some t->∃j:Nat,(a::as)[j]?=some (.fc i)/\(s::ss)[j]?=some t:=λh=>by obtain⟨j,h1,c⟩:=iC h;exact⟨j+1,by simpa using h1,by simpa using c⟩
   cases a with|dat d=>exact b (by simpa[aR]using h)|tmp d=>exact b (by simpa[aR]using h)|fc k=>
     rw[aR]at h;split at h;.rename_i e;cases h;subst e;exact⟨0,rfl,rfl⟩
     .exact b h
theorem kJ{i:Nat}:∀{as:List Arg}{ss:List Sl},as.length=ss.length->aR i as ss=none->∀j:Nat,as[j]?≠some (.fc i)
 |[],_,_,_=>λj h=>by simp at h|a::as,[],b,_=>by simp at b|a::as,s::ss,b,h=>λj c=>by
   have f:as.length=ss.length:=by simpa using b
   have g:aR i as ss=none/\a≠.fc i:=by cases a with|dat d=>exact⟨by simpa[aR]using h,by simp⟩|tmp d=>exact⟨by simpa[aR]using h,by simp⟩|fc k=>
      rw[aR]at h;split at h;.cases h
      .rename_i l;exact⟨h,λe=>l (by cases e;rfl)⟩
   cases j with|zero=>simp at c;exact g.2 c|succ j=>exact kJ f g.1 j (by simpa using c)
theorem GR{Q X H':Hp}{args c:List Sl}{Y:L2.St}{vs:List V}(s0:az K Q ρ₀ σ H₀ F ρ σ H)(A:wL K F ρ σ H ρ₀ H₀ as vs)(hb:bQ ρ as []=some args)(s:az K F args (vs.map some) H X c Y H'):az K Q ρ₀ σ H₀ X (dR as c 0 ρ) σ H'/\∀v r,cR K X c Y H' args (vs.map some) H v r->cR K X (dR as c 0 ρ) σ H' ρ₀ σ H₀ v r:=by
 have g:=s0.gs;obtain⟨M,l2,l3,l4⟩:=pW hb;have up:∀{j:Nat}{v:V},vs[j]?=some v->(vs.map some)[j]?=some (some v):=λe=>by rw[getElem?_map,e];rfl
 have dn:∀{j:Nat}{v:V},(vs.map some)[j]?=some (some v)->vs[j]?=some v:=λ{j v}e=>by rw[getElem?_map]at e;cases q:vs[j]?with|none=>rw[q]at e;cases e|some w=>rw[q]at e;cases e;rfl
 have la:as.length=c.length:=by rw[s.len,M]--whose are the lists that the callee holds
 have own:∀b,Own args (vs.map some) b->(∃(j:Nat)(ds:List D),as[j]?=some (Arg.tmp ds)/\vs[j]?=some (V.ref b)/\¬ Own ρ σ b/\(Own ρ₀ σ b\/H₀ b=none))\/Own ρ σ b:=λb⟨j,⟨sl,ds,E,U⟩,e3⟩=>by obtain⟨a,v,h1,C,J⟩:=A.get M E;have s1:=l2 j a _ h1 E;have e3:=dn e3;rw[C]at e3;cases e3;cases a with|dat d=>cases s1;cases U|tmp es=>obtain⟨x,_,k,_,_,_,f,N⟩:=J;cases k;exact .inl ⟨j,es,h1,C,f,N⟩|fc i=>
    right;rcases s1 with⟨_,_,_,z⟩|⟨b',es,q,_⟩|⟨es,q,_⟩;.subst z;cases U
    .exact⟨i,⟨_,_,q,rfl⟩,J⟩
    .exact⟨i,⟨_,_,q,rfl⟩,J⟩
 have back:∀b,Own ρ σ b\/H b=none->Own ρ₀ σ b\/H₀ b=none:=λb h=>by
  rcases h with h|h;.exact s0.vV b h
  . by_cases ho:Own ρ₀ σ b;.exact .inl ho
    .right;cases e:H₀ b with|none=>rfl|some o=>rw[s0.keep b o e ho]at h;cases h
 have L:∀b,Own args (vs.map some) b->Own ρ₀ σ b\/H₀ b=none:=λb h=>by
  rcases own b h with⟨_,_,_,_,_,z⟩|z;.exact z
  .exact back b (.inl z)--a name's slot behind the call
 have slot:∀{i:Nat}{t:Sl},(dR as c 0 ρ)[i]?=some t->∃s1,ρ[i]?=some s1/\t=dJ s1 (aR i as c):=λ{i t}h=>by rw[ni]at h;obtain⟨s1,E,U⟩:=map_some h;exact⟨s1,E,by rw[<-U,Nat.zero_add]⟩
 have Zb:∀{i:Nat}{s1:Sl},ρ[i]?=some s1->(dR as c 0 ρ)[i]?=some (dJ s1 (aR i as c)):=λ{i s1}h=>by rw[ni,h,Nat.zero_add];rfl--what the callee left of a list that was lent to it
 have lent:∀{i j:Nat}{s1 t:Sl}{ds:List D},ρ[i]?=some s1->lst? s1=some (.l ds)->as[j]?=some (.fc i)->c[j]?=some t->∃v s2,σ[i]?=some (some v)/\Y[j]?=some (some v)/\args[j]?=some s2/\lY s2 t/\((∃b,s1=.own b ds/\s2=.own true ds)\/(s1=.lent ds/\s2=.lent ds)):=λ{i j s1 t ds}h1 C J h4=>by
  have Z:j<args.length:=by rw[M];exact(eG J).1
  have E:args[j]?=some args[j]:=by simp[Z]
  obtain⟨a,v,k,f,N⟩:=A.get M E;rw[J]at k;cases k;have q4:=l2 j _ _ J E;have kind:(∃b,s1=.own b ds/\args[j]=.own true ds)\/(s1=.lent ds/\args[j]=.lent ds):=by
   rcases q4 with⟨_,_,z,_⟩|⟨b,es,z,z'⟩|⟨es,z,z'⟩;.rw[h1]at z;cases z;cases C
   .rw[h1]at z;cases z;cases C;exact .inl ⟨b,rfl,z'⟩
   .rw[h1]at z;cases z;cases C;exact .inr ⟨rfl,z'⟩
  have lk:uH args[j]=true:=by rcases kind with⟨_,_,z⟩|⟨_,z⟩<;>rw[z]<;>rfl
  obtain⟨u,s',y,z3⟩:=s.lk j _ E lk;rw[h4]at y;cases y;exact⟨v,_,N,by rw[u];exact up f,E,z3,kind⟩
 have Nr:∀{i:Nat}{x:Addr},aQ (dR as c 0 ρ) σ i x->aQ ρ σ i x:=λ{i x}⟨⟨t,ds,E,U⟩,e3⟩=>by obtain⟨s1,k,f⟩:=slot E;refine⟨?_,e3⟩;cases s1 with|aW=>subst f;cases U|val b d=>subst f;cases U|own b es=>exact⟨_,_,k,rfl⟩|lent es=>exact⟨_,_,k,rfl⟩|gA m=>exact⟨_,_,k,rfl⟩|di m=>exact⟨_,_,k,rfl⟩|hold _=>subst f;cases U
 refine⟨?_,λv r h=>?_⟩;rotate_left;.cases r with|val d=>exact h|own ds=>
     obtain⟨x,xs,h1,C,J,h4,h5,h6⟩:=h;refine⟨x,xs,h1,C,J,h4,λ⟨i,h⟩=>?_,?_⟩
     . have hO:=Nr h;obtain⟨⟨s1,Uw,k,f⟩,N⟩:=hO;obtain⟨x',ah,w1,w2,_⟩:=g.own i s1 Uw k f;rw[N]at w1;cases w1;rcases h6 with h6|h6
       . rcases own x h6 with⟨_,_,_,_,z,_⟩|_;.exact z ⟨i,⟨s1,Uw,k,f⟩,N⟩
         .--a name was lent
           obtain⟨j,⟨sl,es,w3,w4⟩,w5⟩:=h6;obtain⟨a',v',G,O,y3⟩:=A.get M w3;have sa:=l2 j a' _ G w3;have w5:=dn w5;rw[O]at w5;cases w5;cases a' with|dat d=>cases sa;cases w4|tmp ai=>obtain⟨_,_,u1,_,_,_,u2,_⟩:=y3;cases u1;exact u2 ⟨i,⟨s1,Uw,k,f⟩,N⟩|fc i'=>
             have ex:∃s' ac,ρ[i']?=some s'/\lst? s'=some ac:=by
              rcases sa with⟨_,_,_,z⟩|⟨b,es,q,_⟩|⟨es,q,_⟩;.subst z;cases w4
              .exact⟨_,_,q,rfl⟩
              .exact⟨_,_,q,rfl⟩
             have:=g.dis i i' x ⟨⟨s1,Uw,k,f⟩,N⟩ ⟨ex,y3⟩;subst this;have hk:∃Nq,Uw=.l Nq:=by
              rcases sa with⟨_,_,_,z⟩|⟨b,es,q,_⟩|⟨es,q,_⟩;.subst z;cases w4
              .rw[k]at q;cases q;cases f;exact⟨_,rfl⟩
              .rw[k]at q;cases q;cases f;exact⟨_,rfl⟩
             obtain⟨Nq,rfl⟩:=hk;have Z:j<c.length:=by rw[<-la];exact(eG G).1
             have B:c[j]?=some c[j]:=by simp[Z]
             obtain⟨v2,s2,u1,u2,u3,u4,u5⟩:=lent k f G B;rw[N]at u1;cases u1--the slot behind the call is a list's
             obtain⟨⟨t,dt,t1,t2⟩,_⟩:=h;obtain⟨s3,t3,t4⟩:=slot t1;rw[k]at t3;cases t3;have lo:∃t5,aR i as c=some t5:=by cases I:aR i as c with|none=>exact absurd G (kJ la I j)|some t5=>exact⟨t5,rfl⟩
             obtain⟨t5,I⟩:=lo;obtain⟨j2,t6,t7⟩:=iC I;have al:j2<args.length:=by rw[M];exact(eG t6).1
             obtain⟨_,s6,_,am,ae,ap,af⟩:=lent k f t6 t7;have ag:j2=j:=by
              have a1:lst? s6=some (.l Nq):=by rcases af with⟨_,_,z⟩|⟨_,z⟩<;>rw[z]<;>rfl
              have a2:lst? s2=some (.l Nq):=by rcases u5 with⟨_,_,z⟩|⟨_,z⟩<;>rw[z]<;>rfl
              exact l4 j2 j i s6 s2 _ _ t6 G ae u3 a1 a2
             subst ag;rw[B]at t7;cases t7;rw[I]at t4;refine h5 ⟨j2,?_,u2⟩;rcases u5 with⟨b,u,y⟩|⟨u,y⟩
             . subst u;subst y;rcases u4 with⟨d2,z⟩|⟨d2,z⟩;.exact⟨_,.l d2,B,by rw[z];rfl⟩
               .rw[z]at t4;subst t4;cases t2
             .subst u;subst y;exact⟨_,.l Nq,B,by rw[show c[j2]=.lent Nq from u4];rfl⟩
       .rw[w2]at h6;cases h6
     . rcases h6 with h6|h6;.exact L x h6
       .exact back x (.inr h6)
 refine⟨⟨s.gs.sub,by rw[mR];exact g.len,λi b d e=>?_,λi t ds e B=>?_,λi j x h1 C=>g.dis i j x (Nr h1) (Nr C)⟩,s0.cW.trans s.cW,λb n n'=>?_,λb o h n=>?_,λb⟨i,h⟩=>back b (.inl ⟨i,Nr h⟩),by rw[mR];exact s0.len,λi s1 h l=>?_⟩;.--data
   obtain⟨s1,k,f⟩:=slot e;cases s1 with|aW=>cases f|lent es=>cases f|gA _=>cases f|di _=>cases f|hold _=>cases f|val b' d'=>cases f;obtain⟨v,u,y⟩:=g.val i b d k;exact⟨v,u,y.mono s.cW⟩|own b' es=>cases I:aR i as c with|none=>rw[I]at f;cases f|some t=>rw[I]at f;obtain⟨j,u,y⟩:=iC I;obtain⟨v,s2,G,O,y3,y4,p⟩:=lent k rfl u y;cases t with|aW=>cases f|own _ _=>cases f|lent _=>cases f|gA _=>cases f|di _=>cases f|hold _=>cases f|val b2 d2=>cases f;obtain⟨w,W,x2⟩:=s.gs.val j b2 d y;rw[O]at W;cases W;exact⟨v,G,x2⟩
 .--lists
   obtain⟨s1,k,f⟩:=slot e--a list that was not lent
   have stay:∀es,lst? s1=some es->(∀j:Nat,as[j]?≠some (.fc i))->t=s1->∃(a:Addr)(xs:HO),σ[i]?=some (some (V.ref a))/\H' a=some xs/\X a=none/\jV K X xs ds:=λes he hn ht=>by
    subst ht;rw[he]at B;cases B;obtain⟨a,xs,u,y,z3,z4⟩:=g.own i _ ds k he;have no:¬ Own args (vs.map some) a:=λh=>by obtain⟨j,⟨sl,es,w1,w2⟩,w3⟩:=h;obtain⟨a',v,h1,C,J⟩:=A.get M w1;have sa:=l2 j a' _ h1 w1;have w3:=dn w3;rw[C]at w3;cases w3;cases a' with|dat d=>cases sa;cases w2|tmp es=>obtain⟨x,_,G,_,_,_,O,_⟩:=J;cases G;exact O ⟨i,⟨_,ds,k,he⟩,u⟩|fc i'=>
       have:∃s' ac,ρ[i']?=some s'/\lst? s'=some ac:=by
        rcases sa with⟨_,_,_,z⟩|⟨b,es,q,_⟩|⟨es,q,_⟩;.subst z;cases w2
        .exact⟨_,_,q,rfl⟩
        .exact⟨_,_,q,rfl⟩
       have:=g.dis i i' a ⟨⟨_,ds,k,he⟩,u⟩ ⟨this,J⟩;subst this;exact hn j h1
    refine⟨a,xs,u,s.keep a _ y no,?_,z4.mono s.cW⟩;cases q:X a with|none=>rfl|some o=>
      rcases s.ye a z3 (by rw[q];simp)with z|z;.exact absurd z no
      .rw[y]at z;exact(GP z4 z).elim
   cases I:aR i as c with
   |none=>have hn:=kJ la I;rw[I]at f;cases s1 with|aW=>subst f;cases B|val b' d'=>subst f;cases B|own b' es=>exact stay _ rfl hn f|lent es=>exact stay _ rfl hn f|gA m=>exact stay _ rfl hn f|di m=>exact stay _ rfl hn f|hold _=>subst f;cases B
   |some t2=>rw[I]at f;obtain⟨j,u,y⟩:=iC I;cases s1 with
     |aW=>subst f;cases B|val b' d'=>subst f;cases B|hold _=>subst f;cases B|gA m=>
       have Z:j<args.length:=by rw[M];exact(eG u).1
       rcases l2 j _ _ u (show args[j]?=some args[j]by simp[Z])with⟨_,_,z,_⟩|⟨_,_,z,_⟩|⟨_,z,_⟩<;>(rw[k]at z;cases z)|di m=>
       have Z:j<args.length:=by rw[M];exact(eG u).1
       rcases l2 j _ _ u (show args[j]?=some args[j]by simp[Z])with⟨_,_,z,_⟩|⟨_,_,z,_⟩|⟨_,z,_⟩<;>(rw[k]at z;cases z)|own b' es=>
       obtain⟨v,s2,G,O,y3,y4,p⟩:=lent k rfl u y;have:t2≠.aW/\∀x,t2≠.lent x:=by
        rcases p with⟨_,_,p⟩|⟨p,_⟩;.subst p;rcases y4 with⟨_,rfl⟩|⟨_,rfl⟩<;>simp
        .cases p
       cases t2 with
       |aW=>exact absurd rfl this.1|hold x=>
         rcases p with⟨_,_,p⟩|⟨p,_⟩;.subst p;rcases y4 with⟨_,h⟩|⟨_,h⟩<;>cases h
         .cases p|gA x=>
         rcases p with⟨_,_,p⟩|⟨p,_⟩;.subst p;rcases y4 with⟨_,h⟩|⟨_,h⟩<;>cases h
         .cases p|di x=>
         rcases p with⟨_,_,p⟩|⟨p,_⟩;.subst p;rcases y4 with⟨_,h⟩|⟨_,h⟩<;>cases h
         .cases p|lent x=>exact absurd rfl (this.2 x)|val b2 d2=>subst f;cases B|own b2 ar=>subst f;cases B;obtain⟨a,xs,W,x2⟩:=s.gs.own j _ _ y rfl;rw[O]at W;cases W;exact⟨a,xs,G,x2⟩
     |lent es=>
       obtain⟨v,s2,G,O,y3,y4,p⟩:=lent k rfl u y;have ht:t=.lent es:=by rw[f];cases t2<;>rfl
       subst ht;cases B;rcases p with⟨_,p,_⟩|⟨_,p⟩;.cases p
       .subst p;cases(show t2=.lent es from y4);obtain⟨a,xs,W,x2⟩:=s.gs.own j _ _ y rfl;rw[O]at W;cases W;exact⟨a,xs,G,x2⟩
 . by_cases q:F b=none
   . rcases s.ye b q n' with z|z;.exact(L b z).imp id jN
     . by_cases ho:Own ρ₀ σ b;.exact .inl ho
       .right;cases f:H₀ b with|none=>rfl|some o=>rw[s0.keep b o f ho]at z;exact z
   .exact s0.ye b n q
 . refine s.keep b o (s0.keep b o h n) λz=>?_;rcases L b z with z|z;.exact n z
   .rw[h]at z;cases z
 .obtain⟨E,s2,C,k2⟩:=s0.lk i s1 h l;refine⟨E,_,Zb C,?_⟩;have Wo:=k2.uH l;refine lY.trans l k2 ?_;cases s2 with
   |aW=>cases Wo|gA _=>cases Wo|di _=>cases Wo|hold _=>exact lY.refl _|val b d=>exact lY.refl _|lent es=>cases aR i as c with|none=>rfl|some t=>cases t<;>rfl
   |own b es=>cases b with|false=>cases Wo|true=>cases aR i as c with|none=>exact .inl ⟨_,rfl⟩|some t=>cases t with|aW=>exact .inl ⟨_,rfl⟩|lent _=>exact .inl ⟨_,rfl⟩|gA _=>exact .inl ⟨_,rfl⟩|di _=>exact .inl ⟨_,rfl⟩|hold _=>exact .inl ⟨_,rfl⟩|own _ ds=>exact .inl ⟨_,rfl⟩|val _ d=>exact .inr ⟨_,rfl⟩
theorem wL.rebase{F1 g k l:Hp}{c f:List Sl}{vs:List V}(a:az K F ρ σ H F1 c σ g)(A:wL K k f σ l c g as vs):wL K k f σ l ρ H as vs:=by refine⟨A.len,λj b v h1 m=>?_,A.dis⟩;have h:=A.one j b v h1 m;cases b with|dat d=>exact h|fc i=>exact h|tmp ds=>
   obtain⟨x,xs,p,q,r,s,t,q6⟩:=h;refine⟨x,xs,p,q,r,s,t,?_⟩;rcases q6 with q6|q6;.exact a.vV x q6
   . by_cases ho:Own ρ σ x;.exact .inl ho
     .right;cases e:H x with|none=>rfl|some o=>rw[a.keep x o e ho]at q6;cases q6
theorem wL.XN{F1 c e f:Hp}{a b:List Sl}{vs:List V}{r:R}(s1:az K F ρ σ H F1 a σ c)(g:cR K F1 a σ c ρ σ H v r)(s2:az K F1 a σ c e b σ f)(A:wL K e b σ f a c as vs):wL K e b σ f ρ H (tH r::as) (v::vs):=by
 have h1:yZ K F1 a σ c ρ H v (tH r):=by cases r with|val d=>exact g|own ds=>exact g
 refine .cons (h1.later s2) (A.rebase s1) λds x m ev k es o j=>?_;cases r with|val d=>cases m|own p=>
   obtain⟨y,xs,l,q,u,w,s,B⟩:=g;rw[ev]at l;cases l;have h:=A.one k _ _ o j;obtain⟨z,C,t,_,_,_,_,w6⟩:=h;cases t;rcases w6 with w6|w6;.exact s w6
   .rw[q]at w6;cases w6
end
section
variable{K:PySem.W.Frag}{F F1 H H1:Hp}{ρ ρ1 ρ2:List Sl}{σ σ1:L2.St}
theorem qW{s:Sl}(h:put ρ i s=some ρ1):∃s0,ρ[i]?=some s0/\uH s0=false/\ρ1=ρ.set i s:=by
 unfold put at h;split at h;.rename_i q;cases h;exact⟨_,q,rfl,rfl⟩
 .rename_i q;cases h;exact⟨_,q,rfl,rfl⟩
 .rename_i q;cases h;exact⟨_,q,rfl,rfl⟩
 .cases h
theorem az.put{r:R}(s:az K F ρ σ H F1 ρ1 σ1 H1)(y:cR K F1 ρ1 σ1 H1 ρ σ H v r)(h:HH.put ρ1 i (yC r)=some ρ2):az K F ρ σ H F1 ρ2 (σ1.set i (some v)) H1:=by
 obtain⟨s0,h0,B,rfl⟩:=qW h;have hi:i<ρ1.length:=(eG h0).1;have m:i<σ1.length:=by rw[<-s.gs.len];exact hi
 have f:∀{j:Nat}{a:Addr},j≠i->aQ (ρ1.set i (yC r)) (σ1.set i (some v)) j a->aQ ρ1 σ1 j a:=λ{j a}c⟨⟨t,ds,o,p⟩,g⟩=>by rw[eV c]at o g;exact⟨⟨t,ds,o,p⟩,g⟩
 have q:∀{a:Addr},aQ (ρ1.set i (yC r)) (σ1.set i (some v)) i a->¬ Own ρ1 σ1 a/\(Own ρ σ a\/H a=none):=λ{a}⟨⟨t,ds,o,p⟩,g⟩=>by rw[getElem?_set_self hi]at o;rw[getElem?_set_self m]at g;cases o;cases g;cases r with|val d=>cases p|own es=>obtain⟨x,xs,I,C,E,G,J,L⟩:=y;cases I;exact⟨J,L⟩
 refine⟨⟨s.gs.sub,by simp[s.gs.len],λj b d e=>?_,λj t ds e z=>?_,λj k a h1 A=>?_⟩,s.cW,s.ye,s.keep,λa⟨j,c⟩=>?_,by simp[s.len],λj t e l=>?_⟩
 . by_cases c:j=i;.subst c;rw[getElem?_set_self hi]at e;cases r with|own es=>cases e|val d'=>cases e;exact⟨v,getElem?_set_self m,y⟩
   .rw[eV c]at e ⊢;exact s.gs.val j b d e
 . by_cases c:j=i;.subst c;rw[getElem?_set_self hi]at e;cases r with|val d'=>cases e;cases z|own es=>cases e;cases z;obtain⟨x,xs,rfl,C,E,G,_⟩:=y;exact⟨x,_,getElem?_set_self m,C,E,xs,rfl,G⟩
   .rw[eV c]at e ⊢;exact s.gs.own j t ds e z
 . by_cases c:j=i
   . by_cases u:k=i;.rw[c,u]
     .subst c;exact absurd ⟨k,f u A⟩ (q h1).1
   . by_cases u:k=i;.subst u;exact absurd ⟨j,f c h1⟩ (q A).1
     .exact s.gs.dis j k a (f c h1) (f u A)
 . by_cases w:j=i;.subst w;exact(q c).2
   .exact s.vV a ⟨j,f w c⟩
 . obtain⟨o,t1,p,g⟩:=s.lk j t e l;have c:j≠i:=by rintro rfl;rw[h0]at p;cases p;rw[g.uH l]at B;cases B
   exact⟨by rw[eV c];exact o,t1,by rw[eV c];exact p,g⟩
theorem GS.mut{x:Nat}{b:Bool}{es:List D}{a:Addr}{ys:List V}(g:GS K F ρ σ H)(e:ρ[x]?=some (.own b ds))(p:σ[x]?=some (some (.ref a)))(r:aF K F ys es):az K F ρ σ H F (ρ.set x (.own b es)) σ (upd H a (.lst ys)):=by
 have hi:x<ρ.length:=(eG e).1;have w:aQ ρ σ x a:=⟨⟨_,_,e,rfl⟩,p⟩;obtain⟨J,xs,h1,L,y,M⟩:=g.qi x _ ds e rfl;rw[p]at h1;cases h1;have h:∀{j:Nat}{c:Addr},aQ (ρ.set x (.own b es)) σ j c->aQ ρ σ j c:=λ{j c}⟨⟨t,dt,m,s⟩,q3⟩=>by
  by_cases f:j=x;.subst f;exact⟨⟨_,_,e,rfl⟩,q3⟩
  .rw[eV f]at m;exact⟨⟨t,dt,m,s⟩,q3⟩
 refine⟨⟨λc o q=>?_,by simp[g.len],λj A d q=>?_,λj t dt q u=>?_,λj k c m s=>g.dis j k c (h m) (h s)⟩,.refl _,λc n B=>absurd n B,λc o q n=>?_,λc⟨j,q⟩=>.inl ⟨j,h q⟩,by simp,λj t q l=>⟨rfl,?_⟩⟩
 . have:c≠a:=by rintro rfl;rw[y]at q;cases q
   rw[aA this];exact g.sub c o q
 . by_cases f:j=x;.subst f;rw[getElem?_set_self hi]at q;cases q
   .rw[eV f]at q;exact g.val j A d q
 . by_cases f:j=x;.subst f;rw[getElem?_set_self hi]at q;cases q;cases u;exact⟨a,_,p,aJ,y,ys,rfl,r⟩
   . rw[eV f]at q;obtain⟨c,C,z,E,G,I⟩:=g.own j t dt q u;have:c≠a:=by rintro rfl;exact f (g.dis j x c ⟨⟨t,dt,q,u⟩,z⟩ w)
     exact⟨c,C,z,by rw[aA this];exact E,G,I⟩
 . have:c≠a:=by rintro rfl;exact n ⟨x,w⟩
   rw[aA this];exact q
 . by_cases f:j=x;.subst f;rw[e]at q;cases q;refine⟨_,getElem?_set_self hi,?_⟩;cases b with|true=>exact .inl ⟨_,rfl⟩|false=>cases l
   .exact⟨t,by rw[eV f];exact q,.refl t⟩
theorem GS.lend{b:Bool}(g:GS K F ρ σ H)(e:ρ[i]?=some (.own b ds)):GS K F (ρ.set i (.lent ds)) σ H:=by
 have hi:i<ρ.length:=(eG e).1;have f:∀{j:Nat}{c:Addr},aQ (ρ.set i (.lent ds)) σ j c->aQ ρ σ j c:=λ{j c}⟨⟨t,dt,h,l⟩,q3⟩=>by
  by_cases a:j=i;.subst a;exact⟨⟨_,_,e,rfl⟩,q3⟩
  .rw[eV a]at h;exact⟨⟨t,dt,h,l⟩,q3⟩
 refine⟨g.sub,by simp[g.len],λj o d q=>?_,λj t dt q m=>?_,λj k c h l=>g.dis j k c (f h) (f l)⟩
 . by_cases a:j=i;.subst a;rw[getElem?_set_self hi]at q;cases q
   .rw[eV a]at q;exact g.val j o d q
 . by_cases a:j=i;.subst a;rw[getElem?_set_self hi]at q;cases q;cases m;exact g.own j _ _ e rfl
   .rw[eV a]at q;exact g.own j t dt q m
theorem az.bj{b:Bool}(g:GS K F ρ σ H)(e:ρ[i]?=some (.own b ds))(s:az K F (ρ.set i (.lent ds)) σ H F1 ρ1 σ1 H1):az K F ρ σ H F1 (ρ1.set i (.own b ds)) σ1 H1/\∀v r,cR K F1 ρ1 σ1 H1 (ρ.set i (.lent ds)) σ H v r->cR K F1 (ρ1.set i (.own b ds)) σ1 H1 ρ σ H v r:=by
 have hi:i<ρ.length:=(eG e).1;have h1:(ρ.set i (.lent ds))[i]?=some (.lent ds):=getElem?_set_self hi;obtain⟨C,E,z,G⟩:=s.lk i _ h1 rfl;cases(show E=.lent ds from G);have u:i<ρ1.length:=(eG z).1;have A:∀{j:Nat}{c:Addr},aQ (ρ.set i (.lent ds)) σ j c->aQ ρ σ j c:=λ{j c}⟨⟨t,dt,f,p⟩,m⟩=>by
  by_cases a:j=i;.subst a;exact⟨⟨_,_,e,rfl⟩,m⟩
  .rw[eV a]at f;exact⟨⟨t,dt,f,p⟩,m⟩
 have I:∀{c:Addr},Own ρ σ c->Own (ρ.set i (.lent ds)) σ c:=λ{c}⟨j,⟨t,dt,f,p⟩,m⟩=>by
  by_cases a:j=i;.subst a;exact⟨j,⟨_,_,h1,rfl⟩,m⟩
  .exact⟨j,⟨t,dt,by rw[eV a];exact f,p⟩,m⟩
 have y:∀{j:Nat}{c:Addr},aQ (ρ1.set i (.own b ds)) σ1 j c->aQ ρ1 σ1 j c:=λ{j c}⟨⟨t,dt,f,p⟩,m⟩=>by
  by_cases a:j=i;.subst a;exact⟨⟨_,_,z,rfl⟩,m⟩
  .rw[eV a]at f;exact⟨⟨t,dt,f,p⟩,m⟩
 have w:∀{c:Addr}{h:Hp},Own (ρ.set i (.lent ds)) σ c\/h c=none->Own ρ σ c\/h c=none:=λ{c h}q=>q.imp (λ⟨j,q⟩=>⟨j,A q⟩) id;have J:∀{c:Addr}{h:Hp},Own (ρ.set i (.lent ds)) σ c\/nt (h c)=none->Own ρ σ c\/nt (h c)=none:=λ{c h}q=>q.imp (λ⟨j,q⟩=>⟨j,A q⟩) id;refine⟨⟨⟨s.gs.sub,by simp[s.gs.len],λj L d q=>?_,λj t dt q B=>?_,λj k c f p=>s.gs.dis j k c (y f) (y p)⟩,s.cW,λc n M=>J (s.ye c n M),λc o q n=>s.keep c o q λ⟨j,x⟩=>n ⟨j,A x⟩,λc⟨j,q⟩=>w (s.vV c ⟨j,y q⟩),by simpa using s.len,λj t q l=>?_⟩,λv r h=>?_⟩
 . by_cases a:j=i;.subst a;rw[getElem?_set_self u]at q;cases q
   .rw[eV a]at q;exact s.gs.val j L d q
 . by_cases a:j=i;.subst a;rw[getElem?_set_self u]at q;cases q;cases B;exact s.gs.own j _ _ z rfl
   .rw[eV a]at q;exact s.gs.own j t dt q B
 . by_cases a:j=i;.subst a;rw[e]at q;cases q;refine⟨C,_,getElem?_set_self u,?_⟩;cases b with|true=>exact .inl ⟨_,rfl⟩|false=>cases l
   .obtain⟨N,t',O,Q⟩:=s.lk j t (by rw[eV a];exact q) l;exact⟨N,t',by rw[eV a];exact O,Q⟩
 .cases r with|val d=>exact h|own es=>obtain⟨x,xs,f,p,m,U,W,X⟩:=h;exact⟨x,xs,f,p,m,U,λ⟨j,q⟩=>W ⟨j,y q⟩,w X⟩
theorem GS.give(g:GS K F ρ σ H)(e:ρ[i]?=some (.own false ds)):∃v,σ[i]?=some (some v)/\az K F ρ σ H F (ρ.set i .aW) σ H/\cR K F (ρ.set i .aW) σ H ρ σ H v (.own ds):=by
 have hi:i<ρ.length:=(eG e).1;obtain⟨a,xs,h1,r,s,u⟩:=g.qi i _ ds e rfl;have f:∀{j:Nat}{c:Addr},aQ (ρ.set i .aW) σ j c->aQ ρ σ j c/\j≠i:=λ{j c}⟨⟨t,dt,h,m⟩,q3⟩=>by
  by_cases b:j=i;.subst b;rw[getElem?_set_self hi]at h;cases h;cases m
  .rw[eV b]at h;exact⟨⟨⟨t,dt,h,m⟩,q3⟩,b⟩
 have o:aQ ρ σ i a:=⟨⟨_,_,e,rfl⟩,h1⟩;refine⟨.ref a,h1,⟨⟨g.sub,by simp[g.len],λj w d q=>?_,λj t dt q p=>?_,λj k c h m=>g.dis j k c (f h).1 (f m).1⟩,.refl _,λc n y=>absurd n y,λ_ _ q _=>q,λc⟨j,q⟩=>.inl ⟨j,(f q).1⟩,by simp,λj t q l=>⟨rfl,?_⟩⟩,a,xs,rfl,r,s,u,λ⟨j,q⟩=>?_,.inl ⟨i,o⟩⟩
 . by_cases b:j=i;.subst b;rw[getElem?_set_self hi]at q;cases q
   .rw[eV b]at q;exact g.val j w d q
 . by_cases b:j=i;.subst b;rw[getElem?_set_self hi]at q;cases q;cases p
   .rw[eV b]at q;exact g.own j t dt q p
 . by_cases b:j=i;.subst b;rw[e]at q;cases q;cases l
   .exact⟨t,by rw[eV b];exact q,.refl t⟩
 .exact(f q).2 (g.dis j i a (f q).1 o)
theorem GS.more{τ:List (Option V)}(g:GS K F ρ σ H)(u:τ.length=n):GS K F (ρ++replicate n .aW) (σ++τ) H:=by
 have get:∀{j:Nat}{t:Sl},(ρ++replicate n Sl.aW)[j]?=some t->t≠.aW->ρ[j]?=some t/\j<ρ.length:=λ{j t}q ne=>by
  by_cases h:j<ρ.length;.rw[getElem?_append_left h]at q;exact⟨q,h⟩
  . rw[getElem?_append_right (by omega),List.getElem?_replicate]at q;split at q;.cases q;exact absurd rfl ne
    .cases q
 have m:∀{j:Nat}{v:Option V},j<ρ.length->(σ[j]?=some v↔(σ++τ)[j]?=some v):=λ{j v}h=>by rw[getElem?_append_left (by rw[<-g.len];exact h)]
 have e:∀{j:Nat}{c:Addr},aQ (ρ++replicate n .aW) (σ++τ) j c->aQ ρ σ j c:=λ{j c}⟨⟨t,dt,o,l⟩,q3⟩=>by obtain⟨h1,f⟩:=get o (by rintro rfl;cases l);exact⟨⟨t,dt,h1,l⟩,(m f).mpr q3⟩
 refine⟨g.sub,by simp[g.len,u],λj b d q=>?_,λj t dt q s=>?_,λj k c o l=>g.dis j k c (e o) (e l)⟩;.obtain⟨h1,f⟩:=get q (by simp);obtain⟨v,p,r⟩:=g.val j b d h1;exact⟨v,(m f).mp p,r⟩
 .obtain⟨h1,f⟩:=get q (by rintro rfl;cases s);obtain⟨a,xs,p,r⟩:=g.own j t dt h1 s;exact⟨a,xs,(m f).mp p,r⟩
theorem az.less{τ:List (Option V)}{m:Nat}(J:m=ρ.length)(g:GS K F ρ σ H)(Z:τ.length=n)(s:az K F (ρ++replicate n .aW) (σ++τ) H F1 ρ1 σ1 H1):az K F ρ σ H F1 (ρ1.take m) (σ1.take m) H1/\∀v r,cR K F1 ρ1 σ1 H1 (ρ++replicate n .aW) (σ++τ) H v r->cR K F1 (ρ1.take m) (σ1.take m) H1 ρ σ H v r:=by
 subst J;have L:ρ.length<=ρ1.length:=by rw[s.len];simp
 have l2:ρ.length<=σ1.length:=by rw[<-s.gs.len];exact L
 have tk:∀{y:Type}{l:List y}{j:Nat}{x:y},(l.take ρ.length)[j]?=some x->l[j]?=some x/\j<ρ.length:=λ{y l j x}q=>by
  rw[List.getElem?_take]at q;split at q;.exact⟨q,by assumption⟩
  .cases q
 have A:∀{y:Type}{l:List y}{j:Nat}{x:y},j<ρ.length->l[j]?=some x->(l.take ρ.length)[j]?=some x:=λ{y l j x}f q=>by rw[List.getElem?_take,if_pos f];exact q
 have B:∀{c:Addr},Own (ρ++replicate n .aW) (σ++τ) c->Own ρ σ c:=λ{c}⟨j,⟨t,dt,e,p⟩,u⟩=>by
  by_cases f:j<ρ.length;.rw[getElem?_append_left f]at e;rw[getElem?_append_left (by rw[<-g.len];exact f)]at u;exact⟨j,⟨t,dt,e,p⟩,u⟩
  . rw[getElem?_append_right (by omega),List.getElem?_replicate]at e;split at e;.cases e;cases p
    .cases e
 have M:∀{c:Addr},Own ρ σ c->Own (ρ++replicate n .aW) (σ++τ) c:=λ{c}⟨j,⟨t,dt,e,p⟩,u⟩=>by have f:j<ρ.length:=(eG e).1;exact⟨j,⟨t,dt,by rw[getElem?_append_left f];exact e,p⟩,by rw[getElem?_append_left (by rw[<-g.len];exact f)];exact u⟩
 have z:∀{j:Nat}{c:Addr},aQ (ρ1.take ρ.length) (σ1.take ρ.length) j c->aQ ρ1 σ1 j c:=λ{j c}⟨⟨t,dt,e,p⟩,u⟩=>⟨⟨t,dt,(tk e).1,p⟩,(tk u).1⟩;have w:∀{c:Addr}{h:Hp},Own (ρ++replicate n .aW) (σ++τ) c\/h c=none->Own ρ σ c\/h c=none:=λ{c h}q=>q.imp B id;have N:∀{c:Addr}{h:Hp},Own (ρ++replicate n .aW) (σ++τ) c\/nt (h c)=none->Own ρ σ c\/nt (h c)=none:=λ{c h}q=>q.imp B id;refine⟨⟨⟨s.gs.sub,by simp only[length_take];omega,λj b d q=>?_,λj t dt q O=>?_,λj k c e p=>s.gs.dis j k c (z e) (z p)⟩,s.cW,λc a b=>N (s.ye c a b),λc o q n=>s.keep c o q λx=>n (B x),λc⟨j,q⟩=>w (s.vV c ⟨j,z q⟩),by simp only[length_take];omega,λj t q l=>?_⟩,λv r h=>?_⟩;.obtain⟨h1,C⟩:=tk q;obtain⟨v,E,G⟩:=s.gs.val j b d h1;exact⟨v,A C E,G⟩
 .obtain⟨h1,C⟩:=tk q;obtain⟨a,xs,E,G⟩:=s.gs.own j t dt h1 O;exact⟨a,xs,A C E,G⟩
 .have f:j<ρ.length:=(eG q).1;obtain⟨I,t',Q,U⟩:=s.lk j t (by rw[getElem?_append_left f];exact q) l;rw[getElem?_append_left (by rw[<-g.len];exact f)]at I;refine⟨?_,t',A f Q,U⟩;rw[List.getElem?_take,if_pos f];exact I
 .cases r with|val d=>exact h|own es=>obtain⟨x,xs,e,p,u,W,X,Y⟩:=h;exact⟨x,xs,e,p,u,W,λ⟨j,q⟩=>X ⟨j,z q⟩,w Y⟩
end
section
variable{X:Cx}{c:Call}{n:Nat}{e a b d:Expr}{p pa pb pd:P}{pos:Pos}{es:List Expr}{ps:List P}
inductive abF(K:PySem.W.Frag)(f:List Sl->Res (List Arg))(σ:L2.St)(H:Hp)(Q:List V->Hp->Prop):Prop where|mk(F:Hp)(ρ:List Sl)(as:List Arg)(ρ':List Sl)(g:GS K F ρ σ H)(e:f ρ=.ok as ρ')(k:∀vs F' H',az K F ρ σ H F' ρ' σ H'->wL K F' ρ' σ H' ρ H as vs->Q vs H')
def SG(X:Cx)(c:Call)(es:List Expr)(ps:List P):Prop:=PA X es (abF X.K (zL c ps))
theorem aD:SG X c [] []:=wR dY λσ H Q⟨F,ρ,as,ρ',g,e,k⟩=>by rw[Jl]at e;cases e;exact k [] F H (.refl g) .nil
theorem M4(q:SX X c a pa)(hr:SG X c es ps)(hs:starEach (a::es) X.env=(false,eval a X.env)::starEach es X.env:=by rfl):SG X c (a::es) (pa::ps):=by cases hv:isVar pa with|none=>refine wR (cu q.ev hr hs) ?_;rintro σ H Q⟨F,ρ,as,ρ',g,e,k⟩;rw[zp,hv]at e;obtain⟨r,f,s,e⟩:=aj e;obtain⟨xs,h,j,e⟩:=aj e;cases e;refine⟨F,ρ,r,f,g,s,λv F1 B s1 t=>⟨F1,f,xs,_,s1.gs,j,λvs l m s2 A=>k _ l m (s1.trans s2) (wL.XN s1 t s2 A)⟩⟩|some i=>refine wR (cu (q.var i hv) hr hs) ?_;rintro σ H Q⟨F,ρ,as,ρ',g,e,k⟩;rw[zp,hv]at e;obtain⟨x0,u,w,e⟩:=aj e;obtain⟨o,y⟩:=aC w;subst y;obtain⟨xs,h,j,e⟩:=aj e;cases e;obtain⟨v,h1,_⟩:=g.pk o;exact⟨v,h1,F,ρ,xs,_,g,j,λvs l m s2 A=>k _ l m s2 (.cons h1 A λds x z=>by cases z)⟩
theorem KJ{k f:Nat}{t:Addr}{fd:FuncData}{j:List Str}(J:mY X.prog X.w X.K X.mg X.base Fy k t fd j (Mm X.K j.length (c f)))(hr:ji k X.A)(L:Gl X x)(M:X.mg x=some (.ref t))(N:keepIn X.K (.ref t)=true)(O:Binds X.K fd j [])(U:SG X c (e::es) ps)(W:(e::es).length=j.length)(u:(x==("__debug__":Str))=false:=by decide)(he:starEach (e::es) X.env=(false,eval e X.env)::starEach es X.env:=by rfl)(hpl:(backTo pos (starEach es X.env)).any (·.1)=false:=by rfl)(y:ps.length=(e::es).length:=by rfl):SX X c (.Call (.Name x p') (e::es) [] pos) (.call f ps):=by
 refine⟨fu (Lh (E:=E0) J hr L M N O .nil YW U u he hpl) ?_,λi h=>by cases h⟩;rintro σ H Q⟨F,ρ,r,ρ',g,e,k⟩;rw[HH.E15]at e;obtain⟨as,z,G,e⟩:=aj e;unfold p7 at e;split at e;.cases e
 . rename_i args m;split at e
   . rename_i r' l hc;cases e;refine⟨F,ρ,as,z,g,G,λvs F1 Y s1 A=>?_⟩;have o:vs.length=j.length:=by
      have:∀{ps:List P}{ρ ρ':List Sl}{as:List Arg},zL c ps ρ=.ok as ρ'->as.length=ps.length:=by intro ps;induction ps with|nil=>intro ρ ρ' as h;rw[Jl]at h;cases h;rfl|cons q j I=>
         intro ρ ρ' as h;rw[zp]at h;split at h;.obtain⟨_,_,_,h⟩:=aj h;obtain⟨xs,B,C,h⟩:=aj h;cases h;simp[I C]
         .obtain⟨_,_,_,h⟩:=aj h;obtain⟨xs,B,C,h⟩:=aj h;cases h;simp[I C]
      rw[<-A.len,this G,y,W]
     show Mm X.K j.length (c f) (vs++[]) Y Q E0;rw[append_nil];refine⟨o,F1,args,r,l,args_gs s1.gs A m,hc,λv Z ac H' s rr=>?_⟩;obtain⟨z1,z2⟩:=GR s1 A m s;exact k v Z H' z1 (z2 v r rr)
   .cases e
   .cases e
def Hc(K:PySem.W.Frag)(D:Ends)(h:Hp)(ρ':List Sl)(f:L2.St)(g:Hp)(ρ:List Sl)(σ:L2.St)(H:Hp)(fl:Fl):Prop:=match fl with|.next=>D.nx f g|.brk=>D.bk f g|.cont=>D.ct f g|.ret r=>∀v,cR K h ρ' f g ρ σ H v r->D.rt v g
inductive tEx(K:PySem.W.Frag)(f:List Sl->Res Fl)(D:Ends)(σ:L2.St)(H:Hp):Prop where|mk(F:Hp)(ρ:List Sl)(fl:Fl)(ρ':List Sl)(g:GS K F ρ σ H)(e:f ρ=.ok fl ρ')(k:∀F' σ' H',az K F ρ σ H F' ρ' σ' H'->Hc K D F' ρ' σ' H' ρ σ H fl)
def SS(X:Cx)(c:Call)(n:Nat)(st:Stmt)(s:S):Prop:=PS X st (tEx X.K (ex c n s))
def SB(X:Cx)(c:Call)(n:Nat)(st:List Stmt)(s:List S):Prop:=wu X st (tEx X.K (iu c n s))
theorem dM{st:Stmt}{t t':TS}(h:PS X st t)(i:∀D σ H,t' D σ H->t D σ H):PS X st t':=λf s σ H D I q=>h f s σ H D I (i D σ H q)
theorem mQ{st:List Stmt}{t t':TS}(h:wu X st t)(i:∀D σ H,t' D σ H->t D σ H):wu X st t':=λf s σ H D I q=>h f s σ H D I (i D σ H q)
theorem xs0{c:Call}:iu c n [] ρ=.ok .next ρ:=rfl
theorem R4{c:Call}{s:S}{r:List S}:iu c n (s::r) ρ=(ex c n s ρ).bind λfl ρ=>match fl with|.next=>iu c n r ρ|fl=>.ok fl ρ:=rfl
theorem au:SB X c n [] []:=mQ Bh λD σ H⟨F,ρ,fl,ρ',g,e,k⟩=>by rw[xs0]at e;cases e;exact k F σ H (.refl g)
theorem aP{st:Stmt}{s:S}{f:List Stmt}{ss:List S}(h1:SS X c n st s)(m:SB X c n f ss):SB X c n (st::f) (s::ss):=by refine mQ (mJ h1 m) ?_;rintro D σ H⟨F,ρ,fl,ρ',g,e,k⟩;rw[R4]at e;obtain⟨f1,h,j,e⟩:=aj e;cases f1 with
 |next=>refine⟨F,ρ,.next,h,g,j,λF1 o y s1=>⟨F1,h,fl,ρ',s1.gs,e,λt l u s2=>?_⟩⟩;have q:=k t l u (s1.trans s2);cases fl with|next=>exact q|brk=>exact q|cont=>exact q|ret r=>exact λv w=>q v (w.later s1)
 |brk=>cases e;exact⟨F,ρ,.brk,_,g,j,k⟩|cont=>cases e;exact⟨F,ρ,.cont,_,g,j,k⟩|ret r=>cases e;exact⟨F,ρ,.ret r,_,g,j,k⟩
theorem yr{st:Stmt}:SS X c n st .bad:=dM HJ λD σ H⟨F,ρ,fl,ρ',g,e,k⟩=>by rw[HH.X4]at e;cases e
theorem WK{t1 g:TE}(h1:PE X e t1)(j:PE X e g):PE X e (λσ H Q=>t1 σ H Q\/g σ H Q):=λf s σ H Q I h=>h.elim (h1 f s σ H Q I) (j f s σ H Q I)
theorem Ub(he:SX X c e p):SS X c n (.Return (some e) pos) (.ret p):=by
 have plain:∀(D:Ends)(σ:L2.St)(H:Hp),(∃F ρ fl ρ',GS X.K F ρ σ H/\((HH.ev c p ρ).bind λr ρ=>.ok (Fl.ret r) ρ)=.ok fl ρ'/\∀j f h,az X.K F ρ σ H j ρ' f h->(match fl with|.next=>D.nx f h|.brk=>D.bk f h|.cont=>D.ct f h|.ret r=>∀v,cR X.K j ρ' f h ρ σ H v r->D.rt v h))->Bv X.K (HH.ev c p) σ H D.rt:=λD σ H⟨F,ρ,fl,ρ',g,e,k⟩=>by obtain⟨r,l,m,e⟩:=aj e;cases e;exact⟨F,ρ,r,_,g,m,λv F1 o s1 s=>k F1 σ o s1 v s⟩
 cases hv:isVar p with|none=>refine dM (Fb he.ev) λD σ H⟨F,ρ,fl,ρ',g,e,k⟩=>plain D σ H ⟨F,ρ,fl,ρ',g,?_,k⟩;rw[HH.X10,hv]at e;exact e|some i=>--by the name itself:its own list is handed back,else its data
   have t:p=.var i:=by cases p<;>cases hv;rfl
   subst t;refine dM (Fb (WK (he.var i hv) he.ev)) ?_;rintro D σ H⟨F,ρ,fl,ρ',g,e,k⟩;rw[HH.X10,hv]at e;dsimp only at e;split at e;.rename_i ds q;cases e;obtain⟨v,h1,u,w⟩:=g.give q;exact .inl ⟨v,h1,k F σ H u v w⟩
   .exact .inr (plain D σ H ⟨F,ρ,fl,ρ',g,e,k⟩)
theorem dW{m o:List Stmt}{s t:List S}(hc:ST X c e p)(u:SB X c n m s)(w:SB X c n o t):SS X c n (.If e m o pos) (.ifs p s t):=by refine dM (Pb hc u w) ?_;rintro D σ H⟨F,ρ,fl,ρ',g,e,k⟩;rw[HH.ZM]at e;obtain⟨x,j,y,e⟩:=aj e;refine⟨F,ρ,x,j,g,y,λF1 z s1=>?_⟩;have go:∀{f:List Sl->Res Fl},f j=.ok fl ρ'->tEx X.K f D σ z:=λ{f}h=>⟨F1,j,fl,ρ',s1.gs,h,λA l B s2=>by have q:=k A l B (s1.trans s2);cases fl with|next=>exact q|brk=>exact q|cont=>exact q|ret r=>exact λv C=>q v (C.later s1)⟩;cases x with|true=>rw[if_pos rfl]at e;exact go e|false=>rw[if_neg Bool.false_ne_true]at e;exact go e
theorem j5{f:Pos}(l:X.N.Nodup)(hi:X.N[i]?=some x)(m:Loc X.env.scope x)(he:SX X c e p)(hs:swapsWith e (some (.Name x f)) pos.line X.env=pure false:=by rfl)(o:X.fn x=true\/X.env.scope.names.lookup x=some .local:=by first|exact .inl rfl|exact .inr rfl|assumption):SS X c n (.Assign [.Name x f] e pos) (.asg i p):=by refine dM (zM l hi m he.ev hs o) ?_;rintro D σ H⟨F,ρ,fl,ρ',g,e,k⟩;rw[HH.X6]at e;obtain⟨r,j,q,e⟩:=aj e;obtain⟨s,t,h,e⟩:=aj e;cases e;have u:=aC h;clear h;obtain⟨h,z⟩:=u;exact⟨F,ρ,r,j,g,q,λv F1 w s1 y=>k F1 _ w (s1.put y h)⟩
end
end HH
end
section
namespace L2
open PySem PySem.Spec PyProof.Rows
variable{env:Env}{scope:Scope}
noncomputable def sy(X:Cx)(scope:Scope)(N':List Str)(cl:List (Str×Addr))(C:Addr)(s₀:Shared)(H₀:Hp)(ex:List Addr):Cx:={X with N:=N',s₀:=s₀,H₀:=H₀,env:=compEnvC scope cl C X.env,outer:=X.stack,stack:=X.stack,ex:=ex,fn:=λx=>scope.names.lookup x==some .cell,pn:=[],xe:=λ_ _=>False}
theorem yt(l:List (Str×NameKind)):∀(cs:List (Str×Addr)),(∀n,(n,NameKind.free)∈l->∃c,env.cells.lookup n=some c)->(∀n c,cs.lookup n=some c->env.cells.lookup n=some c)->∃ cl,(forIn l cs (λ(x:Str × NameKind)(r:List (Str × Addr))=>(if(x.2==NameKind.free)=true then(do let a<-cellOf env x.1;pure (ForInStep.yield ((x.1,a)::r)))else pure (ForInStep.yield r):Sem (ForInStep (List (Str × Addr))))):Sem (List (Str × Addr)))=pure cl/\(∀n c,cl.lookup n=some c->env.cells.lookup n=some c)/\(∀n,((n,NameKind.free)∈l\/(cs.lookup n).isSome)->(cl.lookup n).isSome):=by induction l with|nil=>intro cs _ h;exact⟨cs,rfl,h,λn hn=>by rcases hn with hn|hn;cases hn;exact hn⟩|cons y l i=>
   obtain⟨n,k⟩:=y;intro cs b hc;rw[List.forIn_cons];by_cases f:k=.free
   . subst f;obtain⟨a,j⟩:=b n mem_cons_self;obtain⟨cl,e,h1,g⟩:=i ((n,a)::cs) (λm hm=>b m (mem_cons_of_mem _ hm)) λm c hm=>by
      rw[lookup_cons]at hm;split at hm;.rename_i q;have q:=eq_of_beq q;subst q;cases hm;exact j
      .exact hc m c hm
     refine⟨cl,?_,h1,λm hm=>g m ?_⟩
     . rw[<-e];have:cellOf env n=pure a:=by unfold cellOf;rw[j]
       simp only[beq_self_eq_true,if_true,this];rfl
     . rcases hm with hm|hm
       . rcases mem_cons.mp hm with hm|hm;.cases hm;right;simp[lookup_cons]
         .exact .inl hm
       . right;rw[lookup_cons];split;.rfl
         .exact hm
   . obtain⟨cl,e,h1,g⟩:=i cs (λm hm=>b m (mem_cons_of_mem _ hm)) hc;refine⟨cl,?_,h1,λm hm=>g m ?_⟩
     . rw[<-e];have:(k==NameKind.free)=false:=by simpa using f
       simp only[this,false_eq_true,if_false];rfl
     . rcases hm with hm|hm
       . rcases mem_cons.mp hm with hm|hm;.cases hm;exact absurd rfl f
         .exact .inl hm
       .exact .inr hm
theorem yL(a:∀n,(n,NameKind.free)∈scope.names->∃c,env.cells.lookup n=some c):∃cl,closureFor scope env=pure cl/\(∀n c,cl.lookup n=some c->env.cells.lookup n=some c)/\∀n,(n,NameKind.free)∈scope.names->(cl.lookup n).isSome:=by obtain⟨cl,e,h1,b⟩:=yt (env:=env) scope.names [] a (by simp);refine⟨cl,?_,h1,λn f=>b n (.inl f)⟩;unfold closureFor;exact(congrArg (λt=>t>>=λr=>pure r) e).trans rfl
theorem dU{env:Env}:∀(names:List (Str×NameKind))(x:Str),(names.map λ(n,k)=>if(k==NameKind.free&&env.scope.kind==.function&&env.kindOf n==some .cell)then(n,NameKind.cell)else(n,k)).lookup x=(names.lookup x).map λk=>if(k==NameKind.free&&env.scope.kind==.function&&env.kindOf x==some .cell)=true then NameKind.cell else k
 |[],x=>rfl|(n,k)::r,x=>by
   have a:=dU (env:=env) r x;show List.lookup x ((if(k==NameKind.free&&env.scope.kind==.function&&env.kindOf n==some .cell)=true then(n,NameKind.cell)else(n,k))::_)=_;by_cases hc:(k==NameKind.free&&env.scope.kind==.function&&env.kindOf n==some .cell)=true;.rw[if_pos hc,lookup_cons,lookup_cons];cases hx:x==n with|true=>have:=eq_of_beq hx;subst this;show some NameKind.cell=some (if _ then _ else _);rw[if_pos hc]|false=>exact a
   .rw[if_neg hc,lookup_cons,lookup_cons];cases hx:x==n with|true=>have:=eq_of_beq hx;subst this;show some k=some (if _ then _ else _);rw[if_neg hc]|false=>exact a
noncomputable def Xr(N N':List Str)(a:Scope):Bool:=(N.zip N').all λp=>(p.1==p.2&&a.names.lookup p.2==some .free)||(a.names.lookup p.2!=some .local&&a.names.lookup p.2!=some .cell&&a.names.lookup p.2!=some .free)
structure fK(X:Cx)(scope:Scope)(N':List Str)(n:Nat):Prop where
 kind:scope.kind=.function
 cons:∀y∈scope.names,scope.names.lookup y.1=some y.2
 names:∀y∈scope.names,y.2=.local->scope.names.lookup y.1=some .local
 cap:∀y∈scope.names,y.2=.free->X.env.scope.names.lookup y.1=some .cell\/X.env.scope.names.lookup y.1=some .free
 len:N'.length=X.N.length+n
 same:Xr X.N N' scope=true
theorem fK.get{X:Cx}{N':List Str}{n:Nat}(c:fK X scope N' n){i:Nat}{x:Str}(hi:i<X.N.length)(h:N'[i]?=some x)(a:vQ (relabel scope X.env) x):X.N[i]?=some x/\scope.names.lookup x=some .free:=by
 have hz:(X.N.zip N')[i]?=some (X.N[i],x):=by rw[List.getElem?_zip_eq_some];exact⟨by simp[hi],h⟩
 have:=(all_eq_true.mp c.same) _ (mem_of_getElem? hz);simp only[or_eq_true,and_eq_true]at this;rcases this with⟨h1,b⟩|⟨⟨h1,b⟩,f⟩;.have h1:=eq_of_beq h1;have b:=eq_of_beq b;exact⟨by simp[hi,h1],b⟩
 . exfalso;have h1:scope.names.lookup x≠some .local:=by simpa using h1
   have b:scope.names.lookup x≠some .cell:=by simpa using b
   have f:scope.names.lookup x≠some .free:=by simpa using f
   have e:=dU (env:=X.env) scope.names x;have a:(relabel scope X.env).names.lookup x=some .local\/(relabel scope X.env).names.lookup x=some .cell\/(relabel scope X.env).names.lookup x=some .free:=a;rw[show(relabel scope X.env).names.lookup x=_ from e]at a;cases q:scope.names.lookup x with|none=>rw[q]at a;simp at a|some k=>
     rw[q]at a h1 b f;have g:(k==NameKind.free)=false:=by cases k<;>first|rfl|exact absurd rfl f
     simp only[Option.map_some,g,Bool.false_and,false_eq_true,if_false,Option.some.injEq]at a;rcases a with rfl|rfl|rfl;.exact h1 rfl
     .exact b rfl
     .exact f rfl
structure CI(cl:List (Str×Addr))(z:Nat)(h:Heap)(acc:List (Str×Addr)):Prop where from':∀n c,acc.lookup n=some c->cl.lookup n=some c\/(z<=c/\h.IsCell c none)inj:∀n n' c,acc.lookup n=some c->acc.lookup n'=some c->n=n'
theorem Iv{cl:List (Str×Addr)}{z:Nat}(i:∀n c,cl.lookup n=some c->c<z):∀(names:List (Str×NameKind))(h:Heap)(f:List (Str×Addr)),z<=h.objs.size->CI cl z h f->CI cl z (pushCells h names) (cellsFrom h.objs.size names f)/\(∀n,(f.lookup n).isSome->((cellsFrom h.objs.size names f).lookup n).isSome)/\(∀n,((∃c,f.lookup n=some c/\z<=c)\/(n,NameKind.cell)∈names)->∃c,(cellsFrom h.objs.size names f).lookup n=some c/\z<=c)/\(∀n c,(n,NameKind.cell)∉names->(cellsFrom h.objs.size names f).lookup n=some c->f.lookup n=some c)
 |[],h,f,hz,x=>by
   refine⟨x,λ_ q=>q,λn q=>?_,λ_ _ _ q=>q⟩;rcases q with q|q;.exact q
   .cases q|(name,kind)::r,h,f,hz,x=>by
   unfold pushCells cellsFrom;by_cases l:kind=.cell
   . subst l;rw[if_pos (by rfl),if_pos (by rfl)];have p:CI cl z (h.push {cls:=.type "cell",data:=.cell none}) ((name,h.objs.size)::f):=by
      have lt:∀n c,f.lookup n=some c->c<h.objs.size:=λn c e=>by
       rcases x.from' n c e with q|q;.exact lt_of_lt_of_le (i n c q) hz
       .exact q.2.lt
      refine⟨λn c e=>?_,λn m c e j=>?_⟩
      . rw[lookup_cons]at e;split at e;.cases e;exact .inr ⟨hz,_,get?_push_size _ rfl,rfl⟩
        . rcases x.from' n c e with q|q;.exact .inl q
          .exact .inr ⟨q.1,q.2.keeps λb o e=>fJ e⟩
      . rw[lookup_cons]at e j;split at e<;>split at j;.rename_i _ a _ b;rw[eq_of_beq a,eq_of_beq b]
        .cases e;exact absurd (lt m _ j) (lt_irrefl _)
        .cases j;exact absurd (lt n _ e) (lt_irrefl _)
        .exact x.inj n m c e j
     have g:=Iv i r (h.push {cls:=.type "cell",data:=.cell none}) ((name,h.objs.size)::f) (by rw[size_push];omega) p;rw[size_push]at g;refine⟨g.1,λn q=>g.2.1 n ?_,λn q=>g.2.2.1 n ?_,λn c q e=>?_⟩
     . rw[lookup_cons];split;.rfl
       .exact q
     . rcases q with⟨c,e,hc⟩|q
       . left;rw[lookup_cons];split;.exact⟨_,rfl,hz⟩
         .exact⟨c,e,hc⟩
       . rcases mem_cons.mp q with q|q;.cases q;left;exact⟨_,by simp[lookup_cons],hz⟩
         .exact .inr q
     . have:=g.2.2.2 n c (λz=>q (mem_cons_of_mem _ z)) e;rw[lookup_cons]at this;split at this;.rename_i a;exact absurd (by rw[eq_of_beq a];exact mem_cons_self) q
       .exact this
   . have k:(kind==NameKind.cell)=false:=by simpa using l
     rw[if_neg (by rw[k];decide),if_neg (by rw[k];decide)];have g:=Iv i r h f hz x;refine⟨g.1,g.2.1,λn q=>g.2.2.1 n ?_,λn c q e=>g.2.2.2 n c (λz=>q (mem_cons_of_mem _ z)) e⟩;rcases q with q|q;.exact .inl q
     . rcases mem_cons.mp q with q|q;.cases q;exact absurd rfl l
       .exact .inr q
structure Fe(X:Cx)(scope:Scope)(z:Nat)(h:Heap)(cs:List (Str×Addr)):Prop where
 from':∀n c,cs.lookup n=some c->X.env.cells.lookup n=some c\/(z<c/\h.IsCell c none)inj:∀n n' c,cs.lookup n=some c->cs.lookup n'=some c->n=n'
 has:∀n,(scope.names.lookup n=some .free\/scope.names.lookup n=some .cell)->∃c,cs.lookup n=some c
 fre:∀n c,scope.names.lookup n=some .free->cs.lookup n=some c->X.env.cells.lookup n=some c
 own:∀n c,scope.names.lookup n=some .cell->cs.lookup n=some c->z<c
theorem Df{M:Model}{A:Around}{E:Value->Shared->Prop}{X:Cx}{s:Shared}{N':List Str}{n:Nat}{cl:List (Str×Addr)}{Q:Env->Shared->Prop}(ok:fK X scope N' n)(h:∀n c,X.env.cells.lookup n=some c->c<s.heap.objs.size)(f:∀x y c,X.env.cells.lookup x=some c->X.env.cells.lookup y=some c->x=y)(a:∀n c,cl.lookup n=some c->X.env.cells.lookup n=some c)(l:∀n,(n,NameKind.free)∈scope.names->(cl.lookup n).isSome)(m:∀ cs h',h'.Ns s.heap.objs.size (λ_=>none)->(∀ b o,s.heap.get? b=some o->h'.get? b=some o)->Fe X scope s.heap.objs.size h' cs->Q {scope:=scope,locals:=s.heap.objs.size,globals:=X.env.globals,cells:=cs,qual:=X.env.qual,func:=none,code:=X.env.code,frame:=X.env.frame,builtins:=X.env.builtins} {s with heap:=h'}):wpAny M A (newFunctionEnv scope X.env.globals cl [] X.env.qual none .none (some X.env)) Q E s:=by
 simp only[newFunctionEnv,Option.isSome_some,if_true];refine wpAny_bind (wpAny_alloc ?_);refine wpAny_bind (wpAny_layCells _ (λname kind cells=>by cases i:kind==NameKind.cell<;>simp[i]) _ _ _ _ ?_);have ck:=Iv (cl:=cl) (z:=s.heap.objs.size+1) (λn c e=>Nat.lt_succ_of_lt (h n c (a n c e))) scope.names (s.heap.push {cls:=.type "dict",data:=.dict #[]}) cl (by rw[size_push];exact cO) ⟨λn c e=>.inl e,λn k c e g=>f n k c (a n c e) (a k c g)⟩;obtain⟨c1,c2,c3,c4⟩:=ck;rw[show({s with heap:=s.heap.push {cls:=.type "dict",data:=.dict #[]}}:Shared).heap.objs.size=(s.heap.push {cls:=.type "dict",data:=.dict #[]}).objs.size from rfl];refine wpAny_bind ?_;rw[List.forIn_nil];refine wpAny_pure (wpAny_pure (m _ _ ((Heap.Ns.new s.heap (.type "dict")).keeps (pushCells_keeps _ _)) (λb o e=>pushCells_keeps _ _ b o (fJ e)) ⟨λn c e=>?_,c1.inj,λn q=>?_,λn c q e=>?_,λn c q e=>?_⟩))
 . rcases c1.from' n c e with z|z;.exact .inl (a n c z)
   .exact .inr ⟨z.1,z.2⟩
 . rcases q with q|q;.exact Option.isSome_iff_exists.mp (c2 n (l n (PySem.mem_of_lookup q)))
   .obtain⟨c,e,_⟩:=c3 n (.inr (PySem.mem_of_lookup q));exact⟨c,e⟩
 .refine a n c (c4 n c (λz=>?_) e);have:=ok.cons _ z;rw[q]at this;cases this
 .obtain⟨p,g,j⟩:=c3 n (.inr (PySem.mem_of_lookup q));rw[e]at g;cases g;exact j
section
variable{X:Cx}{pins:List (Addr×Obj)}{σ:L2.St}{H:Hp}{s:Shared}{scope:Scope}{N':List Str}{n:Nat}{fp:List Addr}{cl:List (Str×Addr)}
theorem EY{h1:Heap}{m:Str->Option Value}{t:Nat}{cs:List (Str×Addr)}(ok:fK X scope N' n)(I:Inv X pins σ H s)(G:∀b∈fp,qU X pins H b/\b<s.heap.objs.size)(w:Fe X scope s.heap.objs.size h1 cs)(Q:h1.Ns s.heap.objs.size m)(j:∀b u,s.heap.get? b=some u->h1.get? b=some u):Inv (sy X scope N' cs s.heap.objs.size s H fp) [] (σ++replicate n none) H {s with heap:=h1,toks:=t}:=by
 have U:∀x,scope.names.lookup x=some .free->(relabel scope X.env).names.lookup x=some .cell\/(relabel scope X.env).names.lookup x=some .free:=λx h=>by
  have e:=dU (env:=X.env) scope.names x;rw[h]at e;have J:(relabel scope X.env).names.lookup x=_:=e;rw[J];simp only[Option.map_some];split;.exact .inl rfl
  .exact .inr rfl
 refine⟨⟨I.ok.mod,ok.kind,I.ok.glob,I.ok.blt,cO,λx y c h1 W=>w.inj x y c h1 W,λx z=>?_,λx c h e=>le_of_lt (w.own x c (eq_of_beq (show(scope.names.lookup x==some NameKind.cell)=true from h)) e),I.ok.hd,I.ok.frames,.inl rfl,λb B=>?_,I.bs,le_trans I.ok.PK I.sz,λb u e B=>?_,λb B L=>?_,I.stack,I.Bw⟩,rfl,I.bare,Un.kept j,⟨m,Q,λi x v Y C Z=>?_⟩,λx c e=>?_,I.hok.fresh (cO),λx c e=>?_,λp hp=>(by cases hp),I.hok.kept j,?_⟩;.--a Zd name has its cell
   have z:(relabel scope X.env).names.lookup x=some .cell\/(relabel scope X.env).names.lookup x=some .free:=z;have e:=dU (env:=X.env) scope.names x;have J:(relabel scope X.env).names.lookup x=_:=e;rw[J]at z;refine w.has x ?_;cases q:scope.names.lookup x with|none=>rw[q]at z;simp at z|some k=>
     rw[q]at z;by_cases hk:k=.free;.rw[hk];exact .inl rfl
     . have g:(k==NameKind.free)=false:=by simpa using hk
       simp only[Option.map_some,g,Bool.false_and,false_eq_true,if_false,Option.some.injEq]at z;rcases z with rfl|rfl;.exact .inr rfl
       .exact absurd rfl hk
 . obtain⟨f,lt⟩:=G b B;refine⟨ne_of_lt lt,λx c e=>?_⟩;rcases w.from' x c e with e|e;.exact f.2.2.2.2.1 x c e
   .rintro rfl;exact absurd (Nat.lt_trans e.1 lt) (lt_irrefl _)
 . obtain⟨f,lt⟩:=G b B;rcases f.2.2.2.1 with h|h;.exact I.ok.JG b u e h
   .have this:b<X.base.objs.size:=lt_size e;exact absurd (lt_of_lt_of_le this (le_trans I.ok.PK h)) (lt_irrefl _)
 . obtain⟨f,lt⟩:=G b B;rcases mem_cons.mp (I.vA b L)with h|h;.exact f.2.1 h
   .exact f.2.2.1 h
 .--the names
   have hi:i<σ.length:=by
    by_cases hi:i<σ.length;.exact hi
    .rw[getElem?_append_right (by omega),List.getElem?_replicate]at C;split at C<;>cases C
   rw[getElem?_append_left hi]at C;obtain⟨M,o⟩:=ok.get (by rw[<-I.len];exact hi) Y Z;have hk:=ok.cap (x,.free) (PySem.mem_of_lookup o) rfl;obtain⟨m0,ac,hl⟩:=I.loc;obtain⟨u,r,l⟩:=hl i x v M C (.inr hk);refine⟨u,r,.inr ⟨U x o,?_⟩⟩;rcases l with⟨g,_⟩|⟨_,c,hc,A⟩;.have g:X.env.scope.names.lookup x=some .local:=g;rcases hk with hk|hk<;>(rw[g]at hk;cases hk)
   .obtain⟨c',E⟩:=w.has x (.inl o);have:=w.fre x c' o E;rw[hc]at this;cases this;refine⟨c,E,?_⟩;obtain⟨oc,N,O⟩:=A;exact⟨oc,j c oc N,O⟩
 . rcases w.from' x c e with e|e;.obtain⟨v,oc,N,O⟩:=I.cell x c e;exact⟨v,oc,j c oc N,O⟩
   .exact⟨_,e.2⟩
 . rcases w.from' x c e with e|e;.exact I.jY x c e
   .exact I.hok.fresh (le_of_lt e.1)
 .show(σ++replicate n none).length=N'.length;rw[length_append,List.length_replicate,I.len,ok.len]
theorem ux{prog:Program}{w:World}{A:Around}{R:Result->Shared->Prop}{p a iter:Expr}{ifs:List Expr}{pos:Pos}{it q:Value}(I:Nat->Shared->Prop)(turn:∀ n s,I n s->wpAny (model prog w) A (pyNext it) (λr b=>match r with|none=>R (.ok .next) b|some v=>wpAny (model prog w) A (letOwnedTupleGo a it v) (λ_ b=>wpAny (model prog w) A (assign a env v) (λ_ j=>wpAny (model prog w) A (forIn ifs true λc r=>if r=true then do let ok<-isTrue c env (eval c env);pure (ForInStep.yield ok)else pure (ForInStep.yield r)) (λok g=>if ok=true then wpAny (model prog w) A (eval p env) (λx k=>wpAny (model prog w) A (call (.builtin "list.append") [q,x]) (λ_ l=>∃m,m<n/\I m l) (notedBy (model prog w) A env λe i=>R (.error e) i) k) (notedBy (model prog w) A env λe i=>R (.error e) i) g else ∃m,m<n/\I m g) (notedBy (model prog w) A env λe i=>R (.error e) i) j) (notedBy (model prog w) A env λe i=>R (.error e) i) b) (notedBy (model prog w) A env λe i=>R (.error e) i) b) (notedBy (model prog w) A env λe i=>R (.error e) i) s)(n:Nat){s:Shared}(h:I n s):codeAny (model prog w) A (.compLoop (.ListComp p [⟨a,iter,ifs,0⟩] scope pos) 0 it q env) R s:=by refine codeAny_loop rfl I (λn s z=>?_) n h;show wpAny _ A ((compTurn (.ListComp p [⟨a,iter,ifs,0⟩] scope pos) 0 it q env).onRaise (λx=>do noteFrame x env;theTreesLotGoes x)) _ _ s;refine wpAny_noted ?_;rw[compTurn_list];refine wpAny_bind (wpAny_standAt (wpAny_bind (wpAny_mono (turn n s z) (λr b f=>?_) λ_ _ h'=>h')));cases r with|none=>exact wpAny_pure f|some v=>refine wpAny_bind (wpAny_mono f (λ_ b f=>?_) λ_ _ h'=>h');refine wpAny_bind (wpAny_mono f (λ_ j t=>wpAny_bind (wpAny_mono t (λok g o=>?_) λ_ _ h'=>h')) λ_ _ h'=>h');cases ok with|false=>exact wpAny_pure ⟨rfl,o⟩|true=>exact wpAny_bind (wpAny_bind (wpAny_mono o (λx k u=>wpAny_bind (wpAny_mono u (λ_ l y=>wpAny_pure (wpAny_pure ⟨rfl,y⟩)) λ_ _ h'=>h')) λ_ _ h'=>h'))
def V5(X:Cx)(ifs:List Expr)(t:TT):Prop:=∀(pins:List (Addr × Obj))(s:Shared)(σ:L2.St)(H:Hp)(Q:Bool->Hp->Prop),Inv X pins σ H s->t σ H Q->wpAny (model X.prog X.w) X.A (forIn ifs true λc r=>if r=true then do let ok<-isTrue c X.env (eval c X.env);pure (ForInStep.yield ok)else pure (ForInStep.yield r)) (TP X pins σ Q) X.xe s
theorem Ml{X:Cx}:V5 X [] (λ_ H Q=>Q true H):=λpins s σ H Q I h=>wpAny_tests_nil ⟨H,I,h⟩
def Ol(J:It)(g:TG)(tt:TT)(te:TE)(D:Addr)(Q:Hp->Prop)(W:Nat->Nat->List V->L2.St->Hp->Prop):Prop:=∀ i m ys σ H,W i m ys σ H->H D=some (.lst ys)/\((J.stop i H/\Q H)\/(J.go i H/\∀ x e,J.PN i H x e->g x σ e λa j=>tt a j λb f=>if b=true then te a f λy h=>h D=some (.lst ys)/\ys.length<sizeLine/\∃c,c<m/\W (i+1) c (ys++[y]) a (upd h D (.lst (ys++[y])))else ∃c,c<m/\W (i+1) c ys a f))
theorem tX{E:Value->Shared->Prop}{af a iter:Expr}{ifs:List Expr}{pos:Pos}{it:Addr}{tn:Nat->Heap->Prop}{J:It}{g:TG}{tt:TT}{te:TE}{Q:Addr->Hp->Prop}{RR:Value->Addr->Result->Shared->Prop}(hc:X.calm=true)(ok:fK X scope N' n)(I:Inv X pins σ H s)(ba:∀n c,cl.lookup n=some c->X.env.cells.lookup n=some c)(zX:∀n,(n,NameKind.free)∈scope.names->(cl.lookup n).isSome)(T:Turn X.prog X.w X.K a J fp it tn)(h0:tn 0 s.heap)(hf:∀b∈fp,qU X pins H b)(hg:∀cl C s₀ H₀ ex,PG (sy X scope N' cl C s₀ H₀ ex) a g)(ht:∀cl C s₀ H₀ ex,V5 (sy X scope N' cl C s₀ H₀ ex) ifs tt)(he:∀cl C s₀ H₀ ex,PE (sy X scope N' cl C s₀ H₀ ex) af te)(hw:∀D,H D=none->∃W,(∃m,W 0 m [] (σ++replicate n none) (upd H D (.lst [])))/\Ol J g tt te D (Q D) W)(bi:∀D C B l,Q D l->(∃m,B.heap.Ns C m)->qU X pins l C->Inv X pins σ l B->RR (.ref D) C (.ok .next) B):wpAny (model X.prog X.w) X.A (newList []) (λav aw=>wpAny (model X.prog X.w) X.A (newFunctionEnv scope X.env.globals cl [] X.env.qual none .none (some X.env)) (λal ax=>codeAny (model X.prog X.w) X.A (.compStart (.ListComp af [⟨a,iter,ifs,0⟩] scope pos) 0 (.ref it) av {al with scope:=relabel scope X.env}) (RR av al.locals) ax) E aw) E s:=by
 refine wpAny_newObj_type (Df ok (λx c e=>?lt) I.ok.inj ba zX (λcs M am hold bc=>?_));case lt=>obtain⟨v,z⟩:=I.cell x c e;exact lt_of_lt_of_le z.lt (by show _<=(s.heap.push _).objs.size;rw[size_push];exact Nat.le_succ _)
 dsimp only at am hold bc ⊢--the new list,tracked
 have I3:Inv X pins σ (upd H s.heap.objs.size (.lst [])) {s with heap:=s.heap.push {cls:=.type "list",data:=.seq ([]:List Value).toArray}}:=I.Tt (t':=s.toks) .nil (n8);generalize ap:({s with heap:=s.heap.push {cls:=.type "list",data:=.seq ([]:List Value).toArray}}:Shared)=s3 at I3;have hsz:s3.heap.objs.size=s.heap.objs.size+1:=by rw[<-ap];exact size_push _ _
 have Qa:s3.heap=s.heap.push {cls:=.type "list",data:=.seq ([]:List Value).toArray}:=by rw[<-ap]
 obtain⟨W,⟨m0,w0⟩,turn⟩:=hw s.heap.objs.size I.fresh;have ay:∀{h':Heap},(∀b o,s.heap.get? b=some o->h'.get? b=some o)->tn 0 h':=λk=>T.keep _ _ _ h0 λb j o e=>k b o e;have ag:∀b∈fp,qU X pins (upd H s.heap.objs.size (.lst [])) b/\b<s3.heap.objs.size:=λb j=>by obtain⟨o,e,_⟩:=T.obj 0 _ h0 b j;have lt:=lt_size e;obtain⟨f1,f2⟩:=hf b j;exact⟨⟨by rw[aA (ne_of_lt lt)];exact f1,f2⟩,by rw[hsz];exact Nat.lt_succ_of_lt lt⟩
 rw[<-Qa]at am hold bc ⊢;have I4:=EY (t:=s3.toks) ok I3 ag bc am hold;have Ze:∀b o,s.heap.get? b=some o->M.get? b=some o:=λb o e=>hold b o (by rw[Qa];exact fJ e);generalize U:sy X scope N' cs s3.heap.objs.size s3 (upd H s.heap.objs.size (.lst [])) fp=G at I4;have hA:G.A=X.A:=by rw[<-U];rfl
 have N:G.prog=X.prog:=by rw[<-U];rfl
 have O:G.w=X.w:=by rw[<-U];rfl
 have aE:G.K=X.K:=by rw[<-U];rfl
 have Y:G.calm=true:=by rw[<-U];exact hc
 have bm:G.xe=λ_ _=>False:=by rw[<-U];rfl
 have aI:G.env=compEnvC scope cs s3.heap.objs.size X.env:=by rw[<-U];rfl
 have bn:PG G a g:=by rw[<-U];exact hg _ _ _ _ _
 have bo:V5 G ifs tt:=by rw[<-U];exact ht _ _ _ _ _
 have bp:PE G af te:=by rw[<-U];exact he _ _ _ _ _
 have ff:∀{l:Hp}{b:Addr},b∈fp->l b=none->qU G [] l b:=λ{l b}j hn=>by
  obtain⟨f,lt⟩:=ag b j;rw[<-U];refine⟨hn,ne_of_lt lt,λbq=>?_,.inl j,λx c e=>?_,λp hp=>by cases hp⟩
  . rcases mem_cons.mp (I3.vA b bq)with h|h;.exact f.2.1 h
    .exact f.2.2.1 h
  . rcases bc.from' x c e with e|e;.exact f.2.2.2.2.1 x c e
    .rintro rfl;exact absurd (Nat.lt_trans e.1 lt) (lt_irrefl _)--behind the block
 have fin:∀{L:L2.St}{l:Hp}{B:Shared},Inv G [] L l B->Q s.heap.objs.size l->RR (.ref s.heap.objs.size) s3.heap.objs.size (.ok .next) B:=λ{L l B}J' q=>by
  rw[<-U]at J';have hC:l s3.heap.objs.size=none:=J'.free;obtain⟨hh,gg,dd,br,bv⟩:=B;have bP:bv=s3.os:=J'.os;subst bP;refine bi _ _ _ l q (let⟨m,hm,_⟩:=J'.loc;⟨m,hm⟩) ?_ (I3.call (h':=hh) (g':=gg) (d':=dd) (t':=br) (ch:=fp) J'.base J'.hok J'.bare λb j=>?_);.exact I3.Jt (cO) hC
  .obtain⟨f,lt⟩:=ag b j;exact⟨f.2.2.2.1,f.2.1,f.2.2.2.2.1,f.2.2.2.2.2⟩
 have ac:codeAny (model X.prog X.w) X.A (.compLoop (.ListComp af [⟨a,iter,ifs,0⟩] scope pos) 0 (.ref it) (.ref s.heap.objs.size) G.env) (RR (.ref s.heap.objs.size) s3.heap.objs.size) {s3 with heap:=M,toks:=s3.toks}:=by
  refine ux (λk B=>∃i ys L l,Inv G [] L l B/\tn i B.heap/\(∀b∈fp,l b=none)/\W i k ys L l) (λk s5 hI=>?_) m0 ⟨0,[],_,_,I4,ay Ze,λb j=>(ag b j).1.1,w0⟩;obtain⟨i,ys,ah,H5,I5,t5,f5,w5⟩:=hI;obtain⟨hD,ar⟩:=turn i k ys ah H5 w5;have ai:∀{Z:Value->Shared->Prop},∀(e:Value)(B:Shared),G.xe e B->Z e B:=λe B z=>by rw[bm]at z;exact False.elim z
  rcases ar with⟨stop,q⟩|⟨go,step⟩;.have z:=T.done G N O aE Y i [] s5 ah H5 (λ_ _=>False) I5 (λb j=>ff j (f5 b j)) t5 stop;rw[hA]at z;refine wpAny_mono z (?_) λ_ _ z=>False.elim z;rintro r s6⟨hr,I6⟩;subst hr;exact fin I6 q
  . have z:=T.item G N O aE Y i [] s5 ah H5 (λ_ _=>False) I5 (λb j=>ff j (f5 b j)) t5 go;rw[hA]at z;refine wpAny_mono z (?_) λ_ _ z=>False.elim z;rintro r s6⟨u,hr,z6⟩;subst hr;refine wpAny_mono z6 (?_) λ_ _ z=>False.elim z;rintro _ s7⟨x,H7,I7,r7,y7,t7,f7⟩;have bS:=I7.pinned (λb j=>ff j (f7 b j)) (T.obj _ _ t7)--what the pins keep
    have back:∀{L:L2.St}{l:Hp}{B:Shared},Inv G ([]++pO fp s7.heap) L l B->Inv G [] L l B/\tn (i+1) B.heap/\∀b∈fp,l b=none:=λ{L l B}J'=>by refine⟨J'.lJ,T.keep _ _ _ t7 λb j o e=>(J'.pin (b,o) (mem_append_right _ (mem_append_right _ (iK j e)))).1,λb j=>?_⟩;obtain⟨o,e,_⟩:=T.obj _ _ t7 b j;exact(J'.pin (b,o) (mem_append_right _ (mem_append_right _ (iK j e)))).2.1
    have z7:=bn _ s7 ah H7 x u _ bS r7 (step x H7 y7);rw[hA,N,O]at z7;refine wpAny_mono z7 (?_) ai;rintro _ s8⟨ae,H8,I8,q8⟩;have z8:=bo _ s8 ae H8 _ I8 q8;rw[hA,N,O]at z8;refine wpAny_mono z8 (?_) ai;rintro b s9⟨H9,I9,q9⟩;cases b with|false=>rw[if_neg Bool.false_ne_true]at q9 ⊢;obtain⟨m',hm,w'⟩:=q9;obtain⟨b1,b2,b3⟩:=back I9;exact⟨m',hm,i+1,ys,ae,H9,b1,b2,b3,w'⟩|true=>rw[if_pos rfl]at q9 ⊢;have z9:=bp _ s9 ae H9 _ I9 q9;rw[hA,N,O]at z9;refine wpAny_mono z9 (?_) ai;rintro y rH⟨yv,aS,bX,ca,cb,aT,m',hm,w'⟩;have a8:=mZ _ rH ae aS (.ref s.heap.objs.size) [yv] (.ref s.heap.objs.size) [y] (λv a9=>a9=upd aS s.heap.objs.size (.lst (ys++[yv]))) bX rfl (.cons ca .nil) ⟨_,ys,yv,rfl,rfl,cb,aT,rfl⟩;rw[hA,N,O]at a8;refine wpAny_mono a8 (?_) ai;rintro _ ZZ⟨_,a9,cf,_,ci⟩;subst ci;obtain⟨b1,b2,b3⟩:=back cf;exact⟨m',hm,i+1,ys++[yv],ae,_,b1,b2,b3,w'⟩
 have e3:({s3 with heap:=M,toks:=s3.toks}:Shared)={s with heap:=M}:=by rw[<-ap]
 rw[aI,e3]at ac;exact codeAny_compStart_list ac (T.self _ 0 _ _ _ (ay Ze) ac)
end
section
variable{X:Cx}{elt target iter:Expr}{ifs:List Expr}{scope:Scope}{pos:Pos}{N':List Str}{n:Nat}{wi:TI}{g:TG}{tt:TT}{te:TE}
def sV(n:Nat)(wi:TI)(g:TG)(tt:TT)(te:TE):TE:=λσ H Q=>wi σ H λJ a=>∀D,a D=none->∃W,(∃m,W 0 m [] (σ++replicate n none) (upd a D (.lst [])))/\Ol J g tt te D (λb=>Q (.ref D) b) W
theorem lg{a:List (Addr×Obj)}{σ:L2.St}{H:Hp}{s:Shared}(I:Inv X a σ H s)(ok:fK X scope N' n):∃cl,closureFor scope X.env=pure cl/\(∀n c,cl.lookup n=some c->X.env.cells.lookup n=some c)/\∀n,(n,NameKind.free)∈scope.names->(cl.lookup n).isSome:=yL λm b=>I.ok.has m (ok.cap (m,.free) b rfl)
theorem Ld(hc:X.calm=true)(ok:fK X scope N' n)(hi:PI X target iter wi)(r:∀cl C s₀ H₀ ex,PG (sy X scope N' cl C s₀ H₀ ex) target g)(ht:∀cl C s₀ H₀ ex,V5 (sy X scope N' cl C s₀ H₀ ex) ifs tt)(he:∀cl C s₀ H₀ ex,PE (sy X scope N' cl C s₀ H₀ ex) elt te)(hs:∀x,foldedSetIterable iter X.env x=pure x:=by intro _;rfl):PE X (.ListComp elt [⟨target,iter,ifs,0⟩] scope pos) (sV n wi g tt te):=by intro a s σ H Q I h;obtain⟨cl,c,i,t⟩:=lg I ok;rw[eval_ListComp];refine wpAny_comprehension_free (use:=none) rfl hs c ok.kind ok.names (bT (hi a s σ H _ I h) λv s1 h1=>bT h1 λu s2 y=>?_);obtain⟨it,M,N,J,O,rfl,z,T,t0,f2,B⟩:=y;refine tX (Q:=λD j=>Q (.ref D) j) (RR:=λk C=>compPost (model X.prog X.w) X.A X.xe none (EP X a σ Q) k C) hc ok z i t T t0 f2 r ht he B λD C E j q l f G=>?_;obtain⟨m,l⟩:=l;refine⟨m,l,λh' p=>⟨.ref D,j,?_,rfl,q⟩⟩;exact G.turned (t':=E.toks) (λb o L e=>p.extBut b o L e) f.1 f.2.1 f.2.2.2.1 f.2.2.2.2.1 f.2.2.2.2.2
theorem Al{i:Nat}{x:Str}{c j:Pos}(hc:X.calm=true)(U:X.N.Nodup)(r:X.N[i]?=some x)(W:Loc X.env.scope x)(ok:fK X scope N' n)(hi:PI X target iter wi)(Y:∀cl C s₀ H₀ ex,PG (sy X scope N' cl C s₀ H₀ ex) target g)(ht:∀cl C s₀ H₀ ex,V5 (sy X scope N' cl C s₀ H₀ ex) ifs tt)(he:∀cl C s₀ H₀ ex,PE (sy X scope N' cl C s₀ H₀ ex) elt te)(t:swapsWith (.ListComp elt [⟨target,iter,ifs,0⟩] scope pos) (some (.Name x c)) j.line X.env=pure true)(hs:∀x,foldedSetIterable iter X.env x=pure x:=by intro _;rfl)(Z:X.fn x=true\/X.env.scope.names.lookup x=some .local:=by first|exact .inl rfl|exact .inr rfl|assumption):PS X (.Assign [.Name x c] (.ListComp elt [⟨target,iter,ifs,0⟩] scope pos) j) (RL (sV n wi g tt te) (jy i)):=by
 intro f s σ H D I h;obtain⟨cl,k,u,zX⟩:=lg I ok;rw[exec_Assign_Name_used _ _ _ _ t];refine wpAny_bind (wpAny_standAt (wpAny_bind ?_));show wpAny _ X.A (do let _<-comprehension (.ListComp elt [⟨target,iter,ifs,0⟩] scope pos) scope X.env _ (newList []) false (eval iter X.env) (some (assign (.Name x c) X.env))) _ _ s;refine wpAny_bind (wpAny_mono (wpAny_comprehension_free (use:=some (assign (.Name x c) X.env)) (Q:=λ_ p=>SP X f D .next p) rfl hs k ok.kind ok.names (bT (hi f s σ H _ I h) λv s1 h1=>bT h1 λac s2 h2=>?_)) (λ_ p hq=>wpAny_pure (wpAny_pure hq)) λ_ _ e=>e);obtain⟨it,fp,tn,J,H2,rfl,I2,T,t0,f2,hw⟩:=h2;refine tX (Q:=λDa y=>D.nx (σ.set i (some (.ref Da))) y) (RR:=λB C=>compPost (model X.prog X.w) X.A X.xe (some (assign (.Name x c) X.env)) (λ_ p=>SP X f D .next p) B C) hc ok I2 u zX T t0 f2 Y ht he hw λDa C p y q E l I'=>?_;obtain⟨m,E⟩:=E;show wpAny _ X.A (assign (.Name x c) X.env (.ref Da)) _ _ _;refine wpAny_assign_Name (tV I' U r W (show RelV (.ref Da) (.ref Da)from rfl) (?_) Z);rintro G L⟨a,sb,ha⟩;have M:C≠a:=by
  rcases ha with rfl|ha;.exact l.2.1
  .exact λz=>l.2.2.2.2.1 x a ha z.symm
 refine⟨m,E.sameBut sb M,λh' O=>⟨_,y,?_,q⟩⟩;exact L.turned (t':=G.toks) (λb o hb e=>O.extBut b o hb e) l.1 l.2.1 l.2.2.2.1 l.2.2.2.2.1 l.2.2.2.2.2
def acO(K:PySem.W.Frag)(c:TE):TI:=λσ H R=>c σ H λx b=>∃a,x=.ref a/\(((∃xs,fP K b a xs)/\R (Qv K a) b)\/((∃xs,jO K b a xs)/\R (Vu K a) b))
theorem yG{u l:Expr}{r:TE}(w:PE X l r):PI X u l (acO X.K r):=by
 intro f s σ H R I h;refine bT (w f s σ H _ I h) ?_;rintro v s1⟨x,t,c,r1,j⟩;obtain⟨a,e,j⟩:=j;subst e;cases r1;rcases j with⟨⟨xs,k⟩,q⟩|⟨⟨xs,k⟩,q⟩
 . obtain⟨i,y,p,hz⟩:=c.list k;refine wpAny_pyIter_list p.isList ?_;refine⟨s1.heap.objs.size,[s1.heap.objs.size],_,_,t,rfl,c.kept (t':=s1.toks) λb o e=>fJ e,Dj a _,⟨_,get?_push_size _ rfl,rfl,rfl⟩,λb m=>?_,q⟩;have e:b=s1.heap.objs.size:=by simpa using m
   subst e;exact c.Jt (cO) (c.hok.fresh (cO))
 . obtain⟨i,y,p,hz⟩:=c.tuple k;refine wpAny_pyIter_tuple (show s1.heap.IsTuple a i.toArray from p) ?_;refine⟨s1.heap.objs.size,[s1.heap.objs.size],_,_,t,rfl,c.kept (t':=s1.toks) λb o e=>fJ e,zg a _,⟨_,get?_push_size _ rfl,rfl,rfl⟩,λb m=>?_,q⟩;have e:b=s1.heap.objs.size:=by simpa using m
   subst e;exact c.Jt (cO) (c.hok.fresh (cO))
end
end L2
end
section
namespace HH
open PySem L2 PySem.Spec PyProof.Rows
variable{v:V}{i m:Nat}{K:PySem.W.Frag}{F H:Hp}{ρ:List Sl}{σ:L2.St}{x:Str}{p':Pos}{is:List Nat}{ds:List D}{s:Shared}{A:Around}{u':Value}
structure Walk(K:PySem.W.Frag)(F:Hp)(ρ:List Sl)(σ:L2.St)(H:Hp)(ul:List Sl->List Sl)(J:It)(ds:List D)(F1:Hp)(ρ1:List Sl)(H1:Hp):Prop where
 gs:GS K F1 ρ1 σ H1
 src:∀(n k:Nat)(F':Hp)(ρ':List Sl)(σ':L2.St)(H':Hp),az K F1 (ρ1++replicate n .aW) (σ++replicate n none) H1 F' ρ' σ' H'->(∀d,ds[k]?=some d->J.go k H'/\∀x vL,J.PN k H' x vL->∃F'',Ext F' H' F'' vL/\Rep K F'' x d)/\(ds.length<=k->J.stop k H')fin:∀F2 ρ2 σ2 H2,az K F1 ρ1 σ H1 F2 ρ2 σ2 H2->az K F ρ σ H F2 (ul ρ2) σ2 H2/\∀v r,cR K F2 ρ2 σ2 H2 ρ1 σ H1 v r->cR K F2 (ul ρ2) σ2 H2 ρ σ H v r
inductive tIt(K:PySem.W.Frag)(iv:Option Nat)(f:Ev)(σ:L2.St)(H:Hp)(R:It->Hp->Prop):Prop where|mk(F:Hp)(ρ:List Sl)(ds:List D)(ρ1:List Sl)(g:GS K F ρ σ H)(e:srcOf iv f ρ=.ok ds ρ1)(k:∀J F1 H1,Walk K F ρ σ H (bj ρ iv) J ds F1 ρ1 H1->R J H1)
section
variable{K:PySem.W.Frag}{F F1 H H1:Hp}{ρ ρ1:List Sl}{σ:L2.St}{ds:List D}{a:Addr}
theorem Ck{xs:List V}{f b:Hp}(g:jO K b a xs)(r:aF K f xs ds)(s:aH f b)(k:Nat):(∀d,ds[k]?=some d->(Vu K a).go k b/\∀x j,(Vu K a).PN k b x j->∃c,Ext f b c j/\Rep K c x d)/\(ds.length<=k->(Vu K a).stop k b):=by refine⟨λd hd=>?_,λh=>⟨xs,g,by rw[r.length];exact h⟩⟩;obtain⟨w,h1,l⟩:=r.get hd;refine⟨⟨xs,w,g,h1⟩,?_⟩;rintro x j⟨e,y⟩;subst e;have:=y xs g;rw[h1]at this;cases this;exact⟨f,.refl s,l⟩
theorem pM{xs:List V}{f b:Hp}(g:fP K b a xs)(r:aF K f xs ds)(s:aH f b)(k:Nat):(∀d,ds[k]?=some d->(Qv K a).go k b/\∀x j,(Qv K a).PN k b x j->∃c,Ext f b c j/\Rep K c x d)/\(ds.length<=k->(Qv K a).stop k b):=by refine⟨λd hd=>?_,λh=>⟨xs,g,by rw[r.length];exact h⟩⟩;obtain⟨w,h1,l⟩:=r.get hd;refine⟨⟨xs,w,g,h1⟩,?_⟩;rintro x j⟨e,y⟩;subst e;have:=y xs g;rw[h1]at this;cases this;exact⟨f,.refl s,l⟩
theorem wA{ul:List Sl->List Sl}{d:D}(s:az K F ρ σ H F1 ρ1 σ H1)(r:Rep K F1 v d)(hi:items d=some ds)(fin:∀f b c g,az K F1 ρ1 σ H1 f b c g->az K F ρ σ H f (ul b) c g/\∀v r,cR K f b c g ρ1 σ H1 v r->cR K f (ul b) c g ρ σ H v r):∃a,v=.ref a/\(((∃xs,fP K H1 a xs)/\Walk K F ρ σ H ul (Qv K a) ds F1 ρ1 H1)\/((∃xs,jO K H1 a xs)/\Walk K F ρ σ H ul (Vu K a) ds F1 ρ1 H1)):=by cases d with|tup es=>cases hi;rw[Rep]at r;obtain⟨a,xs,rfl,h1,h⟩:=r;exact⟨a,rfl,.inr ⟨⟨xs,aH.iD s.gs.sub h1⟩,s.gs,λn k o j l p e=>Ck (aH.iD e.gs.sub (aH.iD e.cW h1)) (h.mono e.cW) e.gs.sub k,fin⟩⟩|lst es=>cases hi;rw[Rep]at r;obtain⟨a,xs,rfl,h1,h⟩:=r;exact⟨a,rfl,.inl ⟨⟨xs,s.gs.sub.seq h1⟩,s.gs,λn k o j l p e=>pM (e.gs.sub.seq (e.cW.seq h1)) (h.mono e.cW) e.gs.sub k,fin⟩⟩|_=>cases hi
theorem sW{ul:List Sl->List Sl}(g:GS K F ρ1 σ H)(e:ρ1[i]?=some (.lent ds))(fin:∀f b c h,az K F ρ1 σ H f b c h->az K F ρ σ H f (ul b) c h/\∀v r,cR K f b c h ρ1 σ H v r->cR K f (ul b) c h ρ σ H v r):∃a,σ[i]?=some (some (.ref a))/\(∃xs,fP K H a xs)/\Walk K F ρ σ H ul (Qv K a) ds F ρ1 H:=by obtain⟨a,xs,h1,p,C,E⟩:=g.qi i _ ds e rfl;have hi:i<ρ1.length:=(eG e).1;refine⟨a,h1,⟨xs,fP.of p⟩,g,λn k G q u I j=>?_,fin⟩;obtain⟨l,t,w,y⟩:=j.lk i _ (by rw[getElem?_append_left hi];exact e) rfl;cases(show t=.lent ds from y);rw[getElem?_append_left (by rw[<-g.len];exact hi),h1]at l;obtain⟨J,ys,o,z,L,B⟩:=j.gs.qi i _ ds w rfl;rw[l]at o;cases o;exact pM (fP.of z) B j.gs.sub k
end
section
variable{X:Cx}{c:Call}{n:Nat}{e a b d tg:Expr}{p pa pb pd:P}{pos:Pos}
theorem qQ{t t':TI}(h:PI X tg e t)(i:∀σ H R,t' σ H R->t σ H R):PI X tg e t':=λf s σ H R I q=>h f s σ H R I (i σ H R q)
def SI(X:Cx)(c:Call)(tg e:Expr)(p:P):Prop:=PI X tg e (tIt X.K (isVar p) (HH.ev c p))
theorem cg(h:SX X c e p):SI X c tg e p:=by unfold SI;cases hv:isVar p with|none=>refine qQ (yG h.ev) ?_;rintro σ H R⟨F,ρ,ds,u,g,e,k⟩;obtain⟨r,f,L,t⟩:=aj e;have y:=aC t;clear t;obtain⟨t,B⟩:=y;subst B;refine⟨F,ρ,r,_,g,L,λv U W s C=>?_⟩;obtain⟨l,s2,_,M⟩:=s.dh C;obtain⟨a,E,G⟩:=wA (ul:=bj ρ none) s2 M t λF3 N O Y s3=>⟨s2.trans s3,λv r C=>C.later s2⟩;exact⟨a,E,G.imp (λ⟨z,w⟩=>⟨z,k _ _ _ w⟩) (λ⟨z,w⟩=>⟨z,k _ _ _ w⟩)⟩|some i=>
   refine qQ (yG (h.var i hv)) ?_;rintro σ H R⟨F,ρ,ds,u,g,e,k⟩;unfold srcOf at e;dsimp only at e;split at e
   . rename_i b d q;have y:=aC e;clear e;obtain⟨t,B⟩:=y;subst B;obtain⟨v,h1,Q⟩:=g.val i b d q;have fin:∀l f j o,az X.K F ρ σ H l f j o->az X.K F ρ σ H l (bj ρ (some i) f) j o/\∀v r,cR X.K l f j o ρ σ H v r->cR X.K l (bj ρ (some i) f) j o ρ σ H v r:=λl f j o s=>by unfold bj;dsimp only;rw[q];exact⟨s,λ_ _ z=>z⟩
     obtain⟨a,E,G⟩:=wA (ul:=bj ρ (some i)) (.refl g) Q t fin;exact⟨v,h1,a,E,G.imp (λ⟨z,w⟩=>⟨z,k _ _ _ w⟩) (λ⟨z,w⟩=>⟨z,k _ _ _ w⟩)⟩
   . rename_i b I q;cases e;have hi:i<ρ.length:=(eG q).1;have fin:∀l f j o,az X.K F (ρ.set i (.lent ds)) σ H l f j o->az X.K F ρ σ H l (bj ρ (some i) f) j o/\∀v r,cR X.K l f j o (ρ.set i (.lent ds)) σ H v r->cR X.K l (bj ρ (some i) f) j o ρ σ H v r:=λl f j o s=>by unfold bj;dsimp only;rw[q];exact az.bj g q s
     obtain⟨a,h1,J,w⟩:=sW (ul:=bj ρ (some i)) (g.lend q) (getElem?_set_self hi) fin;exact⟨_,h1,a,rfl,.inl ⟨J,k _ _ _ w⟩⟩
   . rename_i I q;cases e;have fin:∀l f j o,az X.K F ρ σ H l f j o->az X.K F ρ σ H l (bj ρ (some i) f) j o/\∀v r,cR X.K l f j o ρ σ H v r->cR X.K l (bj ρ (some i) f) j o ρ σ H v r:=λl f j o s=>by unfold bj;dsimp only;rw[q];exact⟨s,λ_ _ z=>z⟩
     obtain⟨a,h1,J,w⟩:=sW (ul:=bj ρ (some i)) g q fin;exact⟨_,h1,a,rfl,.inl ⟨J,k _ _ _ w⟩⟩
   .cases e
theorem xu{F1 g:Hp}{f:List Sl}(s:az K F ρ σ H F1 f σ g)(i j:Int):Walk K F ρ σ H (bj ρ none) (VB i (j-i).toNat) ((List.range (j-i).toNat).map λ(k:Nat)=>D.int (i+(k:Int))) F1 f g:=by
 refine⟨s.gs,λn k o q t I u=>⟨λd hd=>?_,λh=>?_⟩,λF3 w y J s3=>⟨s.trans s3,λv r z=>z.later s⟩⟩;.rw[getElem?_map]at hd;obtain⟨m,B,C⟩:=map_some hd;obtain⟨h1,l⟩:=eG B;rw[List.getElem_range]at l;subst l;subst C;rw[length_range]at h1;refine⟨h1,?_⟩;rintro x L⟨E,G⟩;subst E;subst G;exact⟨o,.refl u.gs.sub,bN _⟩
 .rw[length_map,length_range]at h;exact h
theorem vq(t:x="range")(u:Gl X x)(w:X.mg x=none)(y:SX X c a pa)(hs:starEach [a] X.env=[(false,eval a X.env)]:=by rfl):SI X c tg (.Call (.Name x p') [a] [] pos) (.yc (.con (.int 0)) pa):=by
 subst t;obtain⟨U,h1,z⟩:=y.cH;refine qQ (sZ u w (cu h1 dY hs) hs) ?_;rintro σ H R⟨F,ρ,ds,B,g,e,k⟩;obtain⟨r,C,q,h⟩:=aj e;have l:=aC h;clear h;obtain⟨h,E⟩:=l;subst E;rw[HH.E19]at q;obtain⟨W,G,I,f⟩:=aj q;have l:=aC f;clear f;obtain⟨f,J⟩:=l;subst J;obtain⟨Y,L,M,o⟩:=aj I;cases o;obtain⟨i,f1,f⟩:=bV f;obtain⟨j,f2,f⟩:=bV f;obtain⟨⟨b1,b2,b3,b4⟩,f⟩:=aU f;have f1:i=0:=by cases f1;rfl
 subst f1;subst f;cases h;cases cJ f2;refine z g M λv N O s Q=>⟨j,by rw[Q.int],by omega,by omega,?_⟩;have:=xu s 0 j;rw[sub_zero]at this;refine k _ N O ?_;rw[sub_zero];exact this
theorem Mj(y:x="range")(z:Gl X x)(B:X.mg x=none)(C:SX X c a pa)(E:SX X c b pb)(hs:starEach [a,b] X.env=[(false,eval a X.env),(false,eval b X.env)]:=by rfl)(h:starEach [b] X.env=[(false,eval b X.env)]:=by rfl):SI X c tg (.Call (.Name x p') [a,b] [] pos) (.yc pa pb):=by subst y;obtain⟨Y,Z,h1,G,I⟩:=C.ie E;refine qQ (DW z B (cu h1 (cu G dY h) (by rw[hs,h])) hs h) ?_;rintro σ H R⟨F,ρ,ds,J,g,e,k⟩;obtain⟨r,L,o,l⟩:=aj e;have q:=aC l;clear l;obtain⟨l,M⟩:=q;subst M;rw[HH.E19]at o;obtain⟨xy,N,O,f⟩:=aj o;have q:=aC f;clear f;obtain⟨f,Q⟩:=q;subst Q;obtain⟨i,f1,f⟩:=bV f;obtain⟨j,f2,f⟩:=bV f;obtain⟨⟨b1,b2,b3,b4⟩,f⟩:=aU f;subst f;cases l;refine I g O λv u U W s t w=>⟨i,j,?_,by omega,k _ U W (xu s i j)⟩;have o:=cJ f1;have l:=cJ f2;rw[o]at t;rw[l]at w;rw[t.int,w.int]
end
section
variable{X:Cx}{c:Call}{n:Nat}{e a b d tg iter:Expr}{p pa pb pd:P}{pos:Pos}{body:List Stmt}{ss:List S}
def J8(K:PySem.W.Frag)(j:List Sl->D->Option (List Sl))(g:TG):Prop:=∀(x:V)(d:D)(F:Hp)(ρ f:List Sl)(σ:L2.St)(H:Hp)(Q:L2.St->Hp->Prop),GS K F ρ σ H->Rep K F x d->j ρ d=some f->(∀h,az K F ρ σ H F f h H->Q h H)->g x σ H Q
theorem uB(i:Nat):J8 K (λρ d=>put ρ i (.val false d)) (jy i):=λx d F ρ f σ H Q g r h k=>k _ (az.put (r:=.val d) (.refl g) r h)
theorem gH:∀(is:List Nat)(gs:Et),(∀(xs:List V)(ds:List D)(F:Hp)(ρ f:List Sl)(σ:L2.St)(H:Hp)(Q:L2.St->Hp->Prop),GS K F ρ σ H->aF K F xs ds->putAll ρ is ds=some f->(∀j,az K F ρ σ H F f j H->Q j H)->gs xs σ H Q)->∀i,∀(xs:List V)(ds:List D)(F:Hp)(ρ f:List Sl)(σ:L2.St)(H:Hp)(Q:L2.St->Hp->Prop),GS K F ρ σ H->aF K F xs ds->putAll ρ (i::is) ds=some f->(∀j,az K F ρ σ H F f j H->Q j H)->Gh (jy i) gs xs σ H Q:=by intro is gs o i xs ds F ρ f σ H Q g r h k;cases ds with|nil=>simp[jz,iI,mU,m7]at h|cons d ds=>obtain⟨v,vs,rfl,h1,q⟩:=r.cM;rw[iI]at h;obtain⟨l,t,u⟩:=bV h;have s1:=az.put (r:=.val d) (.refl g) h1 t;refine⟨v,vs,rfl,o vs ds F l f _ H _ s1.gs q u λj s2=>k j (s1.trans s2)⟩
theorem oX:∀(xs:List V)(ds:List D)(F:Hp)(ρ f:List Sl)(σ:L2.St)(H:Hp)(Q:L2.St->Hp->Prop),GS K F ρ σ H->aF K F xs ds->putAll ρ [] ds=some f->(∀j,az K F ρ σ H F f j H->Q j H)->QR xs σ H Q:=by intro xs ds F ρ f σ H Q g r h k;cases ds with|nil=>rw[jz]at h;cases h;exact⟨r.fL,k σ (.refl g)⟩|cons d ds=>simp[jz,iI,mU,m7]at h
theorem kI:∀{is:List Nat}{ds:List D}{ρ f:List Sl},putAll ρ is ds=some f->ds.length=is.length|[],[],_,_,_=>rfl|[],_::_,_,_,h=>by simp[jz,iI,mU,m7]at h|_::_,[],_,_,h=>by simp[jz,iI,mU,m7]at h|i::is,d::ds,ρ,f,h=>by rw[iI]at h;obtain⟨g,k,j⟩:=bV h;simp[kI j]
theorem uI{gs:Et}(q:m=is.length)(h:∀(xs:List V)(ds:List D)(F:Hp)(ρ f:List Sl)(σ:L2.St)(H:Hp)(Q:L2.St->Hp->Prop),GS K F ρ σ H->aF K F xs ds->putAll ρ is ds=some f->(∀l,az K F ρ σ H F f l H->Q l H)->gs xs σ H Q):J8 K (λρ d=>cP ρ is false d) (RJ K m gs):=by intro x d F ρ f σ H Q g r j k;replace j:cP ρ is false d=some f:=j;cases d with|tup ds=>replace j:putAll ρ is ds=some f:=j;rw[Rep]at r;obtain⟨a,xs,rfl,h1,o⟩:=r;exact⟨a,xs,rfl,aH.iD g.sub h1,by rw[o.length,kI j,q],h xs _ F ρ f σ H Q g o j k⟩|_=>cases j
theorem qP{g:TG}{one:Bool}(hp:PassesOwn (model X.prog X.w) X.A X.env X.xe)(hc:X.calm=true)(hi:SI X c tg iter p)(hg:PG X tg g)(ac:J8 X.K (λρ d=>cP ρ is one d) g)(hb:SB X c n body ss)(hs:∀x,foldedSetIterable iter X.env x=pure x:=by intro _;rfl):SS X c n (.For tg iter body [] pos) (.jQ p is one ss):=by
 refine dM (Hh hp hc hi hg hb hs) ?_;rintro D σ H⟨F,ρ,fl,t,g0,e,k⟩;rw[HH.X13]at e;obtain⟨ds,o,e1,e⟩:=aj e;obtain⟨af,I,e2,e⟩:=aj e;cases e;refine⟨F,ρ,ds,o,g0,e1,λJ F1 H1 w=>?_⟩;have src:∀(i:Nat)(U:Hp)(t:List Sl)(h:L2.St)(j:Hp),az X.K F1 o σ H1 U t h j->(∀d,ds[i]?=some d->J.go i j/\∀x vL,J.PN i j x vL->∃L,Ext U j L vL/\Rep X.K L x d)/\(ds.length<=i->J.stop i j):=λi U t h j s=>w.src 0 i U t h j (by simpa using s);refine⟨λi m q W=>∃G f,az X.K F1 o σ H1 G f q W/\m=ds.length-i/\i<=ds.length/\iw is one (iu c n ss) (ds.drop i) f=.ok fl I,⟨_,F1,o,.refl w.gs,rfl,n8,e2⟩,?_⟩;rintro i m q W⟨G,f,Y,rfl,ag,l⟩;obtain⟨s1,s2⟩:=src i G f q W Y;by_cases u:i<ds.length
 . right;have hd:ds[i]?=some ds[i]:=by simp[u]
   obtain⟨go,step⟩:=s1 _ hd;refine⟨go,λh j=>∃m',m'<ds.length-i/\∃G f,az X.K F1 o σ H1 G f h j/\m'=ds.length-(i+1)/\i+1<=ds.length/\iw is one (iu c n ss) (ds.drop (i+1)) f=.ok fl I,λh j z=>z,λx j y=>?_⟩;obtain⟨F2,ext,rx⟩:=step x j y;have M:=Y.trans (ext.stp Y.gs);rw[drop_eq_getElem_cons u,zN]at l;cases hbd:cP f is one ds[i]with|none=>rw[hbd]at l;cases l|some N=>rw[hbd]at l;obtain⟨O,C,eb,l⟩:=aj l;refine ac x _ F2 f N q j _ M.gs rx hbd λah sb=>?_;have E:=M.trans sb;refine⟨F2,N,O,C,E.gs,eb,λZ Q H4 s4=>?_⟩;have B:=E.trans s4;cases O with|next=>exact⟨_,by omega,Z,C,B,rfl,u,l⟩|cont=>exact⟨_,by omega,Z,C,B,rfl,u,l⟩|brk=>cases l;exact k Z Q H4 (w.fin _ _ _ _ B).1|ret r=>cases l;intro v rr;obtain⟨z1,z2⟩:=w.fin _ _ _ _ B;exact k Z Q H4 z1 v (z2 v r (rr.later E))
 . left;have ae:ds.drop i=[]:=by rw[drop_eq_nil_iff];omega
   rw[ae,HS]at l;cases l;exact⟨s2 (by omega),k G q W (w.fin _ _ _ _ Y).1⟩
theorem mW(i:Nat):(λ(ρ:List Sl)(d:D)=>cP ρ [i] true d)=λρ d=>put ρ i (.val false d):=by funext ρ d;rfl
theorem Lj{f:Pos}(h:PassesOwn (model X.prog X.w) X.A X.env X.xe)(hc:X.calm=true)(j:X.N.Nodup)(g:X.N[i]?=some x)(k:Loc X.env.scope x)(hi:SI X c (.Name x f) iter p)(l:SB X c n body ss)(hs:∀x,foldedSetIterable iter X.env x=pure x:=by intro _;rfl)(o:X.fn x=true\/X.env.scope.names.lookup x=some .local:=by first|exact .inl rfl|exact .inr rfl|assumption):SS X c n (.For (.Name x f) iter body [] pos) (.jQ p [i] true ss):=qP h hc hi (aM j g k o) (by rw[mW];exact uB i) l hs
theorem yI(M:PassesOwn (model X.prog X.w) X.A X.env X.xe)(ht:ST X c e p)(O:SB X c n body ss):SS X c n (.While e body [] pos) (.whl p ss):=by refine dM (Hx M ht O) ?_;rintro D σ H⟨F,ρ,fl,o,g,e,k⟩;rw[HH.X14]at e;refine⟨λm j E=>∃q f,az X.K F ρ σ H q f j E/\qt (jM (HH.ev c p)) (iu c n ss) m f=.ok fl o,⟨n,F,ρ,.refl g,e⟩,?_⟩;rintro m j E⟨q,f,G,h⟩;cases m with|zero=>rw[QM]at h;cases h|succ m=>rw[IK]at h;obtain⟨b,t,Q,h⟩:=aj h;refine⟨q,f,b,t,G.gs,Q,λF1 U s1=>?_⟩;have s2:=G.trans s1;cases b with|false=>rw[if_neg Bool.false_ne_true]at h;cases h;exact k F1 j U s2|true=>rw[if_pos rfl]at h;obtain⟨u,l,W,h⟩:=aj h;refine(show ∃N:L2.St->Hp->Prop,_/\_ from⟨λy I=>∃J,J<m+1/\∃q f,az X.K F ρ σ H q f y I/\qt (jM (HH.ev c p)) (iu c n ss) J f=.ok fl o,λy I z=>z,F1,t,u,l,s2.gs,W,λC B L s4=>?_⟩);have s5:=s2.trans s4;cases u with|next=>exact⟨m,by omega,C,l,s5,h⟩|cont=>exact⟨m,by omega,C,l,s5,h⟩|brk=>cases h;exact k C B L s5|ret r=>cases h;exact λv Y=>k C B L s5 v (Y.later s2)
end
section
variable{X:Cx}{c:Call}{n:Nat}{e elt tg iter:Expr}{p ps pe:P}{pos:Pos}{scope:Scope}{N':List Str}{ifs:List Expr}
theorem Uh{t t':TE}(h:PE X e t)(i:∀σ H Q,σ.length=X.N.length->t' σ H Q->t σ H Q):PE X e t':=λa s σ H Q I q=>h a s σ H Q I (i σ H Q I.len q)
theorem Tn{st:Stmt}{t t':TS}(h:PS X st t)(i:∀D σ H,σ.length=X.N.length->t' D σ H->t D σ H):PS X st t':=λa s σ H D I q=>h a s σ H D I (i D σ H I.len q)
def nP(K:PySem.W.Frag)(m:Nat)(is:List Nat)(one:Bool)(g:TG):Prop:=∀(x:V)(d:D)(F:Hp)(ρ b:List Sl)(σ:L2.St)(H:Hp)(Q:L2.St->Hp->Prop),GS K F ρ σ H->Rep K F x d->cP ρ is one d=some b->(∀a,az K F ρ σ H F b a H->a.take m=σ.take m->Q a H)->g x σ H Q
theorem take_set{b:Type}{l:List b}{a:b}(h:m<=i):(l.set i a).take m=l.take m:=by rw[List.take_set_of_le h]
theorem dj(h:m<=i):nP K m [i] true (jy i):=λx d F ρ a σ H Q g r b k=>k _ (az.put (r:=.val d) (.refl g) r b) (take_set h)
def Kl(K:PySem.W.Frag)(m:Nat)(is:List Nat)(gs:Et):Prop:=∀(xs:List V)(ds:List D)(F:Hp)(ρ b:List Sl)(σ:L2.St)(H:Hp)(Q:L2.St->Hp->Prop),GS K F ρ σ H->aF K F xs ds->putAll ρ is ds=some b->(∀a,az K F ρ σ H F b a H->a.take m=σ.take m->Q a H)->gs xs σ H Q
theorem dF{gs:Et}(hi:m<=i)(j:Kl K m is gs):Kl K m (i::is) (Gh (jy i) gs):=by intro xs ds F ρ a σ H Q g r h k;cases ds with|nil=>simp[jz,iI,mU,m7]at h|cons d ds=>obtain⟨v,vs,rfl,h1,l⟩:=r.cM;rw[iI]at h;obtain⟨b,o,q⟩:=bV h;have s1:=az.put (r:=.val d) (.refl g) h1 o;exact⟨v,vs,rfl,j vs ds F b a _ H _ s1.gs l q λf s2 z=>k f (s1.trans s2) (z.trans (take_set hi))⟩
theorem lq:Kl K m [] QR:=by intro xs ds F ρ a σ H Q g r h k;cases ds with|nil=>rw[jz]at h;cases h;exact⟨r.fL,k σ (.refl g) rfl⟩|cons d ds=>simp[jz,iI,mU,m7]at h
theorem mH{gs:Et}{l:Nat}(o:l=is.length)(h:Kl K m is gs):nP K m is false (RJ K l gs):=by intro x d F ρ b σ H Q g r f k;cases d with|tup ds=>replace f:putAll ρ is ds=some b:=f;rw[Rep]at r;obtain⟨a,xs,rfl,h1,j⟩:=r;exact⟨a,xs,rfl,aH.iD g.sub h1,by rw[j.length,kI f,o],h xs _ F ρ b σ H Q g j f k⟩|_=>cases f
def SQ(X:Cx)(c:Call)(ifs:List Expr)(t:Option P):Prop:=V5 X ifs (HY X.K (vU c t))
theorem cI:SQ X c [] none:=λa s σ H Q I⟨F,ρ,k,ρ',g,e,q⟩=>by rw[vU]at e;cases e;exact Ml a s σ H Q I (q F H (.refl g))
theorem az.Gd{F1 j:Hp}{f:List Sl}{g:L2.St}{Da:Addr}{o:HO}(s:az K F ρ σ H F1 f g j)(h:H Da=none)(q:F1 Da=none)(ho:¬ Own f g Da):az K F ρ σ H F1 f g (upd j Da o):=by
 refine⟨⟨λb u e=>?_,s.gs.len,s.gs.val,λi t ds e k=>?_,s.gs.dis⟩,s.cW,s.ye,λb u e n=>?_,s.vV,s.len,s.lk⟩
 . have:b≠Da:=by rintro rfl;rw[q]at e;cases e
   rw[aA this];exact s.gs.sub b u e
 . obtain⟨a,xs,l,r,w,y⟩:=s.gs.own i t ds e k;have:a≠Da:=by rintro rfl;exact ho ⟨i,⟨t,ds,e,k⟩,l⟩
   exact⟨a,xs,l,by rw[aA this];exact r,w,y⟩
 . have:b≠Da:=by rintro rfl;rw[h]at e;cases e
   rw[aA this];exact s.keep b u e n
theorem JF{b r:List Sl}{ul:List Sl->List Sl}{ti:TI}{one:Bool}{u:List Sl->Res Bool}{el:Ev}{g:TG}{Q:VK}{xs:List D}(hm:σ.length=m)(ah:nP K m is one g)(ai:∀R:It->Hp->Prop,(∀J F1 W,Walk K F ρ σ H ul J ds F1 b W->R J W)->ti σ H R)(ap:ds.length<=lim)(e2:turns is one u el ds [] (b++replicate n .aW)=.ok xs r)(k:∀v F' H',az K F ρ σ H F' (ul (r.take b.length)) σ H'->cR K F' (ul (r.take b.length)) σ H' ρ σ H v (.own xs)->Q v H'):sV n ti g (HY K u) (Bv K el) σ H Q:=by
 refine ai _ λJ F1 W w Da O=>?_;have al:b.length=σ.length:=w.gs.len;have gm:=w.gs.more (n:=n) (τ:=replicate n none) (by simp);have fD:F1 Da=none:=by cases q:F1 Da with|none=>rfl|some o=>rw[w.gs.sub Da o q]at O;cases O
 have nO:¬ Own (b++replicate n .aW) (σ++replicate n none) Da:=λ⟨i,⟨t,dt,q1,q2⟩,q3⟩=>by obtain⟨a,ys,z1,z2,_⟩:=gm.own i t dt q1 q2;rw[q3]at z1;cases z1;rw[O]at z2;cases z2
 refine⟨λi mm ys f G=>∃E h l,az K F1 (b++replicate n .aW) (σ++replicate n none) W E h f G/\f.take m=σ/\G Da=some (.lst ys)/\E Da=none/\¬ Own h f Da/\aF K E ys l/\l.length<=i/\mm=ds.length-i/\i<=ds.length/\turns is one u el (ds.drop i) l h=.ok xs r,⟨_,F1,_,[],(az.refl gm).Gd O fD nO,by rw[List.take_append_of_le_length (by omega),List.take_of_length_le (by omega)],aJ,fD,nO,.nil,n8,rfl,n8,e2⟩,?_⟩;rintro i mm ys f G⟨E,h,l,Y,I,Z,hF,hO,rs,ar,rfl,av,j⟩;refine⟨Z,?_⟩--what stays of the new list through a step
 have stay:∀{L U:Hp}{M:List Sl}{B:L2.St},az K E h f G L M B U->U Da=some (.lst ys)/\L Da=none/\¬ Own M B Da:=λ{L U M B}s=>by
  refine⟨s.keep Da _ Z hO,?_,λo=>?_⟩;.cases q:L Da with|none=>rfl|some o=>
      rcases s.ye Da hF (by rw[q];simp)with z|z;.exact absurd z hO
      .exact(Ik Z z).elim
  . rcases s.vV Da o with z|z;.exact hO z
    .rw[Z]at z;cases z
 obtain⟨s1,s2⟩:=w.src n i E h f G Y;by_cases C:i<ds.length
 . right;have hd:ds[i]?=some ds[i]:=by simp[C]
   obtain⟨go,step⟩:=s1 _ hd;refine⟨go,λx U y=>?_⟩;obtain⟨L,ext,rx⟩:=step x U y;have t2:=ext.stp Y.gs;rw[drop_eq_getElem_cons C,Fo]at j;cases hbd:cP h is one ds[i]with|none=>rw[hbd]at j;cases j|some ac=>rw[hbd]at j;obtain⟨bb,N,eb,j⟩:=aj j;refine ah x _ L h ac f U _ t2.gs rx hbd λB sb ae=>?_;have t3:=t2.trans sb;refine⟨L,ac,bb,N,t3.gs,eb,λF4 H4 s4=>?_⟩;have t4:=t3.trans s4;cases bb with|false=>rw[if_neg Bool.false_ne_true]at j;obtain⟨y1,y2,y3⟩:=stay t4;exact⟨_,by omega,F4,N,l,Y.trans t4,ae.trans I,y1,y2,y3,rs.mono t4.cW,by omega,rfl,C,j⟩|true=>
       rw[if_pos rfl]at j;obtain⟨re,af,ee,j⟩:=aj j;refine(show Bv K el B H4 _ from⟨F4,N,re,af,t4.gs,ee,λv F5 H5 s5 rr=>?_⟩);obtain⟨F6,s6,_,rp⟩:=s5.dh rr;have t6:=t4.trans s6;obtain⟨y1,y2,y3⟩:=stay t6;have ag:ys.length<sizeLine:=by have h1:=rs.length;have h2:lim=sizeLine:=rfl;omega
       exact⟨y1,ag,_,by omega,F6,af,l++[re.d],(Y.trans t6).Gd O y2 y3,ae.trans I,aJ,y2,y3,(rs.mono t6.cW).append (.cons rp .nil),by simp;omega,rfl,C,j⟩
 . left;have am:ds.drop i=[]:=by rw[drop_eq_nil_iff];omega
   rw[am,Gi]at j;cases j;refine⟨s2 (by omega),?_⟩;obtain⟨l1,l2⟩:=az.less (m:=b.length) rfl w.gs (by simp) Y;have hst:f.take b.length=σ:=by rw[al,hm];exact I
   rw[hst]at l1;have rr:cR K E r f G (b++replicate n .aW) (σ++replicate n none) W (.ref Da) (.own xs):=⟨Da,ys,rfl,Z,hF,rs,hO,.inr O⟩;have Qc:=l2 _ _ rr;rw[hst]at Qc;obtain⟨z1,z2⟩:=w.fin _ _ _ _ l1;exact k _ E G z1 (z2 _ _ Qc)
theorem Bu{iv:Option Nat}{f:Ev}{one:Bool}{b:List Sl->Res Bool}{w:Ev}{g:TG}{Q:VK}{r:R}{j:List Sl}(z:σ.length=m)(q:nP K m is one g)(B:GS K F ρ σ H)(e:((srcOf iv f ρ).bind λds a=>if ds.length<=lim then(turns is one b w ds [] (a++replicate n .aW)).bind λxs l=>Res.ok (R.own xs) (bj ρ iv (l.take a.length))else .stuck)=.ok r j)(k:∀v y t,az K F ρ σ H y j σ t->cR K y j σ t ρ σ H v r->Q v t):sV n (tIt K iv f) g (HY K b) (Bv K w) σ H Q:=by
 obtain⟨ds,u,C,e⟩:=aj e;split at e;.rename_i o;obtain⟨xs,E,G,e⟩:=aj e;cases e;exact JF z q (λR h=>⟨F,ρ,ds,u,B,C,h⟩) o G k
 .cases e
theorem dI{g:TG}{one:Bool}{t:Option P}(hc:X.calm=true)(ok:fK X scope N' n)(hi:SI X c tg iter ps)(b:∀cl C s₀ H₀ ex,PG (sy X scope N' cl C s₀ H₀ ex) tg g)(a:nP X.K X.N.length is one g)(ht:∀cl C s₀ H₀ ex,SQ (sy X scope N' cl C s₀ H₀ ex) c ifs t)(he:∀cl C s₀ H₀ ex,SX (sy X scope N' cl C s₀ H₀ ex) c elt pe)(hs:∀x,foldedSetIterable iter X.env x=pure x:=by intro _;rfl):SX X c (.ListComp elt [⟨tg,iter,ifs,0⟩] scope pos) (.comp ps n is one t pe):=by refine⟨Uh (Ld (tt:=HY X.K (vU c t)) (te:=Bv X.K (HH.ev c pe)) hc ok hi b ht (λcl C s₀ H₀ ex=>(he cl C s₀ H₀ ex).ev) hs) ?_,λi h=>by cases h⟩;rintro σ H Q f⟨F,ρ,r,j,l,e,k⟩;rw[HH.E18]at e;exact Bu f a l e k
theorem vf{a b:Pos}{nn:Nat}{g:TG}{one:Bool}{t:Option P}(hc:X.calm=true)(q:X.N.Nodup)(h:X.N[i]?=some x)(u:Loc X.env.scope x)(ok:fK X scope N' n)(hi:SI X c tg iter ps)(w:∀cl C s₀ H₀ ex,PG (sy X scope N' cl C s₀ H₀ ex) tg g)(j:nP X.K X.N.length is one g)(ht:∀cl C s₀ H₀ ex,SQ (sy X scope N' cl C s₀ H₀ ex) c ifs t)(he:∀cl C s₀ H₀ ex,SX (sy X scope N' cl C s₀ H₀ ex) c elt pe)(l:swapsWith (.ListComp elt [⟨tg,iter,ifs,0⟩] scope pos) (some (.Name x a)) b.line X.env=pure true:=by rfl)(hs:∀x,foldedSetIterable iter X.env x=pure x:=by intro _;rfl)(y:X.fn x=true\/X.env.scope.names.lookup x=some .local:=by first|exact .inl rfl|exact .inr rfl|assumption):SS X c nn (.Assign [.Name x a] (.ListComp elt [⟨tg,iter,ifs,0⟩] scope pos) b) (.asg i (.comp ps n is one t pe)):=by refine Tn (Al (tt:=HY X.K (vU c t)) (te:=Bv X.K (HH.ev c pe)) hc q h u ok hi w ht (λcl C s₀ H₀ ex=>(he cl C s₀ H₀ ex).ev) l hs y) ?_;rintro D σ H z⟨F,ρ,fl,B,E,e,k⟩;rw[HH.X6]at e;obtain⟨r,G,o,e⟩:=aj e;obtain⟨I,J,f,e⟩:=aj e;cases e;have L:=aC f;clear f;obtain⟨f,Q⟩:=L;rw[HH.E18]at o;exact Bu z j E o λv F1 M s1 O=>k F1 _ M (s1.put O f)
end
section
variable{X:Cx}{c:Call}{n:Nat}{e a b d:Expr}{p pa pb pd:P}{pos:Pos}{es:List Expr}{ps:List P}
inductive rBn(K:PySem.W.Frag)(f:List D->Option R)(xs:List V)(H:Hp)(Q:VK):Prop where|mk(F:Hp)(ds:List D)(r:R)(sm:aH F H)(rs:aF K F xs ds)(he:f ds=some r)(k:∀v F' H',Ext F H F' H'->bY K F' H' H v r->Q v H')
theorem Oq{E:Expr}{f:List D->Option R}{q:P}(o:∀{t},PA X es t->PE X E (WW (rBn X.K f) t))(u:SA X c es ps)(y:∀ρ,HH.ev c q ρ=(evs c ps ρ).bind λds ρ=>lift (f ds) ρ)(z:isVar q=none):SX X c E q:=by refine⟨fu (o u.1) ?_,λi h=>by rw[z]at h;cases h⟩;rintro σ H Q⟨F,ρ,r,B,g,e,k⟩;rw[y]at e;obtain⟨ds,l,C,j⟩:=aj e;have G:=aC j;clear j;obtain⟨j,I⟩:=G;subst I;exact⟨F,ρ,ds,l,g,C,λvs J O s rs=>⟨J,ds,r,s.gs.sub,rs,j,λw L M x N=>k w L M (s.trans (x.stp s.gs)) (.later s (N.mC s.gs))⟩⟩
theorem Py{xs:List V}{i j:Int}(h:aF K F xs [.int i,.int j]):xs=[.int i,.int j]:=by obtain⟨v,r,rfl,h1,g⟩:=h.cM;obtain⟨u,l,rfl,f,k⟩:=g.cM;rw[Rep]at h1 f;rw[h1,f,k.fL]
theorem inv2{f:WM}{g:Int->Int->Int}{r:R}(h0:blt f []=none)(h1:∀a,blt f [a]=none)(o:∀a b c l,blt f (a::b::c::l)=none)(q:∀a b,gC a=false->blt f [a,b]=none)(t:∀i b,gC b=false->blt f [.int i,b]=none)(hi:∀i j,blt f [.int i,.int j]=some (.val (.int (g i j))))(he:blt f ds=some r):∃i j,ds=[.int i,.int j]/\r=.val (.int (g i j)):=by
 rcases ds with _|⟨a,_|⟨b,_|⟨c,l⟩⟩⟩;.rw[h0]at he;cases he
 .rw[h1]at he;cases he
 . by_cases h:gC a=true
   . obtain⟨i,rfl⟩:∃i,a=.int i:=by cases a<;>first|exact⟨_,rfl⟩|cases h
     by_cases k:gC b=true
     . obtain⟨j,rfl⟩:∃j,b=.int j:=by cases b<;>first|exact⟨_,rfl⟩|cases k
       rw[hi]at he;cases he;exact⟨i,j,rfl,rfl⟩
     .rw[t i b (by simpa using k)]at he;cases he
   .rw[q a b (by simpa using h)]at he;cases he
 .rw[o]at he;cases he
theorem S6(hc:X.calm=true):fG X (.builtin "min") (rBn X.K (blt .min2)):=by rintro f s σ H xs us Q I r⟨F,ds,o,sm,rs,he,k⟩;obtain⟨i,j,rfl,rfl⟩:=inv2 (g:=λi j=>if j<i then j else i) rfl (λa=>by cases a<;>rfl) (λa b c l=>by cases a<;>first|rfl|(cases b<;>rfl)) (λa b h=>by cases a<;>first|rfl|cases h) (λi b h=>by cases b<;>first|rfl|cases h) (λ_ _=>rfl) he;rw[Py rs]at r;exact DX hc f s σ H _ us Q I r ⟨_,_,rfl,bY.cV sm (bN _) k⟩
theorem QX(hc:X.calm=true):fG X (.builtin "max") (rBn X.K (blt .max2)):=by rintro f s σ H xs us Q I r⟨F,ds,o,sm,rs,he,k⟩;obtain⟨i,j,rfl,rfl⟩:=inv2 (g:=λi j=>if i<j then j else i) rfl (λa=>by cases a<;>rfl) (λa b c l=>by cases a<;>first|rfl|(cases b<;>rfl)) (λa b h=>by cases a<;>first|rfl|cases h) (λi b h=>by cases b<;>first|rfl|cases h) (λ_ _=>rfl) he;rw[Py rs]at r;exact Dk hc f s σ H _ us Q I r ⟨_,_,rfl,bY.cV sm (bN _) k⟩
theorem boot_min:bootBuiltins "min"=some (.builtin "min"):=by decide+kernel
theorem boot_max:bootBuiltins "max"=some (.builtin "max"):=by decide+kernel
theorem uE(f:x="min")(hc:X.calm=true)(g:Gl X x)(j:X.mg x=none)(k:SA X c [a,b] [pa,pb])(hs:starEach [a,b] X.env=(false,eval a X.env)::starEach [b] X.env:=by rfl)(hpl:(backTo pos (starEach [b] X.env)).any (·.1)=false:=by rfl):SX X c (.Call (.Name x p') [a,b] [] pos) (.blt .min2 [pa,pb]):=by subst f;exact Oq (λh=>gb (S6 hc) g j boot_min h (he:=hs) (hpl:=hpl)) k (λρ=>rfl) rfl
theorem vH(f:x="max")(hc:X.calm=true)(g:Gl X x)(j:X.mg x=none)(k:SA X c [a,b] [pa,pb])(hs:starEach [a,b] X.env=(false,eval a X.env)::starEach [b] X.env:=by rfl)(hpl:(backTo pos (starEach [b] X.env)).any (·.1)=false:=by rfl):SX X c (.Call (.Name x p') [a,b] [] pos) (.blt .max2 [pa,pb]):=by subst f;exact Oq (λh=>gb (QX hc) g j boot_max h (he:=hs) (hpl:=hpl)) k (λρ=>rfl) rfl
end
section
variable{X:Cx}{c:Call}{n:Nat}{e a b d:Expr}{p pa pb pd:P}{pos:Pos}{es:List Expr}{ps:List P}
theorem vh(g:GS K F ρ σ H)(h:BW ρ i=some ds):∃a xs,σ[i]?=some (some (V.ref a))/\fP K H a xs:=by
 unfold BW at h;split at h;.rename_i q;cases h;obtain⟨v,h1,f⟩:=g.pk q;obtain⟨a,xs,rfl,j,_⟩:=f.lst g.sub;exact⟨a,xs,h1,j⟩
 .cases h
theorem pB{k:Nat}{h f:Pos}(I:X.N[k]?=some x)(J:vQ X.env.scope x)(hi:SX X c b pb)(he:SX X c e p)(L:∀ v,assign (.Subscript (.Name x h) b f) X.env v=(do
  let l<-holding [v] (eval (.Name x h) X.env)let iv<-holding [v,l] (eval b X.env)standAt f
  holding [v,l,iv] (setItem l iv v)release [v,l,iv] []):=by intro _;rfl)(hs:swapsWithSole [.Subscript (.Name x h) b f] e pos.line X.env=pure false:=by rfl)(M:swappedStores [.Subscript (.Name x h) b f] e X.env=pure none:=by rfl)(h1:(assignEach [.Subscript (.Name x h) b f] X.env).map (·.2)=[assign (.Subscript (.Name x h) b f) X.env]:=by rfl)(hd:(x==("__debug__":Str))=false:=by decide)(u:(x==("__classdict__":Str))=false:=by decide):SS X c n (.Assign [.Subscript (.Name x h) b f] e pos) (.zV k pb p):=by
 obtain⟨ti,w,y⟩:=hi.cH;refine dM (Qq he.ev (Ue (eX I J hd u) w set_list L) hs M h1) ?_;rintro D σ H⟨F,ρ,fl,O,g,e,Q⟩;rw[HH.X8]at e;obtain⟨r,z,U,e⟩:=aj e;obtain⟨x0,C,t,e⟩:=aj e;have W:=aC t;clear t;obtain⟨t,Y⟩:=W;subst Y;obtain⟨dk,Z,e2,e⟩:=aj e;refine⟨F,ρ,r,z,g,U,λv F1 H1 s1 rr=>?_⟩;obtain⟨F2,s2,_,rp⟩:=s1.dh rr;obtain⟨o,ho,_⟩:=s2.gs.pk t;refine⟨o,ho,y s2.gs e2 λvi F3 H3 s3 pi=>?_⟩;split at e
 . rename_i bb ds B q;split at e;.rename_i j hj;cases e;obtain⟨ad,xs,E,q2,q3,G⟩:=s3.gs.qi k _ ds q rfl;rw[ho]at E;cases E;refine⟨ad,xs,B,j,rfl,pi.int,q2,by rw[G.length];exact hj,?_⟩;exact Q F3 σ _ ((s2.trans s3).trans (s3.gs.mut q ho (G.set (rp.mono s3.cW) j)))
   .cases e
 .cases e
theorem fB{k:Nat}{o h f:Pos}(G:X.N[k]?=some x)(I:vQ X.env.scope x)(he:SX X c e p)(j:(h.endLine==f.line)=true:=by rfl)(hs:starEach [e] X.env=(false,eval e X.env)::starEach [] X.env:=by rfl)(l:attributeBase (.Name x o) "append" X.env (eval (.Name x o) X.env)=eval (.Name x o) X.env:=by rfl)(t:((backTo f (starEach [e] X.env)).all (λx=>!x.1)&&(backToKw f (keywordEach [] X.env)).all (λx=>x.1.isSome)&&decide ([e].length+([]:List Keyword).length+(if([]:List Keyword).isEmpty then 0 else 1)<30))=true:=by rfl)(w:swapsWith (.Call (.Attribute (.Name x o) "append" h) [e] [] f) none pos.line X.env=pure false:=by rfl)(hd:(x==("__debug__":Str))=false:=by decide)(y:(x==("__classdict__":Str))=false:=by decide):SS X c n (.Expr (.Call (.Attribute (.Name x o) "append" h) [e] [] f) pos) (.app k p):=by
 refine dM (vg (Jr plainAttrs_list PySem.F.slot_list_append PySem.F.type_list_append mZ (eX G I hd y) (cu he.ev dY hs) l t j hs) w) ?_;rintro D σ H⟨F,ρ,fl,J,g,e,L⟩;rw[HH.X9]at e;obtain⟨d0,M,u,e⟩:=aj e;have O:=aC u;clear u;obtain⟨u,Q⟩:=O;subst Q;obtain⟨r,z,U,e⟩:=aj e;obtain⟨a,xs,h1,W⟩:=vh g u;refine⟨.ref a,h1,.inl ⟨rfl,xs,W⟩,F,ρ,r,z,g,U,λv F1 H1 s1 Y=>?_⟩;obtain⟨Z,s2,_,rp⟩:=s1.dh Y;split at e
 . rename_i bb ds q;split at e;.rename_i B;cases e;obtain⟨ad,ys,C,q2,q3,E⟩:=s2.gs.qi k _ ds q rfl;rw[h1]at C;cases C;exact⟨_,ys,v,rfl,rfl,q2,by rw[E.length];exact B,L Z σ _ (s2.trans (s2.gs.mut q h1 (E.append (.cons rp .nil))))⟩
   .cases e
 .cases e
theorem Qt{j:Nat}{y:Str}{l o pt:Pos}{kt k2 Us}(hc:X.calm=true)(C:X.N.Nodup)(hi:X.N[i]?=some x)(E:X.N[j]?=some y)(q:i≠j)(G:X.env.scope.names.lookup x=some .local)(I:X.env.scope.names.lookup y=some .local)(J:SX X c a pa)(L:SX X c b pb)(M:swappedStores [.Tuple [.Name x l,.Name y o] kt pt] (.Tuple [a,b] k2 Us) X.env=pure (some [x,y]):=by rfl)(hs:swapsWithSole [.Tuple [.Name x l,.Name y o] kt pt] (.Tuple [a,b] k2 Us) pos.line X.env=pure false:=by rfl)(h1:starEach [a,b] X.env=(false,eval a X.env)::starEach [b] X.env:=by rfl)(O:starEach [b] X.env=(false,eval b X.env)::starEach [] X.env:=by rfl):SS X c n (.Assign [.Tuple [.Name x l,.Name y o] kt pt] (.Tuple [a,b] k2 Us) pos) (.par i j pa pb):=by refine dM (L2.Qz hc C hi E q G I (cu J.ev (cu L.ev dY O) h1) M hs) ?_;rintro D σ H⟨F,ρ,fl,Q,g,e,k⟩;rw[HH.X7]at e;obtain⟨r,f,U,e⟩:=aj e;obtain⟨B,t,W,e⟩:=aj e;obtain⟨Y,Z,h,e⟩:=aj e;cases e;have zz:=aC h;clear h;obtain⟨h,e4⟩:=zz;obtain⟨ac,e5,e6⟩:=bV h;refine⟨F,ρ,r,f,g,U,λv F1 H1 s1 rr=>?_⟩;obtain⟨F2,s2,_,rp⟩:=s1.dh rr;refine⟨F2,f,B,t,s2.gs,W,λu F3 H3 s3 w=>?_⟩;obtain⟨F4,s4,_,z⟩:=s3.dh w;refine⟨v,u,rfl,?_⟩;have t4:=s2.trans s4;have t5:=t4.put (r:=.val r.d) (v:=v) (rp.mono s4.cW) e5;exact k F4 _ H3 (t5.put (r:=.val B.d) (v:=u) z e6)
end
section
variable{K:PySem.W.Frag}
theorem jk:∀{xs ys:List D},xs.length≠ys.length->jb xs ys=false|[],[],h=>absurd rfl h|[],_::_,_=>by simp[kE,iH,qL,ql]|_::_,[],_=>by simp[kE,iH,qL,ql]|x::xs,y::ys,h=>by rw[iH,jk (xs:=xs) (ys:=ys) (by simpa using h),Bool.and_false]
theorem gn:∀{xs ys:List D},xs.length=ys.length->jb xs ys=(List.range xs.length).all λj=>jg (xs.getD j .non) (ys.getD j .non)|[],[],_=>by rw[kE];rfl|[],_::_,h=>by simp at h|_::_,[],h=>by simp at h|x::xs,y::ys,h=>by rw[iH,gn (xs:=xs) (ys:=ys) (by simpa using h),length_cons,List.range_succ_eq_map,all_cons,List.all_map];rfl
mutual
theorem xW:∀d:D,jg d d=true|.non=>rfl|.bl _=>by exact beq_self_eq_true _|.int _=>by exact beq_self_eq_true _|.str _=>by exact beq_self_eq_true _|.tup ds=>by exact jK ds|.lst ds=>by exact jK ds|.dq _=>by exact decide_eq_true rfl|.dv ks ds=>by show(decide (ks=ks)&&jb ds ds)=true;rw[jK ds];simp
theorem jK:∀ds:List D,jb ds ds=true|[]=>by rw[kE]|d::ds=>by rw[iH,xW d,jK ds];rfl
end
theorem fC{d e:D}(b:flat d=true)(h1:Rep K F v d)(a:Rep K F v e):d=e:=by cases d with
 |tup _=>cases b|lst _=>cases b|dq _=>cases b|dv _ _=>cases b|non=>rw[Rep]at h1;subst h1;cases e with|non=>rfl|tup _=>rw[Rep]at a;obtain⟨_,_,q,_⟩:=a;cases q|lst _=>rw[Rep]at a;obtain⟨_,_,q,_⟩:=a;cases q|dq _=>rw[Rep]at a;obtain⟨_,_,q,_⟩:=a;cases q|dv _ _=>rw[Rep]at a;obtain⟨_,_,_,q,_⟩:=a;cases q|_=>rw[Rep]at a;cases a
 |bl k=>rw[Rep]at h1;subst h1;cases e with|bl _=>rw[Rep]at a;cases a;rfl|tup _=>rw[Rep]at a;obtain⟨_,_,q,_⟩:=a;cases q|lst _=>rw[Rep]at a;obtain⟨_,_,q,_⟩:=a;cases q|dq _=>rw[Rep]at a;obtain⟨_,_,q,_⟩:=a;cases q|dv _ _=>rw[Rep]at a;obtain⟨_,_,_,q,_⟩:=a;cases q|_=>rw[Rep]at a;cases a
 |int k=>rw[Rep]at h1;subst h1;cases e with|int _=>rw[Rep]at a;cases a;rfl|tup _=>rw[Rep]at a;obtain⟨_,_,q,_⟩:=a;cases q|lst _=>rw[Rep]at a;obtain⟨_,_,q,_⟩:=a;cases q|dq _=>rw[Rep]at a;obtain⟨_,_,q,_⟩:=a;cases q|dv _ _=>rw[Rep]at a;obtain⟨_,_,_,q,_⟩:=a;cases q|_=>rw[Rep]at a;cases a
 |str k=>rw[Rep]at h1;subst h1;cases e with|str _=>rw[Rep]at a;cases a;rfl|tup _=>rw[Rep]at a;obtain⟨_,_,q,_⟩:=a;cases q|lst _=>rw[Rep]at a;obtain⟨_,_,q,_⟩:=a;cases q|dq _=>rw[Rep]at a;obtain⟨_,_,q,_⟩:=a;cases q|dv _ _=>rw[Rep]at a;obtain⟨_,_,_,q,_⟩:=a;cases q|_=>rw[Rep]at a;cases a
theorem M9{X:Cx}{u:List (Addr×Obj)}(I:L2.Inv X u σ H s)(sm:aH F H):∀n:Nat,(∀d:D,gP n d=true->∀(v:V)(e:D),Rep X.K F v d->Rep X.K F v e->d=e):=by
 have N:∀{a:Addr}{xs ys:List V},jO X.K F a xs->fP X.K F a ys->False:=λ{a xs ys}h1 b=>by obtain⟨_,_,⟨o,g,j,_⟩,_⟩:=I.tuple (aH.iD sm h1);obtain⟨_,_,w,_⟩:=I.list (sm.seq b);obtain⟨C,c,f,_⟩:=w.isList;rw[g]at c;cases c;rw[j]at f;exact absurd f (by decide)
 have O:∀{a:Addr}{kvs:Dc},Rep X.K F (.ref a) (.dq kvs)->∃o,s.heap.get? a=some o/\o.cls=.type "dict":=λ{a kvs}h=>by rw[Rep]at h;obtain⟨y,_,q,E⟩:=h;cases q;exact RM I (sm _ _ E)
 have Q:∀{a:Addr}{xs:List V}{kvs:Dc},jO X.K F a xs->Rep X.K F (.ref a) (.dq kvs)->False:=λ{a xs kvs}h1 b=>by obtain⟨_,_,⟨o,g,j,_⟩,_⟩:=I.tuple (aH.iD sm h1);obtain⟨C,c,f⟩:=O b;rw[g]at c;cases c;rw[j]at f;exact absurd f (by decide)
 have ld:∀{a:Addr}{xs:List V}{kvs:Dc},fP X.K F a xs->Rep X.K F (.ref a) (.dq kvs)->False:=λ{a xs kvs}h1 b=>by obtain⟨_,_,w,_⟩:=I.list (sm.seq h1);obtain⟨o,g,j,_⟩:=w.isList;obtain⟨C,c,f⟩:=O b;rw[g]at c;cases c;rw[j]at f;exact absurd f (by decide)
 have z:∀{a:Addr}{ks:List Int}{es:List D},Rep X.K F (.ref a) (.dv ks es)->∃o,s.heap.get? a=some o/\o.cls=.type "dict":=λ{a ks es}h=>by rw[Rep]at h;obtain⟨y,_,_,q,E,_⟩:=h;cases q;exact Ua I (sm _ _ E)
 have G:∀{a:Addr}{xs:List V}{ks:List Int}{es:List D},jO X.K F a xs->Rep X.K F (.ref a) (.dv ks es)->False:=λ{a xs ks es}h1 b=>by obtain⟨_,_,⟨o,g,j,_⟩,_⟩:=I.tuple (aH.iD sm h1);obtain⟨C,c,f⟩:=z b;rw[g]at c;cases c;rw[j]at f;exact absurd f (by decide)
 have J:∀{a:Addr}{xs:List V}{ks:List Int}{es:List D},fP X.K F a xs->Rep X.K F (.ref a) (.dv ks es)->False:=λ{a xs ks es}h1 b=>by obtain⟨_,_,w,_⟩:=I.list (sm.seq h1);obtain⟨o,g,j,_⟩:=w.isList;obtain⟨C,c,f⟩:=z b;rw[g]at c;cases c;rw[j]at f;exact absurd f (by decide)
 intro n;induction n with
 |zero=>intro d hd v e h1 b;cases d with|tup _=>simp[bI,bC,bF,bG,bK,bJ]at hd|lst _=>simp[bI,bC,bF,bG,bK,bJ]at hd|dq _=>simp[bI,bC,bF,bG,bK,bJ]at hd|dv _ _=>simp[bI,bC,bF,bG,bK,bJ]at hd|non=>exact fC rfl h1 b|bl k=>exact fC rfl h1 b|int k=>exact fC rfl h1 b|str k=>exact fC rfl h1 b
 |succ n U=>
   have all:∀{xs:List V}{ds es:List D},ds.all (gP n)=true->aF X.K F xs ds->aF X.K F xs es->ds=es:=λ{xs ds}=>by induction ds generalizing xs with|nil=>intro es _ h1 b;rw[h1.fL]at b;have:=b.length;exact(List.eq_nil_of_length_eq_zero this.symm).symm|cons d ds L=>intro es p h1 b;rw[all_cons,and_eq_true]at p;obtain⟨v,r,rfl,g,j⟩:=h1.cM;cases es with|nil=>cases b.fL|cons e es=>obtain⟨Y,Z,W,c,f⟩:=b.cM;cases W;rw[U d p.1 v e g c,L p.2 j f]
   intro d hd v e h1 b;cases d with
   |dq _=>simp[bI,bC,bF,bG,bK,bJ]at hd|dv _ _=>simp[bI,bC,bF,bG,bK,bJ]at hd|tup ds=>
     have p:ds.all (gP n)=true:=by simpa[bI,bC,bF,bG,bK,bJ]using hd
     rw[Rep]at h1;obtain⟨a,xs,rfl,l,M⟩:=h1;cases e with|tup es=>rw[Rep]at b;obtain⟨y,ys,q,t,B⟩:=b;cases q;have:=I.tG (aH.iD sm l) (aH.iD sm t);subst this;rw[all p M B]|lst es=>rw[Rep]at b;obtain⟨y,ys,q,t,B⟩:=b;cases q;exact(N l t).elim|dq _=>exact(Q l b).elim|dv _ _=>exact(G l b).elim|_=>rw[Rep]at b;cases b
   |lst ds=>
     have p:ds.all (gP n)=true:=by simpa[bI,bC,bF,bG,bK,bJ]using hd
     rw[Rep]at h1;obtain⟨a,xs,rfl,l,M⟩:=h1;cases e with|lst es=>rw[Rep]at b;obtain⟨y,ys,q,t,B⟩:=b;cases q;have:=I.wQ (sm.seq l) (sm.seq t);subst this;rw[all p M B]|tup es=>rw[Rep]at b;obtain⟨y,ys,q,t,B⟩:=b;cases q;exact(N t l).elim|dq _=>exact(ld l b).elim|dv _ _=>exact(J l b).elim|_=>rw[Rep]at b;cases b
   |non=>exact fC rfl h1 b|bl k=>exact fC rfl h1 b|int k=>exact fC rfl h1 b|str k=>exact fC rfl h1 b
theorem BV{d e:D}{u:V}{c:Value}(hd:flat d=true)(he:flat e=true)(h1:Rep K F v d)(a:Rep K F u e)(r1:RelV v c)(b:RelV u u'):SeqAt.EqAt A s c u' (jg d e):=by cases d with
 |tup _=>cases hd|lst _=>cases hd|dq _=>cases hd|dv _ _=>cases hd|non=>rw[Rep]at h1;subst h1;cases(show c=.none from r1);cases e with|tup _=>cases he|lst _=>cases he|dq _=>cases he|dv _ _=>cases he|non=>rw[Rep]at a;subst a;cases(show u'=.none from b);exact SeqAt.EqAt.same _|bl _=>rw[Rep]at a;subst a;cases(show u'=.bool _ from b);exact none_bool _|int _=>rw[Rep]at a;subst a;obtain⟨t,rfl⟩:=b;exact none_int _ _|str _=>rw[Rep]at a;subst a;obtain⟨t,rfl⟩:=b;exact none_str _ _
 |bl _=>rw[Rep]at h1;subst h1;cases(show c=.bool _ from r1);cases e with|tup _=>cases he|lst _=>cases he|dq _=>cases he|dv _ _=>cases he|non=>rw[Rep]at a;subst a;cases(show u'=.none from b);exact bool_none _|bl _=>rw[Rep]at a;subst a;cases(show u'=.bool _ from b);exact bool_bool _ _|int _=>rw[Rep]at a;subst a;obtain⟨t,rfl⟩:=b;exact bool_int _ _ _|str _=>rw[Rep]at a;subst a;obtain⟨t,rfl⟩:=b;exact bool_str _ _ _
 |int _=>rw[Rep]at h1;subst h1;obtain⟨t0,rfl⟩:=r1;cases e with|tup _=>cases he|lst _=>cases he|dq _=>cases he|dv _ _=>cases he|non=>rw[Rep]at a;subst a;cases(show u'=.none from b);exact int_none _ _|bl _=>rw[Rep]at a;subst a;cases(show u'=.bool _ from b);exact int_bool _ _ _|int _=>rw[Rep]at a;subst a;obtain⟨t,rfl⟩:=b;exact int_int _ _ _ _|str _=>rw[Rep]at a;subst a;obtain⟨t,rfl⟩:=b;exact int_str _ _ _ _
 |str _=>rw[Rep]at h1;subst h1;obtain⟨t0,rfl⟩:=r1;cases e with|tup _=>cases he|lst _=>cases he|dq _=>cases he|dv _ _=>cases he|non=>rw[Rep]at a;subst a;cases(show u'=.none from b);exact str_none _ _|bl _=>rw[Rep]at a;subst a;cases(show u'=.bool _ from b);exact str_bool _ _ _|int _=>rw[Rep]at a;subst a;obtain⟨t,rfl⟩:=b;exact str_int _ _ _ _|str _=>rw[Rep]at a;subst a;obtain⟨t,rfl⟩:=b;exact str_str _ _ _ _
theorem lQ{e:D}{u:V}{a:Addr}{g:Array Value}(ht:s.heap.IsTuple a g)(b:A.units<cLine)(he:flat e=true)(c:Rep K F u e)(f:RelV u u'):SeqAt.EqAt A s (.ref a) u' (jg (.tup ds) e)/\SeqAt.EqAt A s u' (.ref a) (jg e (.tup ds)):=by cases e with|tup _=>cases he|lst _=>cases he|dq _=>cases he|dv _ _=>cases he|non=>rw[Rep]at c;subst c;cases(show u'=.none from f);exact⟨SeqAt.EqAt.tuple_none ht b,SeqAt.EqAt.none_tuple ht b⟩|bl _=>rw[Rep]at c;subst c;cases(show u'=.bool _ from f);exact⟨SeqAt.EqAt.tuple_bool _ ht b,SeqAt.EqAt.bool_tuple _ ht b⟩|int _=>rw[Rep]at c;subst c;obtain⟨t,rfl⟩:=f;exact⟨SeqAt.EqAt.tuple_int _ _ ht b,SeqAt.EqAt.int_tuple _ _ ht b⟩|str _=>rw[Rep]at c;subst c;obtain⟨t,rfl⟩:=f;exact⟨SeqAt.EqAt.tuple_str _ _ ht b,SeqAt.EqAt.str_tuple _ _ ht b⟩
theorem mj{e:D}{u:V}{a:Addr}{g:Array Value}(ht:s.heap.IsList a g)(b:A.units<cLine)(he:flat e=true)(c:Rep K F u e)(f:RelV u u'):SeqAt.EqAt A s (.ref a) u' (jg (.lst ds) e)/\SeqAt.EqAt A s u' (.ref a) (jg e (.lst ds)):=by cases e with|tup _=>cases he|lst _=>cases he|dq _=>cases he|dv _ _=>cases he|non=>rw[Rep]at c;subst c;cases(show u'=.none from f);exact⟨SeqAt.EqAt.list_none ht b,SeqAt.EqAt.none_list ht b⟩|bl _=>rw[Rep]at c;subst c;cases(show u'=.bool _ from f);exact⟨SeqAt.EqAt.list_bool _ ht b,SeqAt.EqAt.bool_list _ ht b⟩|int _=>rw[Rep]at c;subst c;obtain⟨t,rfl⟩:=f;exact⟨SeqAt.EqAt.list_int _ _ ht b,SeqAt.EqAt.int_list _ _ ht b⟩|str _=>rw[Rep]at c;subst c;obtain⟨t,rfl⟩:=f;exact⟨SeqAt.EqAt.list_str _ _ ht b,SeqAt.EqAt.str_list _ _ ht b⟩
theorem wM{n:Nat}{d:D}(h:gP n d=true)(h0:n=0):flat d=true:=by subst h0;cases d<;>first|rfl|simp[bI,bC,bF,bG,bK,bJ]at h
theorem ac5{X:Cx}{J:List (Addr×Obj)}(I:L2.Inv X J σ H s)(sm:aH F H):∀(n:Nat)(A:Around),A.units+n<cLine->∀(d e:D),gP n d=true->gP n e=true->∀(v u:V)(L u':Value),Rep X.K F v d->Rep X.K F u e->RelV v L->RelV u u'->SeqAt.EqAt A s L u' (jg d e):=by intro n;induction n with|zero=>intro A hu d e hd he v u L u' h1 f r1 g;exact BV (wM hd rfl) (wM he rfl) h1 f r1 g|succ n ih=>
   intro A hu d e hd he v u L u' h1 f r1 g;have c:A.units<cLine:=by omega
   have O:A.in1.units+n<cLine:=by show A.units+1+n<cLine;omega--items by place
   have M:∀{xs ys:List V}{us ws:List Value}{ds es:List D}{j:Nat}(C:j<us.toArray.size)(E:j<ws.toArray.size),ds.all (gP n)=true->es.all (gP n)=true->Vals xs us->Vals ys ws->aF X.K F xs ds->aF X.K F ys es->SeqAt.EqAt A.in1 s us.toArray[j] ws.toArray[j] (jg (ds.getD j .non) (es.getD j .non)):=λ{xs ys us ws ds es j}C E a1 a2 G l h k=>by
    have C:j<us.length:=by simpa using C
    have E:j<ws.length:=by simpa using E
    have t:j<ds.length:=by rw[<-h.length,G.length];exact C
    have l2:j<es.length:=by rw[<-k.length,l.length];exact E
    obtain⟨x,g1,g2⟩:=h.get (show ds[j]?=some ds[j]by simp[t]);obtain⟨y,g3,g4⟩:=k.get (show es[j]?=some es[j]by simp[l2]);obtain⟨Y,g5,g6⟩:=G.get g1;obtain⟨Z,g7,g8⟩:=l.get g3;have e1:us.toArray[j]=Y:=by have:=(eG g5).2;simpa using this
    have e2:ws.toArray[j]=Z:=by have:=(eG g7).2;simpa using this
    have e3:ds.getD j .non=ds[j]:=by simp[List.getD,t]
    have e4:es.getD j .non=es[j]:=by simp[List.getD,l2]
    rw[e1,e2,e3,e4];exact ih A.in1 O _ _ (all_eq_true.mp a1 _ (getElem_mem t)) (all_eq_true.mp a2 _ (getElem_mem l2)) x y Y Z g2 g4 g6 g8--the same object
   have same:∀{a:Addr},v=.ref a->u=.ref a->SeqAt.EqAt A s L u' (jg d e):=λ{a}q1 q2=>by subst q1;subst q2;have:=M9 I sm (n+1) d hd _ e h1 f;subst this;rw[xW];cases r1;cases g;exact SeqAt.EqAt.same _
   cases d with
   |dq _=>simp[bI,bC,bF,bG,bK,bJ]at hd|dv _ _=>simp[bI,bC,bF,bG,bK,bJ]at hd|tup ds=>
     have Q:ds.all (gP n)=true:=by simpa[bI,bC,bF,bG,bK,bJ]using hd
     have o:=h1;rw[Rep]at o;obtain⟨a,xs,rfl,U,N⟩:=o;cases r1;obtain⟨us,G,h,_⟩:=I.tuple (aH.iD sm U)
     cases e with|dq _=>simp[bI,bC,bF,bG,bK,bJ]at he|dv _ _=>simp[bI,bC,bF,bG,bK,bJ]at he|tup es=>
       have W:es.all (gP n)=true:=by simpa[bI,bC,bF,bG,bK,bJ]using he
       have p:=f;rw[Rep]at p;obtain⟨b,ys,rfl,q,w⟩:=p;by_cases r:a=b;.subst r;exact same rfl rfl
       . cases g;obtain⟨ws,l,k,_⟩:=I.tuple (aH.iD sm q);refine .of_refs r ?_;have z:=SeqAt.RcAt.tuples (A:=A) (e:=λj=>jg (ds.getD j .non) (es.getD j .non)) h k c λj C E=>M C E Q W G l N w;have t:us.toArray.size=ds.length:=by rw[size_toArray,<-G.length,N.length]
         have l2:ws.toArray.size=es.length:=by rw[size_toArray,<-l.length,w.length]
         rw[t,l2]at z;have e0:jg (.tup ds) (.tup es)=((List.range (min ds.length es.length)).all (λj=>jg (ds.getD j .non) (es.getD j .non))&&ds.length==es.length):=by
          rw[pqt];by_cases B:ds.length=es.length;.rw[gn B,B];simp
          . rw[jk B];have:(ds.length==es.length)=false:=by simpa using B
            rw[this,Bool.and_false]
         rw[e0];exact z|lst es=>rw[Rep]at f;obtain⟨b,ys,rfl,q,w⟩:=f;cases g;obtain⟨ws,l,k,_⟩:=I.list (sm.seq q);exact SeqAt.EqAt.tuple_list h k.isList c|non=>exact(lQ h c rfl f g).1|bl _=>exact(lQ h c rfl f g).1|int _=>exact(lQ h c rfl f g).1|str _=>exact(lQ h c rfl f g).1
   |lst ds=>
     have Q:ds.all (gP n)=true:=by simpa[bI,bC,bF,bG,bK,bJ]using hd
     have o:=h1;rw[Rep]at o
     obtain⟨a,xs,rfl,U,N⟩:=o;cases r1;obtain⟨us,G,h,_⟩:=I.list (sm.seq U);cases e with|dq _=>simp[bI,bC,bF,bG,bK,bJ]at he|dv _ _=>simp[bI,bC,bF,bG,bK,bJ]at he|lst es=>
       have W:es.all (gP n)=true:=by simpa[bI,bC,bF,bG,bK,bJ]using he
       have p:=f;rw[Rep]at p;obtain⟨b,ys,rfl,q,w⟩:=p;by_cases r:a=b;.subst r;exact same rfl rfl
       . cases g;obtain⟨ws,l,k,_⟩:=I.list (sm.seq q);refine .of_refs r ?_;have t:us.toArray.size=ds.length:=by rw[size_toArray,<-G.length,N.length]
         have l2:ws.toArray.size=es.length:=by rw[size_toArray,<-l.length,w.length]
         rw[ZC];by_cases B:ds.length=es.length;.have z:=SeqAt.RcAt.lists (A:=A) (e:=λj=>jg (ds.getD j .non) (es.getD j .non)) h.isList k.isList (by rw[t,l2,B]) c λj C E=>M C E Q W G l N w;rw[t]at z;rw[gn B];exact z
         .rw[jk B];exact lists_lengths h.isList k.isList (by rw[t,l2];simpa using B) c|tup es=>rw[Rep]at f;obtain⟨b,ys,rfl,q,w⟩:=f;cases g;obtain⟨ws,l,k,_⟩:=I.tuple (aH.iD sm q);exact SeqAt.EqAt.list_tuple h.isList k c|non=>exact(mj h.isList c rfl f g).1|bl _=>exact(mj h.isList c rfl f g).1|int _=>exact(mj h.isList c rfl f g).1|str _=>exact(mj h.isList c rfl f g).1
   |non|bl _|int _|str _=>cases e with|dq _=>simp[bI,bC,bF,bG,bK,bJ]at he|dv _ _=>simp[bI,bC,bF,bG,bK,bJ]at he|tup es=>rw[Rep]at f;obtain⟨b,ys,rfl,q,w⟩:=f;cases g;obtain⟨ws,l,k,_⟩:=I.tuple (aH.iD sm q);exact(lQ k c rfl h1 r1).2|lst es=>rw[Rep]at f;obtain⟨b,ys,rfl,q,w⟩:=f;cases g;obtain⟨ws,l,k,_⟩:=I.list (sm.seq q);exact(mj k.isList c rfl h1 r1).2|_=>exact BV rfl rfl h1 f r1 g
end
section
variable{X:Cx}{pins:List (Addr×Obj)}{σ:L2.St}{H F:Hp}{s:Shared}{A:Around}
abbrev RC(A:Around)(s:Shared)(v u:Value)(k:Bool):Prop:=SeqAt.RcAt A s v u k/\SeqAt.RcNeAt A s v u (!k)
inductive Top(X:Cx)(F H:Hp)(s:Shared):Value->D->Prop where|non:Top X F H s .none .non|bl(b:Bool):Top X F H s (.bool b) (.bl b)|int(i:Int)(t:Tok):Top X F H s (.int i t) (.int i)|str(x:Str)(t:Tok):Top X F H s (.str x t) (.str x)|tup{a:Addr}{us:List Value}{xs:List V}{ds:List D}(ht:s.heap.IsTuple a us.toArray)(hv:Vals xs us)(hr:aF X.K F xs ds):Top X F H s (.ref a) (.tup ds)|lst{a:Addr}{us:List Value}{xs:List V}{ds:List D}(ht:s.heap.IsList a us.toArray)(hv:Vals xs us)(hr:aF X.K F xs ds):Top X F H s (.ref a) (.lst ds)
theorem ug(I:L2.Inv X pins σ H s)(sm:aH F H){g:Value}{d:D}(hd:gP 8 d=true)(h:dD X.K F H v d)(r:RelV v g):Top X F H s g d:=by cases d with|dq _=>simp[bI,bC,bF,bG,bK,bJ]at hd|dv _ _=>simp[bI,bC,bF,bG,bK,bJ]at hd|non=>rw[h.non]at r;cases r;exact .non|bl b=>rw[h.bl]at r;cases r;exact .bl b|int i=>rw[h.int]at r;obtain⟨t,rfl⟩:=r;exact .int i t|str x=>rw[h.str]at r;obtain⟨t,rfl⟩:=r;exact .str x t|tup ds=>obtain⟨a,xs,rfl,h1,c,_⟩:=h.tup sm;cases r;obtain⟨us,e,f,_⟩:=I.tuple h1;exact .tup f e c|lst ds=>obtain⟨a,xs,rfl,h1,c⟩:=h.lst sm;cases r;obtain⟨us,e,f,_⟩:=I.list h1;exact .lst f.isList e c
theorem Xy(I:L2.Inv X pins σ H s)(sm:aH F H){n:Nat}(hu:A.units+(n+1)<cLine){d e:D}(hd:gP (n+1) d=true)(he:gP (n+1) e=true){G:Value}(h1:Top X F H s G d)(u:Top X F H s u' e):RC A s G u' (jg d e):=by
 have c:A.units<cLine:=by omega
 have E:A.in1.units+n<cLine:=by show A.units+1+n<cLine;omega
 have q:∀{xs ys:List V}{us ws:List Value}{ds es:List D}{j:Nat}(k:j<us.toArray.size)(l:j<ws.toArray.size),ds.all (gP n)=true->es.all (gP n)=true->Vals xs us->Vals ys ws->aF X.K F xs ds->aF X.K F ys es->SeqAt.EqAt A.in1 s us.toArray[j] ws.toArray[j] (jg (ds.getD j .non) (es.getD j .non)):=λ{xs ys us ws ds es j}k l U W J L M N=>by
  have k:j<us.length:=by simpa using k
  have l:j<ws.length:=by simpa using l
  have o:j<ds.length:=by rw[<-M.length,J.length];exact k
  have l2:j<es.length:=by rw[<-N.length,L.length];exact l
  obtain⟨x,Y,Z⟩:=M.get (show ds[j]?=some ds[j]by simp[o]);obtain⟨y,g3,g4⟩:=N.get (show es[j]?=some es[j]by simp[l2]);obtain⟨O,g5,g6⟩:=J.get Y;obtain⟨Q,g7,g8⟩:=L.get g3;have e1:us.toArray[j]=O:=by have:=(eG g5).2;simpa using this
  have e2:ws.toArray[j]=Q:=by have:=(eG g7).2;simpa using this
  have e3:ds.getD j .non=ds[j]:=by simp[List.getD,o]
  have e4:es.getD j .non=es[j]:=by simp[List.getD,l2]
  rw[e1,e2,e3,e4];exact ac5 I sm n A.in1 E _ _ (all_eq_true.mp U _ (getElem_mem o)) (all_eq_true.mp W _ (getElem_mem l2)) x y O Q Z g4 g6 g8
 cases h1 with
 |non=>cases u with|non=>exact⟨SeqAt.RcAt.none_none,SeqAt.RcNeAt.none_none⟩|bl b=>exact⟨SeqAt.RcAt.none_bool _,SeqAt.RcNeAt.none_bool _⟩|int i t=>exact⟨SeqAt.RcAt.none_int _ _,SeqAt.RcNeAt.none_int _ _⟩|str i t=>exact⟨SeqAt.RcAt.none_str _ _,SeqAt.RcNeAt.none_str _ _⟩|tup ht _ _=>exact⟨SeqAt.RcAt.none_tuple ht c,SeqAt.RcNeAt.none_tuple ht c⟩|lst ht _ _=>exact⟨SeqAt.RcAt.none_list ht c,SeqAt.RcNeAt.none_list ht c⟩
 |bl b0=>cases u with|non=>exact⟨SeqAt.RcAt.bool_none _,SeqAt.RcNeAt.bool_none _⟩|bl b=>exact⟨SeqAt.RcAt.bool_bool _ _,SeqAt.RcNeAt.bool_bool _ _⟩|int i t=>exact⟨SeqAt.RcAt.bool_int _ _ _,SeqAt.RcNeAt.bool_int _ _ _⟩|str i t=>exact⟨SeqAt.RcAt.bool_str _ _ _,SeqAt.RcNeAt.bool_str _ _ _⟩|tup ht _ _=>exact⟨SeqAt.RcAt.bool_tuple _ ht c,SeqAt.RcNeAt.bool_tuple _ ht c⟩|lst ht _ _=>exact⟨SeqAt.RcAt.bool_list _ ht c,SeqAt.RcNeAt.bool_list _ ht c⟩
 |int i0 t0=>cases u with|non=>exact⟨SeqAt.RcAt.int_none _ _,SeqAt.RcNeAt.int_none _ _⟩|bl b=>exact⟨SeqAt.RcAt.int_bool _ _ _,SeqAt.RcNeAt.int_bool _ _ _⟩|int i t=>exact⟨SeqAt.RcAt.int_int _ _ _ _,SeqAt.RcNeAt.int_int _ _ _ _⟩|str i t=>exact⟨SeqAt.RcAt.int_str _ _ _ _,SeqAt.RcNeAt.int_str _ _ _ _⟩|tup ht _ _=>exact⟨SeqAt.RcAt.int_tuple _ _ ht c,SeqAt.RcNeAt.int_tuple _ _ ht c⟩|lst ht _ _=>exact⟨SeqAt.RcAt.int_list _ _ ht c,int_list _ _ ht c⟩
 |str i0 t0=>cases u with|non=>exact⟨SeqAt.RcAt.str_none _ _,SeqAt.RcNeAt.str_none _ _⟩|bl b=>exact⟨SeqAt.RcAt.str_bool _ _ _,SeqAt.RcNeAt.str_bool _ _ _⟩|int i t=>exact⟨SeqAt.RcAt.str_int _ _ _ _,SeqAt.RcNeAt.str_int _ _ _ _⟩|str i t=>exact⟨SeqAt.RcAt.str_str _ _ _ _,SeqAt.RcNeAt.str_str _ _ _ _⟩|tup ht _ _=>exact⟨SeqAt.RcAt.str_tuple _ _ ht c,SeqAt.RcNeAt.str_tuple _ _ ht c⟩|lst ht _ _=>exact⟨SeqAt.RcAt.str_list _ _ ht c,str_list _ _ ht c⟩
 |@tup a us xs ds ht r hr=>
   have w:ds.all (gP n)=true:=by simpa[bI,bC,bF,bG,bK,bJ]using hd
   cases u with|non=>exact⟨SeqAt.RcAt.tuple_none ht c,SeqAt.RcNeAt.tuple_none ht c⟩|bl b=>exact⟨SeqAt.RcAt.tuple_bool _ ht c,SeqAt.RcNeAt.tuple_bool _ ht c⟩|int i t=>exact⟨SeqAt.RcAt.tuple_int _ _ ht c,SeqAt.RcNeAt.tuple_int _ _ ht c⟩|str i t=>exact⟨SeqAt.RcAt.tuple_str _ _ ht c,SeqAt.RcNeAt.tuple_str _ _ ht c⟩|lst h _ _=>exact⟨SeqAt.RcAt.tuple_list ht h c,SeqAt.RcNeAt.tuple_list ht h c⟩|@tup b ws ys es h f g=>
     have z:es.all (gP n)=true:=by simpa[bI,bC,bF,bG,bK,bJ]using he
     have o:us.toArray.size=ds.length:=by rw[size_toArray,<-r.length,hr.length]
     have l2:ws.toArray.size=es.length:=by rw[size_toArray,<-f.length,g.length]
     have B:=SeqAt.RcAt.tuples (A:=A) (e:=λj=>jg (ds.getD j .non) (es.getD j .non)) ht h c λj k l=>q k l w z r f hr g;have C:=SeqAt.RcNeAt.tuples (A:=A) (e:=λj=>jg (ds.getD j .non) (es.getD j .non)) ht h c λj k l=>q k l w z r f hr g;rw[o,l2]at B C;have e0:jg (.tup ds) (.tup es)=((List.range (min ds.length es.length)).all (λj=>jg (ds.getD j .non) (es.getD j .non))&&ds.length==es.length):=by
      rw[pqt];by_cases p:ds.length=es.length;.rw[gn p,p];simp
      . rw[jk p];have:(ds.length==es.length)=false:=by simpa using p
        rw[this,Bool.and_false]
     rw[e0];exact⟨B,C⟩
 |@lst a us xs ds ht r hr=>
   have w:ds.all (gP n)=true:=by simpa[bI,bC,bF,bG,bK,bJ]using hd
   cases u with|non=>exact⟨SeqAt.RcAt.list_none ht c,SeqAt.RcNeAt.list_none ht c⟩|bl b=>exact⟨SeqAt.RcAt.list_bool _ ht c,SeqAt.RcNeAt.list_bool _ ht c⟩|int i t=>exact⟨SeqAt.RcAt.list_int _ _ ht c,list_int _ _ ht c⟩|str i t=>exact⟨SeqAt.RcAt.list_str _ _ ht c,list_str _ _ ht c⟩|tup h _ _=>exact⟨SeqAt.RcAt.list_tuple ht h c,SeqAt.RcNeAt.list_tuple ht h c⟩|@lst b ws ys es h f g=>
     have z:es.all (gP n)=true:=by simpa[bI,bC,bF,bG,bK,bJ]using he
     have o:us.toArray.size=ds.length:=by rw[size_toArray,<-r.length,hr.length]
     have l2:ws.toArray.size=es.length:=by rw[size_toArray,<-f.length,g.length]
     rw[ZC];by_cases p:ds.length=es.length;.have B:=SeqAt.RcAt.lists (A:=A) (e:=λj=>jg (ds.getD j .non) (es.getD j .non)) ht h (by rw[o,l2,p]) c λj k l=>q k l w z r f hr g;have C:=SeqAt.RcNeAt.lists (A:=A) (e:=λj=>jg (ds.getD j .non) (es.getD j .non)) ht h (by rw[o,l2,p]) c λj k l=>q k l w z r f hr g;rw[o]at B C;rw[gn p];exact⟨B,C⟩
     .rw[jk p];exact⟨lists_lengths ht h (by rw[o,l2];simpa using p) c,SeqAt.RcNeAt.lists_lengths ht h (by rw[o,l2];simpa using p) c⟩
theorem qz(b:X.A.units+8<cLine):fW X (compareOp .Eq) (rD X.K (o8 .eq)):=by rintro pins s σ H x y v u Q I c f⟨F,d,e,r,sm,g,h,he,k⟩;obtain⟨t,a,j⟩:=map_some (show(uJ d e).map _=some r from he);subst j;unfold uJ at a;obtain⟨hd,a⟩:=aU a;rw[and_eq_true]at hd;subst a;exact(Xy I sm (n:=7) b hd.1 hd.2 (ug I sm hd.1 g c) (ug I sm hd.2 h f)).1 _ _ _ _ ⟨.bl _,H,I,rfl,bY.cV sm (jT _) k⟩
theorem pF(b:X.A.units+8<cLine):fW X (compareOp .NotEq) (rD X.K (o8 .ne)):=by rintro pins s σ H x y v u Q I c f⟨F,d,e,r,sm,g,h,he,k⟩;obtain⟨t,a,j⟩:=map_some (show(yV d e).map _=some r from he);subst j;unfold yV at a;obtain⟨hd,a⟩:=aU a;rw[and_eq_true]at hd;subst a;exact(Xy I sm (n:=7) b hd.1 hd.2 (ug I sm hd.1 g c) (ug I sm hd.2 h f)).2 _ _ _ _ ⟨.bl _,H,I,rfl,bY.cV sm (jT _) k⟩
end
section
variable{Pg:Program}{w:World}{K:PySem.W.Frag}{mg:Str->Option Value}{base:Heap}
theorem W8{qual:Str}{st:Stmt}{f:Addr}{fd:FuncData}{N ps:List Str}{k n:Nat}{c:Call}{d:Fd}(C:jc K x qual st f fd)(S:aL N ps (aB st))(h1:d.np=ps.length)(t:d.nn=N.length)(G:∀(cdv:Value)(A:Around)(outer:List Env)(s:Shared)(H:Hp)(E:XK),ji k (A.deeper (envOfC qual (aB st) s.heap.objs.size f cdv))->SB (yp Fy Pg w K mg base N qual (aB st) f cdv A outer s H E).YM c n (fU st) d.body):mY Pg w K mg base Fy (k+1) f fd ps (Mm K ps.length (λargs=>enter c n d args)):=by
 refine C.ok S (λvs H Q E h=>h.1) λcdv A outer s H vs Q E hr h=>?_;obtain⟨u,F,args,r,o,g,e,q⟩:=h;refine⟨_,G cdv A outer s H E hr,?_⟩;replace e:enter c n d args=.ok r o:=e;unfold enter at e;split at e
 . rename_i hc;obtain⟨c1,c2⟩:=hc;have I:=g.more (n:=d.nn-d.np) (τ:=replicate (N.length-vs.length) none) (by simp[h1,t,u]);have p:args.length=d.np:=c1;have go:∀{fl:Fl}{a:List Sl},iu c n d.body (args++replicate (d.nn-d.np) .aW)=.ok fl a->(∀l b j,az K F (args++replicate (d.nn-d.np) .aW) (start N vs) H l a b j->(match fl with|.next=>Q .non j|.brk=>False|.cont=>False|.ret r=>∀v,cR K l a b j (args++replicate (d.nn-d.np) .aW) (start N vs) H v r->Q v j))->tEx K (iu c n d.body) {nx:=λ_ j=>Q .non j,rt:=Q} (start N vs) H:=λ{fl a}z k=>⟨F,_,fl,a,I,z,λl b j s=>by have:=k l b j s;cases fl<;>exact this⟩;split at e;.rename_i a z;cases e;refine go z λl b j s=>?_;obtain⟨y,B⟩:=az.less (m:=d.np) p.symm g (by simp[h1,t,u]) s;exact q .non l _ j y (show Rep K l _ _ from TY)
   .rename_i L a z;cases e;refine go z λl b j s v J=>?_;obtain⟨y,B⟩:=az.less (m:=d.np) p.symm g (by simp[h1,t,u]) s;exact q v l _ j y (B v r J)
   .split at e<;>cases e
 .cases e
structure aX(Pg:Program)(w:World)(K:PySem.W.Frag)(mg:Str->Option Value)(base:Heap)(k:Nat)(c:Call)(i:Nat)(x:Str)(np:Nat):Prop where ex:∃fa fd qs,mY Pg w K mg base Fy k fa fd qs (Mm K qs.length (c i))/\mg x=some (.ref fa)/\keepIn K (.ref fa)=true/\Binds K fd qs []/\qs.length=np
end
section
variable{X:Cx}{c:Call}{n k:Nat}{e a b:Expr}{es:List Expr}{p pa pb:P}{ps:List P}{pos:Pos}
theorem sv(i:Nat)(g:X.N[i]?=some x:=by rfl)(h:vQ X.env.scope x:=by first|exact Or.inl rfl|exact Or.inr (Or.inl rfl)|exact Or.inr (Or.inr rfl))(hd:(x==("__debug__":Str))=false:=by rfl)(f:(x==("__classdict__":Str))=false:=by rfl):SX X c (.Name x pos) (.var i):=Rp g h hd f
theorem dN{np:Nat}(C:aX X.prog X.w X.K X.mg X.base k c i x np)(hr:ji k X.A)(h:SG X c (e::es) ps)(j:Gl X x:=by rfl)(l:(e::es).length=np:=by rfl)(f:(x==("__debug__":Str))=false:=by rfl)(he:starEach (e::es) X.env=(false,eval e X.env)::starEach es X.env:=by rfl)(hpl:(backTo pos (starEach es X.env)).any (·.1)=false:=by rfl)(g:ps.length=(e::es).length:=by rfl):SX X c (.Call (.Name x p') (e::es) [] pos) (.call i ps):=by obtain⟨u,fd,y,h1,o,q,r,t⟩:=C.ex;exact KJ h1 hr j o q r h (l.trans t.symm) f he hpl g
noncomputable def OD(names outer:List (Str×NameKind))(N N':List Str)(n:Nat):Bool:=(names.all λy=>names.lookup y.1==some y.2)&&(names.all λy=>y.2!=.local||names.lookup y.1==some .local)&&(names.all λy=>y.2!=.free||outer.lookup y.1==some .cell||outer.lookup y.1==some .free)&&N'.length==N.length+n&&((N.zip N').all λp=>(p.1==p.2&&names.lookup p.2==some .free)||(names.lookup p.2!=some .local&&names.lookup p.2!=some .cell&&names.lookup p.2!=some .free))
theorem yj{scope:Scope}{N':List Str}(g:scope.kind=.function)(h:OD scope.names X.env.scope.names X.N N' n=true):fK X scope N' n:=by
 unfold OD at h;simp only[and_eq_true]at h;obtain⟨⟨⟨⟨h1,j⟩,l⟩,o⟩,q⟩:=h;refine⟨g,λy f=>eq_of_beq (all_eq_true.mp h1 y f),λy f e=>?_,λy f e=>?_,by simpa using o,q⟩;.have:=all_eq_true.mp j y f;rw[e]at this;simpa using this
 . have:=all_eq_true.mp l y f;rw[e]at this;simp only[or_eq_true]at this;rcases this with(z|z)|z;.cases z
   .exact .inl (eq_of_beq z)
   .exact .inr (eq_of_beq z)
theorem bB(h:ji k A):A.units+8<cLine:=by have:=h.un;omega
end
end HH
end
section
namespace L2
open PySem PySem.Spec PyProof.Rows
end L2
namespace HH
open PySem L2 PySem.Spec PyProof.Rows
structure bR(K:PySem.W.Frag)(x:Str)(st:Stmt):Prop where ex:∃f fd,PySem.W.nsIn K mainGlobals x=some (some (.ref f))/\jc K x x st f fd
section
variable{Pg:Program}{w:World}{K:PySem.W.Frag}{mg:Str->Option Value}{base h:Heap}
theorem R1{x:Str}{st:Stmt}{f:Addr}{oc:Value}{g i:Option Addr}{b:Array (Option Value)}{kV e j cdv ct:Value}(a:PySem.W.nsIn K mainGlobals x=some (some (.ref f)))(l:K.lookup f=some ⟨oc,g,.func (PySem.W.fnOf x x (iz st) (fU st) (aB st) .none kV e j i cdv ct),b⟩)(c:PySem.W.codeIn K cdv x=true)(k:keepIn K (.ref f)=true):bR K x st:=⟨_,_,a,RN l c k⟩
theorem cB{Γ:Tab}{wl i np:Nat}{x:Str}{st:Stmt}{ps:List Str}(X:K.In h)(G:h.Ns mainGlobals mg)(D:bR K x st)(g:ps.length=np)(j:∀(kV c k:Value)(l:Option Addr)(cdv ct:Value)(us:List Value),us.length=ps.length->bindArgs (PySem.W.fnOf x x (iz st) (fU st) (aB st) .none kV c k l cdv ct) ⟨us,[]⟩=pure (ps.zip us)):aX Pg w K mg base 0 (run Γ wl 0) i x np:=by obtain⟨f,fd,a,F⟩:=D.ex;exact⟨f,fd,ps,⟨λvs H Q E s=>s.1,λA outer s H args us vs Q E hr e b v sp=>by obtain⟨_,F,as,r,m,_,z,_⟩:=sp;cases z⟩,mg_of X G a,F.kp,F.binds j,g⟩
theorem cz{Γ:Tab}{wl n i np:Nat}{x:Str}{st:Stmt}{ps:List Str}{d:Fd}(X:K.In h)(G:h.Ns mainGlobals mg)(D:bR K x st)(g:ps.length=np)(b:Γ i=some d)(j:∀(kV c k:Value)(l:Option Addr)(cdv ct:Value)(us:List Value),us.length=ps.length->bindArgs (PySem.W.fnOf x x (iz st) (fU st) (aB st) .none kV c k l cdv ct) ⟨us,[]⟩=pure (ps.zip us))(ok:∀f fd,jc K x x st f fd->mY Pg w K mg base Fy (n+1) f fd ps (Mm K np (λargs=>enter (run Γ wl n) wl d args))):aX Pg w K mg base (n+1) (run Γ wl (n+1)) i x np:=by
 obtain⟨f,fd,a,F⟩:=D.ex;refine⟨f,fd,ps,?_,mg_of X G a,F.kp,F.binds j,g⟩;have e:run Γ wl (n+1) i=λargs=>enter (run Γ wl n) wl d args:=by funext args;show(match Γ i with|some d=>enter (run Γ wl n) wl d args|none=>.stuck)=_;rw[b]
 rw[e,g];exact ok f fd F
theorem sH{F:Hp}:∀ns:List Int,aF K F (ns.map V.int) (ns.map D.int)|[]=>.nil|n::ns=>.cons (bN n) (sH ns)
theorem Dv{H:Hp}{a:Addr}{ns:List Int}{g:List Sl->Res R}{as:List Sl}(l:fP K H a (ns.map V.int))(hr:g [.val false (.lst (ns.map D.int))]=.ok (.val (.bl true)) as):Mm K 1 g [.ref a] H (λv _=>v=.bl true) λ_ _ _=>False:=by
 refine⟨rfl,H,_,_,as,⟨.refl _,rfl,λi b d e=>?_,λi s m e k=>?_,λi j c h=>?_⟩,hr,λv n o p s f=>?_⟩;.match i,e with|0,e=>cases e;refine⟨.ref a,rfl,?_⟩;rw[Rep];exact⟨a,_,rfl,l,sH ns⟩|i+1,e=>simp at e
 .match i,e with|0,e=>cases e;cases k|i+1,e=>simp at e
 .obtain⟨⟨s,m,e,k⟩,_⟩:=h;match i,e with|0,e=>cases e;cases k|i+1,e=>simp at e
 .have f:Rep K n v (.bl true):=f;rw[Rep]at f;exact f
end
end HH
end
section
namespace HH
open PySem
variable{n:Nat}{c:Call}{ρ:List Sl}{is:List Nat}{ds:List D}
def Res.sat{b:Type}(Q:b->List Sl->Prop)(x:Res b):Prop:=match x with|.ok a ρ=>Q a ρ|.exc _ _=>False|.stuck=>False
section
variable{α β:Type}{Q Q':α->List Sl->Prop}
@[simp]theorem Qk{a:α}{ρ:List Sl}:(Res.ok a ρ).sat Q=Q a ρ:=rfl
@[simp]theorem aan{k:Nat}{ρ:List Sl}:(Res.exc k ρ:Res α).sat Q=False:=rfl
@[simp]theorem Vy:(Res.stuck:Res α).sat Q=False:=rfl
theorem cA{x:Res β}{f:β->List Sl->Res α}:(x.bind f).sat Q=x.sat λa ρ=>(f a ρ).sat Q:=by cases x<;>rfl
@[simp]theorem aaQ{p:Prop}[Decidable p]{x y:Res α}:(if p then x else y).sat Q=((p->x.sat Q)/\(¬ p->y.sat Q)):=by by_cases h:p<;>simp[h]
@[simp]theorem J3{a:α}{ρ:List Sl}:(lift (some a) ρ).sat Q=Q a ρ:=rfl
@[simp]theorem J0{ρ:List Sl}:(lift (none:Option α) ρ).sat Q=False:=rfl
@[simp]theorem M5{p:Prop}[Decidable p]{a:α}{ρ:List Sl}:(lift (if p then some a else none) ρ).sat Q=(p/\Q a ρ):=by by_cases h:p<;>simp[h]
theorem Res.sat.imp{x:Res α}(h:x.sat Q)(k:∀a ρ,Q a ρ->Q' a ρ):x.sat Q':=by cases x with|ok a ρ=>exact k a ρ h|exc _ _=>exact h|stuck=>exact h
theorem sat_iff{x:Res α}:x.sat Q↔∃a ρ,x=.ok a ρ/\Q a ρ:=by cases x with|ok a ρ=>exact⟨λh=>⟨a,ρ,rfl,h⟩,λ⟨_,_,e,h⟩=>by cases e;exact h⟩|exc _ _=>exact⟨λh=>h.elim,λ⟨_,_,e,_⟩=>by cases e⟩|stuck=>exact⟨λh=>h.elim,λ⟨_,_,e,_⟩=>by cases e⟩
end
noncomputable def fr:Sl->Bool|.aW=>true|.val b _=>!b|.own b _=>!b|.lent _=>false|.gA _=>false|.di _=>false|.hold _=>false
@[simp]theorem aby:fr .aW=true:=rfl
@[simp]theorem ace{b:Bool}{d:D}:fr (.val b d)=!b:=rfl
@[simp]theorem ade{b:Bool}{d:List D}:fr (.own b d)=!b:=rfl
@[simp]theorem ZL{d:List D}:fr (.lent d)=false:=rfl
theorem R8(ρ:List Sl)(i:Nat)(s:Sl):put ρ i s=match ρ[i]?with|some t=>if fr t=true then some (ρ.set i s)else none|none=>none:=by unfold put;cases h:ρ[i]?with|none=>rfl|some t=>cases t with|aW=>rfl|val b d=>cases b<;>rfl|own b d=>cases b<;>rfl|lent d=>rfl|gA m=>rfl|di m=>rfl|hold m=>rfl
theorem HD{Γ:Tab}{w i:Nat}{d:Fd}{args:List Sl}(h:Γ i=some d):run Γ w (n+1) i args=enter (run Γ w n) w d args:=by rw[run,h]
noncomputable def fin(np:Nat):Fl->List Sl->Option (R×List Sl)|.next,ρ=>some (.val .non,ρ.take np)|.ret r,ρ=>some (r,ρ.take np)|_,_=>none
def eQ(np:Nat)(Q:R->List Sl->Prop)(fl:Fl)(ρ:List Sl):Prop:=match fl with|.next=>Q (.val .non) (ρ.take np)|.ret r=>Q r (ρ.take np)|_=>False
def sQ(c:Call)(n:Nat)(r:List S)(Q:Fl->List Sl->Prop)(fl:Fl)(ρ:List Sl):Prop:=match fl with|.next=>(iu c n r ρ).sat Q|fl=>Q fl ρ
def fQ(J:List Sl->Prop)(Q:Fl->List Sl->Prop)(fl:Fl)(ρ:List Sl):Prop:=match fl with|.next=>J ρ|.cont=>J ρ|.brk=>Q .next ρ|.ret v=>Q (.ret v) ρ
section
variable{np:Nat}{Q:R->List Sl->Prop}{ρ:List Sl}{v:R}{c:Call}{n:Nat}{r:List S}{Q':Fl->List Sl->Prop}{J:List Sl->Prop}
@[simp]theorem aaN:eQ np Q .next ρ=Q (.val .non) (ρ.take np):=rfl
@[simp]theorem ac3:eQ np Q (.ret v) ρ=Q v (ρ.take np):=rfl
@[simp]theorem acw:eQ np Q .brk ρ=False:=rfl
@[simp]theorem aaG:eQ np Q .cont ρ=False:=rfl
@[simp]theorem aaR:sQ c n r Q' .next ρ=(iu c n r ρ).sat Q':=rfl
@[simp]theorem adx:sQ c n r Q' (.ret v) ρ=Q' (.ret v) ρ:=rfl
@[simp]theorem acQ:sQ c n r Q' .brk ρ=Q' .brk ρ:=rfl
@[simp]theorem aad:sQ c n r Q' .cont ρ=Q' .cont ρ:=rfl
@[simp]theorem aaj:fQ J Q' .next ρ=J ρ:=rfl
@[simp]theorem aat:fQ J Q' .cont ρ=J ρ:=rfl
@[simp]theorem adg:fQ J Q' .brk ρ=Q' .next ρ:=rfl
@[simp]theorem abQ:fQ J Q' (.ret v) ρ=Q' (.ret v) ρ:=rfl
end
theorem CT{d:Fd}{args:List Sl}{Q:R->List Sl->Prop}(a:args.length=d.np)(hd:d.np<=d.nn)(h:(iu c n d.body (args++replicate (d.nn-d.np) .aW)).sat (eQ d.np Q)):(enter c n d args).sat Q:=by unfold enter;rw[if_pos ⟨a,hd⟩];revert h;cases iu c n d.body (args++replicate (d.nn-d.np) .aW)with|stuck=>exact λh=>False.elim h|exc _ _=>exact λh=>False.elim h|ok fl ρ=>cases fl<;>first|exact id|exact λh=>False.elim h
theorem aO{Γ:Tab}{w i:Nat}{d:Fd}{args:List Sl}{Q:R->List Sl->Prop}(a:Γ i=some d)(b:args.length=d.np)(hd:d.np<=d.nn)(h:(iu (run Γ w n) w d.body (args++replicate (d.nn-d.np) .aW)).sat (eQ d.np Q)):(run Γ w (n+1) i args).sat Q:=by rw[HD a];exact CT b hd h
theorem ak{s:S}{r:List S}{Q:Fl->List Sl->Prop}(h:(ex c n s ρ).sat (sQ c n r Q)):(iu c n (s::r) ρ).sat Q:=by rw[R4,cA];refine h.imp λfl a q=>?_;cases fl<;>exact q
theorem Dt{s:S}{r:List S}{Q:Fl->List Sl->Prop}(h:(ex c n s ρ).sat (sQ c n r Q)):sQ c n (s::r) Q .next ρ:=ak h
@[simp]theorem Z9{c:Call}{n:Nat}{ρ:List Sl}{Q:Fl->List Sl->Prop}:(iu c n [] ρ).sat Q=Q .next ρ:=by rw[xs0];rfl
theorem fO{s:S}{r:List S}{Q:Fl->List Sl->Prop}(M:List Sl->Prop)(h:(ex c n s ρ).sat λfl a=>fl=.next/\M a)(k:∀a,M a->(iu c n r a).sat Q):(iu c n (s::r) ρ).sat Q:=ak (h.imp λfl a⟨e,q⟩=>by subst e;exact k a q)
theorem cL{is:List Nat}{one:Bool}{body:List Sl->Res Fl}(J:List D->List Sl->Prop){Q:Fl->List Sl->Prop}(b:∀d r ρ,J (d::r) ρ->∃a,cP ρ is one d=some a/\(body a).sat (fQ (J r) Q))(f:∀ρ,J [] ρ->Q .next ρ):∀{ds:List D}{ρ:List Sl},J ds ρ->(iw is one body ds ρ).sat Q|[],ρ,j=>f ρ j|d::r,ρ,j=>by obtain⟨a,e,h⟩:=b d r ρ j;rw[zN,e];show((body a).bind _).sat Q;rw[cA];refine h.imp λfl g q=>?_;cases fl with|next=>exact cL J b f q|cont=>exact cL J b f q|brk=>exact q|ret v=>exact q
theorem jH{is:List Nat}{one:Bool}{a:List Sl->Res Bool}{p:Ev}(J:List Sl->Prop)(g:D->Option D){Q:List D->List Sl->Prop}:∀{ds f:List D}{ρ:List Sl},J ρ->(∀ d,d ∈ ds->∀ ρ,J ρ->∃ i,cP ρ is one d=some i/\(a i).sat λb l=>if b=true then(p l).sat λr s=>g d=some r.d/\J s else g d=none/\J l)->(∀ ρ,J ρ->Q (f++ds.filterMap g) ρ)->(turns is one a p ds f ρ).sat Q|[],f,ρ,j,h,k=>by rw[Gi];simpa using k ρ j|d::r,f,ρ,j,h,k=>by obtain⟨i,e,h1⟩:=h d (by simp) ρ j;rw[Fo,e];show((a i).bind _).sat Q;rw[cA];refine h1.imp λb l q=>?_;cases b with|true=>rw[if_pos rfl]at q;rw[if_pos rfl,cA];refine q.imp λx s⟨u,j3⟩=>?_;refine jH J g j3 (λd' m=>h d' (by simp[m])) λo t=>?_;have:=k o t;rw[filterMap_cons,u]at this;rw[append_assoc];exact this|false=>rw[if_neg (by simp)]at q;rw[if_neg (by simp)];refine jH J g q.2 (λd' m=>h d' (by simp[m])) λo t=>?_;have:=k o t;rw[filterMap_cons,q.1]at this;exact this
theorem yH{one:Bool}{b:Ev}(J:List Sl->Prop)(g:D->D){Q:List D->List Sl->Prop}(j:J ρ)(h:∀d,d∈ds->∀ρ,J ρ->∃a,cP ρ is one d=some a/\(b a).sat λr f=>g d=r.d/\J f)(k:∀ρ,J ρ->Q (ds.map g) ρ):(turns is one (vU c none) b ds [] ρ).sat Q:=jH J (λd=>some (g d)) j (λd hd ρ j=>by obtain⟨a,e,h1⟩:=h d hd ρ j;refine⟨a,e,?_⟩;rw[vU,Qk,if_pos rfl];exact h1.imp λr f q=>⟨by rw[q.1],q.2⟩) λρ j=>by simpa using k ρ j
section
variable{ρ l:List Sl}{a:Sl}{i j:Int}{k m:Nat}{b b':Bool}{s:Str}{d:D}{ds es:List D}{e f:Ev}{x:Option Sl}{c:Call}
@[simp]theorem Ru:dg .int .non=false:=rfl
@[simp]theorem Vv:dg .int (.bl b)=true:=rfl
@[simp]theorem RB:dg .int (.int i)=true:=rfl
@[simp]theorem QJ:dg .int (.str s)=false:=rfl
@[simp]theorem Rh:dg .int (.tup ds)=false:=rfl
@[simp]theorem SN:dg .int (.lst ds)=false:=rfl
@[simp]theorem Nx:dg .bool .non=false:=rfl
@[simp]theorem Uk:dg .bool (.bl b)=true:=rfl
@[simp]theorem NK:dg .bool (.int i)=false:=rfl
@[simp]theorem NQ:dg .bool (.str s)=false:=rfl
@[simp]theorem O4:dg .bool (.tup ds)=false:=rfl
@[simp]theorem Ov:dg .bool (.lst ds)=false:=rfl
@[simp]theorem Su:dg .str .non=false:=rfl
@[simp]theorem Vg:dg .str (.bl b)=false:=rfl
@[simp]theorem RK:dg .str (.int i)=false:=rfl
@[simp]theorem T7:dg .str (.str s)=true:=rfl
@[simp]theorem Sw:dg .str (.tup ds)=false:=rfl
@[simp]theorem TX:dg .str (.lst ds)=false:=rfl
@[simp]theorem M7:dg .tuple .non=false:=rfl
@[simp]theorem Pa:dg .tuple (.bl b)=false:=rfl
@[simp]theorem Lg:dg .tuple (.int i)=false:=rfl
@[simp]theorem Mt:dg .tuple (.str s)=false:=rfl
@[simp]theorem MF:dg .tuple (.tup ds)=true:=rfl
@[simp]theorem Mq:dg .tuple (.lst ds)=false:=rfl
@[simp]theorem Oe:dg .list .non=false:=rfl
@[simp]theorem R3:dg .list (.bl b)=false:=rfl
@[simp]theorem Ny:dg .list (.int i)=false:=rfl
@[simp]theorem O9:dg .list (.str s)=false:=rfl
@[simp]theorem Pq:dg .list (.tup ds)=false:=rfl
@[simp]theorem N5:dg .list (.lst ds)=true:=rfl
@[simp]theorem N7:dg .none .non=true:=rfl
@[simp]theorem Ss:dg .none (.bl b)=false:=rfl
@[simp]theorem N6:dg .none (.int i)=false:=rfl
@[simp]theorem O7:dg .none (.str s)=false:=rfl
@[simp]theorem O2:dg .none (.tup ds)=false:=rfl
@[simp]theorem Ox:dg .none (.lst ds)=false:=rfl
@[simp]theorem Wk:jC .non=true:=rfl
@[simp]theorem W6:jC (.bl b)=false:=rfl
@[simp]theorem Wj:jC (.int i)=false:=rfl
@[simp]theorem VL:jC (.str s)=false:=rfl
@[simp]theorem Vf:jC (.tup ds)=false:=rfl
@[simp]theorem Wl:jC (.lst ds)=false:=rfl
@[simp]theorem Xz:flat .non=true:=rfl
@[simp]theorem Zy:flat (.bl b)=true:=rfl
@[simp]theorem HX:flat (.int i)=true:=rfl
@[simp]theorem YQ:flat (.str s)=true:=rfl
@[simp]theorem Yw:flat (.tup ds)=false:=rfl
@[simp]theorem W3:flat (.lst ds)=false:=rfl
@[simp]theorem acI:(R.val d).d=d:=rfl
@[simp]theorem abv:(R.own ds).d=.lst ds:=rfl
@[simp]theorem Xi:yC (.val d)=.val false d:=rfl
@[simp]theorem Yv:yC (.own ds)=.own false ds:=rfl
@[simp]theorem Vh:tH (.val d)=.dat d:=rfl
@[simp]theorem Vq:tH (.own ds)=.tmp ds:=rfl
@[simp]theorem aaB:gF (.int i)=some i:=rfl
@[simp]theorem acR:Wd (.bl b)=some b:=rfl
@[simp]theorem U7:items (.lst ds)=some ds:=rfl
@[simp]theorem Dq:items (.tup ds)=some ds:=rfl
@[simp]theorem Qn:S7 (.tup ds)=some ds:=rfl
@[simp]theorem Ud:R6 (.lst ds)=some ds:=rfl
@[simp]theorem aac:rM .add=qd:=rfl
@[simp]theorem Z8:rM .sub=xU:=rfl
@[simp]theorem ZV:rM .mul=jA:=rfl
@[simp]theorem YD:rM .fdiv=pN:=rfl
@[simp]theorem Z7:rM .mod=xH:=rfl
@[simp]theorem Zv:rM .pow=wC:=rfl
@[simp]theorem Vw:qd (.int i) (.int j)=some (.val (.int (i+j))):=rfl
@[simp]theorem Vn:qd (.lst ds) (.lst es)=if ds.length+es.length<=lim then some (.own (ds++es))else none:=rfl
@[simp]theorem Vt:qd (.tup ds) (.tup es)=if ds.length+es.length<=lim then some (.val (.tup (ds++es)))else none:=rfl
@[simp]theorem Vp:xU (.int i) (.int j)=some (.val (.int (i-j))):=rfl
@[simp]theorem Wi:jA (.int i) (.int j)=if((-18446744073709551616<i/\i<18446744073709551616)\/(-18446744073709551616<j/\j<18446744073709551616))then some (.val (.int (i*j)))else none:=rfl
@[simp]theorem Q3:pN (.int i) (.int j)=if 0<j/\j<1606938044258990275541962092341162602522202993782792835301376 then some (.val (.int (i/j)))else none:=rfl
@[simp]theorem UW:xH (.int i) (.int j)=if 0<j then some (.val (.int (i%j)))else none:=rfl
@[simp]theorem VH:wC (.int i) (.int j)=if 0<=j/\j<=1000/\i.natAbs<18446744073709551616 then some (.val (.int (i^j.toNat)))else none:=rfl
@[simp]theorem aau:Dn (.lst ds) (.int i)=(at' ds i).map .val:=rfl
@[simp]theorem aaE:Dn (.tup ds) (.int i)=(at' ds i).map .val:=rfl
@[simp]theorem Ys:HQ (.int i)=some (.val (.int (-i))):=rfl
@[simp]theorem U5:cm .eq (.int i) (.int j)=some (i==j):=rfl
@[simp]theorem Vz:cm .ne (.int i) (.int j)=some (!(i==j)):=rfl
@[simp]theorem XQ:cm .eq (.bl b) (.bl b')=some (b==b'):=rfl
@[simp]theorem Yd:cm .ne (.bl b) (.bl b')=some (!(b==b')):=rfl
@[simp]theorem Vk:cm .lt (.int i) (.int j)=some (decide (i<j)):=rfl
@[simp]theorem U4:cm .le (.int i) (.int j)=some (decide (i<=j)):=rfl
@[simp]theorem VD:cm .gt (.int i) (.int j)=some (decide (j<i)):=rfl
@[simp]theorem U6:cm .ge (.int i) (.int j)=some (decide (j<=i)):=rfl
@[simp]theorem adE:cm .isN d .non=some (jC d):=rfl
@[simp]theorem ZQ:cm .Nk d .non=some (!jC d):=rfl
@[simp]theorem Oo:blt .len [.lst ds]=some (.val (.int ds.length)):=rfl
@[simp]theorem Om:blt .len [.tup ds]=some (.val (.int ds.length)):=rfl
@[simp]theorem Wc:blt .Cu [.lst ds]=if ds.length<=16777216 then some (.own ds)else none:=rfl
@[simp]theorem My:blt .list [.lst ds]=some (.own ds):=rfl
@[simp]theorem M3:blt .list [.tup ds]=some (.own ds):=rfl
@[simp]theorem JZ:blt .tuple [.lst ds]=some (.val (.tup ds)):=rfl
@[simp]theorem J5:blt .tuple [.tup ds]=some (.val (.tup ds)):=rfl
@[simp]theorem YX:blt .min2 [.int i,.int j]=some (.val (.int (if j<i then j else i))):=rfl
@[simp]theorem Yu:blt .max2 [.int i,.int j]=some (.val (.int (if i<j then j else i))):=rfl
@[simp]theorem Vo:isVar (.var k)=some k:=rfl
@[simp]theorem aaC:pk (a::l) k=match(a::l)[k]?with|some (.val _ d)=>some d|some (.own _ ds)=>some (.lst ds)|some (.lent ds)=>some (.lst ds)|_=>none:=rfl
@[simp]theorem Yh:BW (a::l) k=match pk (a::l) k with|some (.lst ds)=>some ds|_=>none:=rfl
@[simp]theorem WQ:cH (some k) e ρ=lift (pk ρ k) ρ:=rfl
@[simp]theorem XD:cH none e ρ=(e ρ).bind λr ρ=>.ok r.d ρ:=rfl
@[simp]theorem U3{y:Option Nat}:ie (some k) e y f ρ=(lift (pk ρ k) ρ).bind λ_ ρ=>(cH y f ρ).bind λy ρ=>(lift (pk ρ k) ρ).bind λx ρ=>.ok (x,y) ρ:=rfl
@[simp]theorem V9{y:Option Nat}:ie none e y f ρ=(cH none e ρ).bind λx ρ=>(cH y f ρ).bind λy ρ=>.ok (x,y) ρ:=rfl
@[simp]theorem Vj{es:List D}:dJ (.own b ds) (some (.own b' es))=.own b es:=rfl
@[simp]theorem Wb:dJ (.own b ds) (some (.val b' d))=.val b d:=rfl
@[simp]theorem Hq:dJ a none=a:=by cases a<;>rfl
@[simp]theorem Ef:dJ (.val b d) x=.val b d:=by cases x<;>rfl
@[simp]theorem Ve:dJ .aW x=.aW:=by cases x<;>rfl
@[simp]theorem yQ:dJ (.lent ds) x=.lent ds:=by cases x<;>rfl
@[simp]theorem Xh:cP ρ [k] true d=put ρ k (.val false d):=rfl
@[simp]theorem V2{is:List Nat}:cP ρ is false (.tup ds)=putAll ρ is ds:=by cases is<;>rfl
@[simp]theorem Tu:srcOf none e ρ=(e ρ).bind λr ρ=>lift (items r.d) ρ:=rfl
@[simp]theorem Rw:srcOf (some k) e (a::l)=match(a::l)[k]?with|some (.val _ d)=>lift (items d) (a::l)|some (.own _ ds)=>.ok ds ((a::l).set k (.lent ds))|some (.lent ds)=>.ok ds (a::l)|_=>.stuck:=rfl
@[simp]theorem Ot{g:List Sl}:bj g none ρ=ρ:=rfl
@[simp]theorem Ou:bj (a::l) (some k) ρ=match(a::l)[k]?with|some (.own b ds)=>ρ.set k (.own b ds)|_=>ρ:=rfl
@[simp]theorem XR{s:Sl}:put (a::l) k s=match(a::l)[k]?with|some t=>if fr t=true then some ((a::l).set k s)else none|none=>none:=R8 ..
@[simp]theorem RQ:putAll ρ [] []=some ρ:=rfl
@[simp]theorem OJ{is:List Nat}:putAll ρ (k::is) (d::ds)=(put ρ k (.val false d)).bind λρ=>putAll ρ is ds:=rfl
end
@[simp]theorem at_0{a:Type}{b:a}{l:List a}:at' (b::l) 0=some b:=by unfold at' iW;rw[if_pos (by decide),if_pos (by simp only[length_cons];omega)];rfl
@[simp]theorem at_1{a:Type}{e b:a}{l:List a}:at' (e::b::l) 1=some b:=by unfold at' iW;rw[if_pos (by decide),if_pos (by simp only[length_cons];omega)];rfl
@[simp]theorem at_2{a:Type}{e f b:a}{l:List a}:at' (e::f::b::l) 2=some b:=by unfold at' iW;rw[if_pos (by decide),if_pos (by simp only[length_cons];omega)];rfl
@[simp]theorem at_3{a:Type}{e f g b:a}{l:List a}:at' (e::f::g::b::l) 3=some b:=by unfold at' iW;rw[if_pos (by decide),if_pos (by simp only[length_cons];omega)];rfl
@[simp]theorem at_4{a:Type}{e f g h b:a}{l:List a}:at' (e::f::g::h::b::l) 4=some b:=by unfold at' iW;rw[if_pos (by decide),if_pos (by simp only[length_cons];omega)];rfl
@[simp]theorem at_5{a:Type}{e f g h i b:a}{l:List a}:at' (e::f::g::h::i::b::l) 5=some b:=by unfold at' iW;rw[if_pos (by decide),if_pos (by simp only[length_cons];omega)];rfl
@[simp]theorem at_6{a:Type}{e f g h i j b:a}{l:List a}:at' (e::f::g::h::i::j::b::l) 6=some b:=by unfold at' iW;rw[if_pos (by decide),if_pos (by simp only[length_cons];omega)];rfl
@[simp]theorem at_7{a:Type}{e f g h i j k b:a}{l:List a}:at' (e::f::g::h::i::j::k::b::l) 7=some b:=by unfold at' iW;rw[if_pos (by decide),if_pos (by simp only[length_cons];omega)];rfl
theorem yR{a:Type}{l:List a}{i:Int}(h:0<=i)(h':i<l.length):at' l i=l[i.toNat]?:=by unfold at' iW;rw[if_pos h,if_pos h'];rfl
theorem Hk{a:Type}{l:List a}{k:Nat}(h':k<l.length):at' l (k:Int)=l[k]?:=by rw[yR (by omega) (by omega)];simp
@[simp]theorem VP{d:D}:isVar (.con d)=none:=rfl
@[simp]theorem Vb{o:Op}{p q:P}:isVar (.bin o p q)=none:=rfl
@[simp]theorem VF{p:P}:isVar (.neg p)=none:=rfl
@[simp]theorem V1{p:P}:isVar (.not p)=none:=rfl
@[simp]theorem Wg{p q:P}:isVar (.and p q)=none:=rfl
@[simp]theorem Yj{p q:P}:isVar (.or p q)=none:=rfl
@[simp]theorem Va{o:Cm}{p q:P}:isVar (.cmp o p q)=none:=rfl
@[simp]theorem NZ{o a:Cm}{p q r:P}:isVar (.chain o a p q r)=none:=rfl
@[simp]theorem U9{p q r:P}:isVar (.Nm p q r)=none:=rfl
@[simp]theorem V0{as:List P}:isVar (.tup as)=none:=rfl
@[simp]theorem Vs{as:List P}:isVar (.lst as)=none:=rfl
@[simp]theorem Vi{p q:P}:isVar (.idx p q)=none:=rfl
@[simp]theorem Ow{p q r:P}:isVar (.slice p q r)=none:=rfl
@[simp]theorem Uc{f:Nat}{as:List P}:isVar (.call f as)=none:=rfl
@[simp]theorem V7{b:WM}{as:List P}:isVar (.blt b as)=none:=rfl
@[simp]theorem Q0{p e:P}{n:Nat}{is:List Nat}{one:Bool}{t:Option P}:isVar (.comp p n is one t e)=none:=rfl
@[simp]theorem V4{p q:P}:isVar (.yc p q)=none:=rfl
@[simp]theorem Vd{p q:P}:isVar (.zip p q)=none:=rfl
noncomputable def qN(c:Call)(is:List Nat)(one:Bool)(a:Option P)(b:P)(ds:List D)(ρ:List Sl):Res (List D):=turns is one (vU c a) (ev c b) ds [] ρ
@[simp]theorem aaD{c:Call}{src f:P}{n:Nat}{is:List Nat}{one:Bool}{b:Option P}{ρ:List Sl}:ev c (.comp src n is one b f) ρ=(srcOf (isVar src) (ev c src) ρ).bind λds a=>if ds.length<=lim then(qN c is one b f ds (a++replicate n .aW)).bind λxs e=>.ok (.own xs) (bj ρ (isVar src) (e.take a.length))else .stuck:=(rfl)
noncomputable def JC(c:Call)(n:Nat)(t:P)(body:List S)(k:Nat)(ρ:List Sl):Res Fl:=qt (jM (ev c t)) (iu c n body) k ρ
@[simp]theorem aca{c:Call}{n:Nat}{t:P}{body:List S}{ρ:List Sl}:ex c n (.whl t body) ρ=JC c n t body n ρ:=(rfl)
theorem uv{b e h:Type}{x:Res e}{f:e->List Sl->Res b}{g:b->List Sl->Res h}:(x.bind f).bind g=x.bind λa ρ=>(f a ρ).bind g:=by cases x<;>rfl
@[simp]theorem abM{Γ:Tab}{w n i:Nat}{args:List Sl}{b:Type}{f:R->List Sl->Res b}{Q:b->List Sl->Prop}:((run Γ w n i args).bind f).sat Q=(run Γ w n i args).sat λa ρ=>(f a ρ).sat Q:=cA
@[simp]theorem abx{Γ:Tab}{w n i:Nat}{args:List Sl}{b e:Type}{f:R->List Sl->Res b}{g:b->List Sl->Res e}:((run Γ w n i args).bind f).bind g=(run Γ w n i args).bind λa ρ=>(f a ρ).bind g:=uv
@[simp]theorem ZG{c:Call}{is:List Nat}{one:Bool}{b:Option P}{e:P}{ds:List D}{ρ:List Sl}{g:Type}{f:List D->List Sl->Res g}{Q:g->List Sl->Prop}:((qN c is one b e ds ρ).bind f).sat Q=(qN c is one b e ds ρ).sat λa ρ=>(f a ρ).sat Q:=cA
@[simp]theorem aay{c:Call}{is:List Nat}{one:Bool}{b:Option P}{e:P}{ds:List D}{ρ:List Sl}{h i:Type}{f:List D->List Sl->Res h}{g:h->List Sl->Res i}:((qN c is one b e ds ρ).bind f).bind g=(qN c is one b e ds ρ).bind λa ρ=>(f a ρ).bind g:=uv
@[simp]theorem acT{is:List Nat}{one:Bool}{b:List Sl->Res Fl}{ds:List D}{ρ:List Sl}{e:Type}{f:Fl->List Sl->Res e}{Q:e->List Sl->Prop}:((iw is one b ds ρ).bind f).sat Q=(iw is one b ds ρ).sat λa ρ=>(f a ρ).sat Q:=cA
@[simp]theorem aax{b e:Type}{p:Prop}[Decidable p]{a:e}{ρ:List Sl}{f:e->List Sl->Res b}{Q:b->List Sl->Prop}:((lift (if p then some a else none) ρ).bind f).sat Q=(p/\(f a ρ).sat Q):=by by_cases h:p<;>simp[h,lift,Res.bind]
@[simp]theorem aab{b e h:Type}{p:Prop}[Decidable p]{a:e}{ρ:List Sl}{f:e->List Sl->Res b}{g:b->List Sl->Res h}:((lift (if p then some a else none) ρ).bind f).bind g=(lift (if p then some a else none) ρ).bind λa ρ=>(f a ρ).bind g:=uv
@[simp]theorem bb_ite{b a:Type}{p:Prop}[Decidable p]{x y:Res a}{f:a->List Sl->Res b}:(if p then x else y).bind f=if p then x.bind f else y.bind f:=by by_cases h:p<;>simp[h]
@[simp]theorem ab8{c:Call}{n k:Nat}{t:P}{b:List S}{ρ:List Sl}{e:Type}{f:Fl->List Sl->Res e}{Q:e->List Sl->Prop}:((JC c n t b k ρ).bind f).sat Q=(JC c n t b k ρ).sat λa ρ=>(f a ρ).sat Q:=cA
@[simp]theorem ac8{b e:Type}{a:b}{ρ:List Sl}{f:b->List Sl->Res e}:(Res.ok a ρ).bind f=f a ρ:=rfl
@[simp]theorem VG{a b:Type}{f:a->List Sl->Res b}:(Res.stuck:Res a).bind f=.stuck:=rfl
@[simp]theorem WL{b:Type}{a:b}{ρ:List Sl}:lift (some a) ρ=.ok a ρ:=rfl
@[simp]theorem YK{a:Type}{ρ:List Sl}:lift (none:Option a) ρ=.stuck:=rfl
noncomputable def Es:List Sl->Nat->Sl->List Sl|[],_,_=>[]|t::ρ,0,s=>dJ t (some s)::ρ|t::ρ,k+1,s=>t::Es ρ k s
theorem qI{k:Nat}{s:Sl}:Es [] k s=[]:=rfl
theorem rA{t:Sl}{ρ:List Sl}{s:Sl}:Es (t::ρ) 0 s=dJ t (some s)::ρ:=rfl
theorem pL{t:Sl}{ρ:List Sl}{k:Nat}{s:Sl}:Es (t::ρ) (k+1) s=t::Es ρ k s:=rfl
noncomputable def bk:List Arg->List Sl->List Sl->List Sl|.fc k::as,s::ss,ρ=>bk as ss (Es ρ k s)|.dat _::as,_::ss,ρ=>bk as ss ρ|.tmp _::as,_::ss,ρ=>bk as ss ρ|_,_,ρ=>ρ
section
variable{t s:Sl}{ρ ss:List Sl}{k:Nat}{as:List Arg}{d:D}{ds:List D}
@[simp]theorem aeH:Es (t::ρ) 0 s=dJ t (some s)::ρ:=rfl
@[simp]theorem ae4:Es (t::ρ) (k+1) s=t::Es ρ k s:=rfl
@[simp]theorem S5:bk (.fc k::as) (s::ss) ρ=bk as ss (Es ρ k s):=rfl
@[simp]theorem Qm:bk (.dat d::as) (s::ss) ρ=bk as ss ρ:=rfl
@[simp]theorem Sg:bk (.tmp ds::as) (s::ss) ρ=bk as ss ρ:=rfl
@[simp]theorem abY:bk [] ss ρ=ρ:=rfl
end
theorem yq{s:Sl}:∀{ρ:List Sl}{k j:Nat},(Es ρ k s)[j]?=(ρ[j]?).map λt=>if j=k then dJ t (some s)else t|[],_,_=>by simp[qI,rA,pL]|t::ρ,0,0=>by simp[qI,rA,pL]|t::ρ,0,j+1=>by simp[qI,rA,pL]|t::ρ,k+1,0=>by simp[qI,rA,pL]|t::ρ,k+1,j+1=>by have:=yq (s:=s) (ρ:=ρ) (k:=k) (j:=j);simp only[qI,rA,pL,List.getElem?_cons_succ,this];congr 1;funext t;simp
theorem wj{as:List Arg}{ss:List Sl}:∀{ρ:List Sl}{i j:Nat},(dR as ss i ρ)[j]?=(ρ[j]?).map λt=>dJ t (aR (i+j) as ss)|[],_,_=>by simp[qe,j7]|t::ρ,i,0=>by simp[qe,j7]|t::ρ,i,j+1=>by have:=wj (as:=as) (ss:=ss) (ρ:=ρ) (i:=i+1) (j:=j);simp only[qe,j7,List.getElem?_cons_succ,this];rw[show i+1+j=i+(j+1)by omega]
def stb(t:Sl):Prop:=∀x,dJ t x=t
def Rg(ρ:List Sl):List Arg->Prop|[]=>True|.fc k::as=>(Arg.fc k∈as->∀t,ρ[k]?=some t->stb t)/\Rg ρ as|_::as=>Rg ρ as
theorem oZ{ρ:List Sl}:∀{as:List Arg}{a:List Sl},Rg ρ as->(∀k,Arg.fc k∈as->∀t,a[k]?=some t->ρ[k]?=some t\/stb t)->Rg a as
 |[],_,_,_=>trivial|.fc k::as,a,h,g=>⟨λf t ht=>by
  rcases g k (by simp) t ht with e|e;.exact h.1 f t e
  .exact e,oZ h.2 λj b=>g j (by simp[b])⟩|.dat _::as,a,h,g=>oZ (as:=as) h λj b=>g j (by simp[b])|.tmp _::as,a,h,g=>oZ (as:=as) h λj b=>g j (by simp[b])
theorem lR{k:Nat}:∀{as:List Arg}{ss:List Sl},Arg.fc k∉as->aR k as ss=none|[],_,_=>by unfold aR;rfl|.fc j::as,[],_=>rfl|.dat _::as,[],_=>rfl|.tmp _::as,[],_=>rfl|.fc j::as,s::ss,h=>by simp only[mem_cons,Arg.fc.injEq,not_or]at h;rw[aR,if_neg (λe=>h.1 e.symm),lR h.2]|.dat _::as,s::ss,h=>by simp only[mem_cons,not_or]at h;rw[aR,lR h.2]|.tmp _::as,s::ss,h=>by simp only[mem_cons,not_or]at h;rw[aR,lR h.2]
theorem Ab:∀{as:List Arg}{ss ρ:List Sl},Rg ρ as->∀j,(bk as ss ρ)[j]?=(ρ[j]?).map λt=>dJ t (aR j as ss)
 |[],ss,ρ,_,j=>by cases ss<;>simp[aR]|.fc k::as,[],ρ,_,j=>by rw[show bk (.fc k::as) [] ρ=ρ from rfl];simp[aR]|.dat d::as,[],ρ,_,j=>by rw[show bk (.dat d::as) [] ρ=ρ from rfl];simp[aR]|.tmp d::as,[],ρ,_,j=>by rw[show bk (.tmp d::as) [] ρ=ρ from rfl];simp[aR]|.dat _::as,s::ss,ρ,h,j=>by rw[Qm,aR];exact Ab (as:=as) h j|.tmp _::as,s::ss,ρ,h,j=>by rw[Sg,aR];exact Ab (as:=as) h j|.fc k::as,s::ss,ρ,h,j=>by
   have b:Rg (Es ρ k s) as:=oZ h.2 λi hi t ht=>by rw[yq]at ht;cases e:ρ[i]?with|none=>rw[e]at ht;cases ht|some t0=>
      rw[e]at ht;by_cases c:i=k;.subst c;have hs:=h.1 hi t0 e;simp[hs (some s)]at ht;exact .inl (by rw[ht])
      .simp[c]at ht;exact .inl (by rw[ht])
   rw[S5,Ab b j,yq,aR];cases e:ρ[j]?with|none=>rfl|some t0=>
     simp only[Option.map_some];by_cases c:j=k
     . subst c;rw[if_pos rfl,if_pos rfl];by_cases a:Arg.fc j∈as;.have hs:=h.1 a t0 e;rw[hs (some s),hs]
       .rw[lR a,Hq]
     .rw[if_neg c,if_neg (λz=>c z.symm)]
theorem fX{ρ:List Sl}{k:Nat}{b:Bool}{ds:List D}(e:ρ[k]?=some (.own b ds)):∀{as:List Arg}{u:List Nat}{r:List Sl},k∈u->bQ ρ as u=some r->Arg.fc k∉as
 |[],_,_,_,_=>by simp|.dat _::as,u,r,a,h=>by simp only[zA,yW,yx,pP,map_eq_some_iff]at h;obtain⟨f,h,_⟩:=h;simp[fX e a h]|.tmp _::as,u,r,a,h=>by simp only[zA,yW,yx,pP,map_eq_some_iff]at h;obtain⟨f,h,_⟩:=h;simp[fX e a h]|.fc i::as,u,r,a,h=>by
   rw[pP]at h;have hi:i≠k:=by rintro rfl;rw[e]at h;simp[a]at h
   have:Arg.fc k∉as:=by
    split at h;.obtain⟨f,h,_⟩:=map_eq_some_iff.mp h;exact fX e a h
    . split at h;.cases h
      .obtain⟨f,h,_⟩:=map_eq_some_iff.mp h;exact fX e (by simp[a]) h
    . split at h;.cases h
      .obtain⟨f,h,_⟩:=map_eq_some_iff.mp h;exact fX e (by simp[a]) h
    .cases h
   simp[this];exact λz=>hi z.symm
theorem fV{ρ:List Sl}:∀{as:List Arg}{u:List Nat}{r:List Sl},bQ ρ as u=some r->Rg ρ as
 |[],_,_,_=>trivial|.dat _::as,u,r,h=>by obtain⟨a,h,_⟩:=map_eq_some_iff.mp h;exact fV (as:=as) h|.tmp _::as,u,r,h=>by obtain⟨a,h,_⟩:=map_eq_some_iff.mp h;exact fV (as:=as) h|.fc i::as,u,r,h=>by
   rw[pP]at h;split at h;.rename_i b d q;obtain⟨a,h,_⟩:=map_eq_some_iff.mp h;exact⟨λ_ t ht=>by rw[q]at ht;cases ht;exact λx=>Ef,fV h⟩
   . rename_i b ds q;split at h;.cases h
     .obtain⟨a,h,_⟩:=map_eq_some_iff.mp h;exact⟨λe=>absurd e (fX q (by simp) h),fV h⟩
   . rename_i ds q;split at h;.cases h
     .obtain⟨a,h,_⟩:=map_eq_some_iff.mp h;exact⟨λ_ t ht=>by rw[q]at ht;cases ht;exact λx=>yQ,fV h⟩
   .cases h
theorem Yg{as:List Arg}{ss r:List Sl}{u:List Nat}(h:bQ ρ as u=some r):dR as ss 0 ρ=bk as ss ρ:=by apply List.ext_getElem?;intro j;rw[wj,Ab (fV h),Nat.zero_add]
@[simp]theorem VN{c:Call}{k:Nat}{as:List Arg}{ρ:List Sl}:p7 c k as ρ=match bQ ρ as []with|none=>.stuck|some args=>(c k args).bind λr a=>.ok r (bk as a ρ):=by unfold p7;cases e:bQ ρ as []with|none=>rfl|some args=>simp only[<-Yg (r:=args) e];cases c k args<;>rfl
theorem bH{one:Bool}{a:P}(J:List Sl->Prop)(g:D->D){Q:List D->List Sl->Prop}(j:J ρ)(h:∀d,d∈ds->∀ρ,J ρ->∃b,cP ρ is one d=some b/\(ev c a b).sat λr e=>g d=r.d/\J e)(k:∀ρ,J ρ->Q (ds.map g) ρ):(qN c is one none a ds ρ).sat Q:=yH J g j h k
theorem U8{one:Bool}{i t:P}(J:List Sl->Prop)(g:D->Option D){Q:List D->List Sl->Prop}(j:J ρ)(h:∀d,d∈ds->∀ρ,J ρ->∃a,cP ρ is one d=some a/\(ev c t a).sat λr f=>∃b,r.d=.bl b/\if b=true then(ev c i f).sat λr l=>g d=some r.d/\J l else g d=none/\J f)(k:∀ρ,J ρ->Q (ds.filterMap g) ρ):(qN c is one (some t) i ds ρ).sat Q:=jH J g j (λd hd ρ j=>by obtain⟨a,e,h1⟩:=h d hd ρ j;refine⟨a,e,?_⟩;rw[vU,jM,cA];refine h1.imp λr f⟨b,e,q⟩=>?_;rw[e];exact q) λρ j=>by simpa using k ρ j
theorem jo{c:Call}{n:Nat}{t:P}{body:List S}(J:Nat->List Sl->Prop){Q:Fl->List Sl->Prop}(h:∀m ρ,J m ρ->(ev c t ρ).sat λr a=>∃b,r.d=.bl b/\if b=true then(iu c n body a).sat (fQ (λf=>∃g,g<m/\J g f) Q)else Q .next a):∀{k m:Nat}{ρ:List Sl},m<k->J m ρ->(JC c n t body k ρ).sat Q|0,m,ρ,i,_=>absurd i (Nat.not_lt_zero _)|k+1,m,ρ,i,j=>by unfold JC;rw[IK,cA,jM,cA];refine(h m ρ j).imp λr a⟨b,e,q⟩=>?_;rw[e];show(if b=true then _ else _:Res Fl).sat Q;cases b with|false=>rw[if_neg (by simp)]at q;rw[if_neg (by simp)];exact q|true=>rw[if_pos rfl]at q;rw[if_pos rfl,cA];refine q.imp λfl f q=>?_;cases fl with|next=>obtain⟨g,l,o⟩:=q;exact jo J h (lt_of_lt_of_le l (Nat.lt_succ_iff.mp i)) o|cont=>obtain⟨g,l,o⟩:=q;exact jo J h (lt_of_lt_of_le l (Nat.lt_succ_iff.mp i)) o|brk=>exact q|ret v=>exact q
@[simp]theorem aez:type_of%@HH.E1:=@HH.E1
@[simp]theorem aeX:type_of%@HH.E2:=@HH.E2
@[simp]theorem aeG:type_of%@HH.E3:=@HH.E3
@[simp]theorem ae0:type_of%@HH.E4:=@HH.E4
@[simp]theorem ae6:type_of%@HH.E5:=@HH.E5
@[simp]theorem aeA:type_of%@HH.E6:=@HH.E6
@[simp]theorem aeL:type_of%@HH.E7:=@HH.E7
@[simp]theorem aeO:type_of%@HH.E8:=@HH.E8
@[simp]theorem adJ:type_of%@HH.E9:=@HH.E9
@[simp]theorem abH:type_of%@HH.E10:=@HH.E10
@[simp]theorem adu:type_of%@HH.E11:=@HH.E11
@[simp]theorem acJ:type_of%@HH.E12:=@HH.E12
@[simp]theorem acZ:type_of%@HH.E13:=@HH.E13
@[simp]theorem abS:type_of%@HH.E14:=@HH.E14
@[simp]theorem acY:type_of%@HH.E15:=@HH.E15
@[simp]theorem acE:type_of%@HH.E16:=@HH.E16
@[simp]theorem ab7:type_of%@HH.E17:=@HH.E17
@[simp]theorem aal:type_of%@HH.Xb:=@HH.Xb
@[simp]theorem abD:type_of%@HH.E18:=@HH.E18
@[simp]theorem ac7:type_of%@HH.E19:=@HH.E19
@[simp]theorem acj:type_of%@HH.E20:=@HH.E20
@[simp]theorem aeU:type_of%@HH.X1:=@HH.X1
@[simp]theorem ae9:type_of%@HH.X2:=@HH.X2
@[simp]theorem ae8:type_of%@HH.X3:=@HH.X3
@[simp]theorem ae5:type_of%@HH.X4:=@HH.X4
@[simp]theorem aeW:type_of%@HH.X5:=@HH.X5
@[simp]theorem aeD:type_of%@HH.X6:=@HH.X6
@[simp]theorem afc:type_of%@HH.X7:=@HH.X7
@[simp]theorem aeI:type_of%@HH.X8:=@HH.X8
@[simp]theorem ab1:type_of%@HH.X9:=@HH.X9
@[simp]theorem adf:type_of%@HH.X10:=@HH.X10
@[simp]theorem ab2:type_of%@HH.X11:=@HH.X11
@[simp]theorem abI:type_of%@HH.ZM:=@HH.ZM
@[simp]theorem adK:type_of%@HH.X13:=@HH.X13
@[simp]theorem ac2:type_of%@HH.jM.eq_1:=@HH.jM.eq_1
@[simp]theorem ab6:type_of%@HH.evs.eq_1:=@HH.evs.eq_1
@[simp]theorem ac6:type_of%@HH.evs.eq_2:=@HH.evs.eq_2
@[simp]theorem adi:type_of%@HH.zL.eq_1:=@HH.zL.eq_1
@[simp]theorem acW:type_of%@HH.zL.eq_2:=@HH.zL.eq_2
@[simp]theorem ac1:type_of%@HH.vU.eq_1:=@HH.vU.eq_1
@[simp]theorem adl:type_of%@HH.vU.eq_2:=@HH.vU.eq_2
@[simp]theorem abp:type_of%@HH.o8.eq_1:=@HH.o8.eq_1
@[simp]theorem WT:type_of%@HH.bQ.eq_1:=@HH.bQ.eq_1
@[simp]theorem Xe:type_of%@HH.bQ.eq_2:=@HH.bQ.eq_2
@[simp]theorem YG:type_of%@HH.bQ.eq_3:=@HH.bQ.eq_3
@[simp]theorem W7:type_of%@HH.bQ.eq_4:=@HH.bQ.eq_4
@[simp]theorem YB:type_of%@HH.dR.eq_1:=@HH.dR.eq_1
@[simp]theorem Yo:type_of%@HH.dR.eq_2:=@HH.dR.eq_2
@[simp]theorem W2:type_of%@HH.aR.eq_1:=@HH.aR.eq_1
@[simp]theorem Wz:type_of%@HH.aR.eq_2:=@HH.aR.eq_2
@[simp]theorem YH:type_of%@HH.aR.eq_3:=@HH.aR.eq_3
@[simp]theorem Xc:type_of%@HH.aR.eq_4:=@HH.aR.eq_4
end HH
end
section
namespace HH
open PySem L2 PySem.Spec PyProof.Rows
variable{H:Hp}
section
variable{X:Cx}{c:Call}{a b:Expr}{pa pb:P}{pos:Pos}
theorem mF:∀{e:List D}{ns:List Int},e.mapM gF=some ns->e=ns.map D.int|[],ns,h=>by simp at h;subst h;rfl|d::e,ns,h=>by simp[List.mapM_cons,Option.bind_eq_some_iff]at h;obtain⟨i,f,j,g,rfl⟩:=h;rw[cJ f,mF g];rfl
theorem ik{K:PySem.W.Frag}{F:Hp}:∀{ns:List Int}{ys:List V},aF K F ys (ns.map D.int)->ys=ns.map V.int|[],ys,h=>by rw[h.fL];rfl|n::ns,ys,h=>by obtain⟨v,r,rfl,h1,t⟩:=h.cM;rw[Rep]at h1;rw[h1,ik t];rfl
theorem lV{ns:List Int}{us:List Value}(h:Vals (ns.map V.int) us){i:Nat}{v:Value}(e:us.toArray[i]?=some v):∃t,v=.int (ns.getD i 0) t:=by
 have e:us[i]?=some v:=by simpa using e
 have hi:i<us.length:=(eG e).1;have j:=h.length;rw[length_map]at j;have g:(ns.map V.int)[i]?=some (.int (ns.getD i 0)):=by rw[getElem?_map,getElem?_eq_getElem (by omega)];simp[List.getD,show i<ns.length by omega]
 obtain⟨w,f,k⟩:=h.get g;rw[e]at f;cases f;exact k
theorem walked{g:List (Addr×Obj)}{σ:L2.St}{s:Shared}{p:Addr}{ys:List V}(I:L2.Inv X g σ H s)(hc:X.calm=true)(hq:fP X.K H p ys\/jO X.K H p ys){Q:Value->Shared->Prop}{E:Value->Shared->Prop}(k:∀(it:Addr)(us:List Value)(e:Shared)(St:Nat->Heap->Prop),Vals ys us->Walks X.prog X.w X.A.in1 it [it,p] [it] us.toArray.size (λi v=>us.toArray[i]?=some v) St->St 0 e.heap->(∀ b ∈[it,p],b<e.heap.objs.size)->(∀h' tk,(∀b o,b∉[it]->e.heap.get? b=some o->h'.get? b=some o)->L2.Inv X g σ H {e with heap:=h',toks:=tk})->Q (.ref it) e):wpAny (model X.prog X.w) X.A.in1 (pyIter (.ref p)) Q E s:=by
 have n:X.A.in1.handled=none:=I.ok.hd hc;rcases hq with hq|hq
 . obtain⟨us,l,f,hz⟩:=I.list hq;have f:=f.isList;have h:p<s.heap.objs.size:=by obtain⟨o,h1,_⟩:=f;exact lt_size h1
   refine wpAny_pyIter_list f (k s.heap.objs.size us _ _ l (Walks.list n s.heap.objs.size p (ne_of_lt h) us.toArray) ⟨⟨_,get?_push_size _ rfl,rfl,rfl⟩,?_⟩ ?_ λh' tk kp=>?_);.obtain⟨o,h1,m⟩:=f;exact⟨o,fJ h1,m⟩
   . intro b j;obtain⟨o,h1,_⟩:=f;simp at j;rcases j with rfl|rfl;.exact lt_size (get?_push_size _ rfl)
     .exact lt_size (fJ h1)
   .exact I.kept (λb o z=>kp b o (by simp;exact ne_of_lt (lt_size z)) (fJ z))
 . obtain⟨us,l,f,hz⟩:=I.tuple hq;have h:p<s.heap.objs.size:=by obtain⟨o,h1,_⟩:=f;exact lt_size h1
   refine wpAny_pyIter_tuple f (k s.heap.objs.size us _ _ l (Walks.tuple n s.heap.objs.size p (ne_of_lt h) us.toArray) ⟨⟨_,get?_push_size _ rfl,rfl,rfl⟩,?_⟩ ?_ λh' tk kp=>?_);.obtain⟨o,h1,m⟩:=f;exact⟨o,fJ h1,m⟩
   . intro b j;obtain⟨o,h1,_⟩:=f;simp at j;rcases j with rfl|rfl;.exact lt_size (get?_push_size _ rfl)
     .exact lt_size (fJ h1)
   .exact I.kept (λb o z=>kp b o (by simp;exact ne_of_lt (lt_size z)) (fJ z))
theorem nR(ns:List Int):∀k,k<=ns.length->preSum (λi=>ns.getD i 0) k=(ns.take k).sum|0,_=>by simp[preSum]|k+1,h=>by rw[preSum,nR ns k (by omega),List.take_succ,List.sum_append];simp[List.getD,show k<ns.length by omega]
theorem Ye(hc:X.calm=true):fG X (.builtin "sum") (O3 X.K λx=>blt .sum [x]):=by
 rintro g s σ H xs us Q I r⟨x,m,F,d,n,sm,o,he,k⟩;obtain⟨ns,q,he⟩:=map_some (show((items d).bind λh=>h.mapM gF).map _=some n from he);subst he;obtain⟨h,t,w⟩:=bV q;obtain⟨p,ys,rfl,y,rs⟩:=o.items sm t;rw[mF w]at rs;have z:=ik rs;subst m;obtain⟨u,rfl,A⟩:=r.one;cases A;refine call_sum_walkG (walked I hc y λit us j St l W h0 B kp=>?_);subst z;have f:us.toArray.size=ns.length:=by rw[size_toArray,<-l.length,length_map]
 refine⟨it,_,_,_,_,St,λi=>ns.getD i 0,rfl,W,h0,B,λi v e=>lV l e,λh' tk t' C=>?_⟩;rw[f,nR ns _ (cO),List.take_length];exact⟨.int _,H,kp h' tk C,⟨t',rfl⟩,bY.cV sm (bN _) k⟩
theorem Jz{ns:List Int}{m:Int}(k:ns.min?=some m):ns.getD (argBest (λi j=>decide (ns.getD i 0<ns.getD j 0)) (ns.length-1)) 0=m:=by
 have h:ns≠[]:=by rintro rfl;simp at k
 have r:0<ns.length:=List.length_pos_iff.mpr h;obtain⟨h1,n⟩:=argBest_lt (λi=>ns.getD i 0) (ns.length-1);have l:=List.min?_eq_some_iff.mp k;generalize argBest (λi j=>decide (ns.getD i 0<ns.getD j 0)) (ns.length-1)=j at*;have o:j<ns.length:=by omega
 have f:ns.getD j 0∈ns:=by simp[List.getD,o]
 obtain⟨q,p,e⟩:=List.getElem_of_mem l.1;have g:=n q (by omega);simp only[List.getD,getElem?_eq_getElem p,getD_some]at g;rw[e]at g;have s:=l.2 _ f;have g:ns.getD j 0<=m:=g;omega
theorem Ib{ns:List Int}{m:Int}(k:ns.max?=some m):ns.getD (argBest (λi j=>decide (ns.getD i 0>ns.getD j 0)) (ns.length-1)) 0=m:=by
 have h:ns≠[]:=by rintro rfl;simp at k
 have r:0<ns.length:=List.length_pos_iff.mpr h;obtain⟨h1,n⟩:=argBest_gt (λi=>ns.getD i 0) (ns.length-1);have l:=List.max?_eq_some_iff.mp k;generalize argBest (λi j=>decide (ns.getD i 0>ns.getD j 0)) (ns.length-1)=j at*;have o:j<ns.length:=by omega
 have f:ns.getD j 0∈ns:=by simp[List.getD,o]
 obtain⟨q,p,e⟩:=List.getElem_of_mem l.1;have g:=n q (by omega);simp only[List.getD,getElem?_eq_getElem p,getD_some]at g;rw[e]at g;have s:=l.2 _ f;have g:m<=ns.getD j 0:=g;omega
theorem QL(hc:X.calm=true):fG X (.builtin "min") (O3 X.K λx=>blt .JH [x]):=by
 rintro j s σ H xs us Q I r⟨x,w,F,d,y,sm,z,he,k⟩;obtain⟨ns,A,he⟩:=bV (show((items d).bind λl=>l.mapM gF).bind _=some y from he);obtain⟨m,n,he⟩:=map_some he;subst he;obtain⟨l,B,C⟩:=bV A;obtain⟨p,ys,rfl,E,rs⟩:=z.items sm B;rw[mF C]at rs;have G:=ik rs;subst w;obtain⟨u,rfl,J⟩:=r.one;cases J;refine call_min_walk (walked I hc E λit us o St h W h0 L kp=>?_);subst G;have f:us.toArray.size=ns.length:=by rw[size_toArray,<-h.length,length_map]
 have g:0<ns.length:=by cases ns with|nil=>simp at n|cons _ _=>simp
 refine⟨it,_,_,_,_,St,_,rfl,W,h0,L,by rw[f];exact g,CmpOf.ints_lt (λi=>ns.getD i 0) (λi v e=>lV h e),λv h' tk q M=>?_⟩;rw[f]at q;obtain⟨t,rfl⟩:=lV h q;rw[Jz n];exact⟨.int _,H,kp h' tk M,⟨t,rfl⟩,bY.cV sm (bN _) k⟩
theorem boot_sum:bootBuiltins "sum"=some (.builtin "sum"):=by decide+kernel
theorem uC{x:Str}{e:Pos}(f:x="sum")(hc:X.calm=true)(g:Gl X x)(i:X.mg x=none)(j:SX X c a pa)(hs:starEach [a] X.env=(false,eval a X.env)::starEach [] X.env:=by rfl):SX X c (.Call (.Name x e) [a] [] pos) (.blt .sum [pa]):=by subst f;exact qO (λh=>gb (Ye hc) g i boot_sum h (he:=hs)) j (λρ=>rfl) rfl hs
theorem Li{x:Str}{e:Pos}(f:x="min")(hc:X.calm=true)(g:Gl X x)(i:X.mg x=none)(j:SX X c a pa)(hs:starEach [a] X.env=(false,eval a X.env)::starEach [] X.env:=by rfl):SX X c (.Call (.Name x e) [a] [] pos) (.blt .JH [pa]):=by subst f;exact qO (λh=>gb (QL hc) g i boot_min h (he:=hs)) j (λρ=>rfl) rfl hs
theorem GC{K:PySem.W.Frag}{F H:Hp}{v:V}{d:D}(h:dD K F H v d)(f:flat d=true):jW v=true:=by cases d with|non=>rw[h.non];rfl|bl _=>rw[h.bl];rfl|int _=>rw[h.int];rfl|str _=>rw[h.str];rfl|tup _=>cases f|lst _=>cases f|dq _=>cases f|dv _ _=>cases f
theorem abO{K:PySem.W.Frag}{F H:Hp}{v u:V}{d e:D}(h:dD K F H v d)(h':dD K F H u e)(f:flat d=true)(g:flat e=true):MN v u=jg d e:=by cases d with
 |tup _=>cases f|lst _=>cases f|dq _=>cases f|dv _ _=>cases f|non=>rw[h.non];cases e with|tup _=>cases g|lst _=>cases g|dq _=>cases g|dv _ _=>cases g|non=>rw[h'.non];rfl|bl _=>rw[h'.bl];rfl|int _=>rw[h'.int];rfl|str _=>rw[h'.str];rfl
 |bl _=>rw[h.bl];cases e with|tup _=>cases g|lst _=>cases g|dq _=>cases g|dv _ _=>cases g|non=>rw[h'.non];rfl|bl _=>rw[h'.bl];rfl|int _=>rw[h'.int];rfl|str _=>rw[h'.str];rfl
 |int _=>rw[h.int];cases e with|tup _=>cases g|lst _=>cases g|dq _=>cases g|dv _ _=>cases g|non=>rw[h'.non];rfl|bl _=>rw[h'.bl];rfl|int _=>rw[h'.int];rfl|str _=>rw[h'.str];rfl
 |str _=>rw[h.str];cases e with|tup _=>cases g|lst _=>cases g|dq _=>cases g|dv _ _=>cases g|non=>rw[h'.non];rfl|bl _=>rw[h'.bl];rfl|int _=>rw[h'.int];rfl|str _=>rw[h'.str];rfl
theorem XX{K:PySem.W.Frag}{F H:Hp}{v:V}{d:D}(h:dD K F H v d)(f:flat d=true):∀{i:List D}{vs:List V},aF K F vs i->i.all flat=true->vs.all jW=true/\inV v vs=i.any λy=>jg y d|[],vs,r,_=>by rw[r.fL];exact⟨rfl,rfl⟩|e::i,vs,r,g=>by obtain⟨w,ws,rfl,h1,t⟩:=r.cM;rw[all_cons,and_eq_true]at g;obtain⟨k,j⟩:=XX h f t g.2;have q:dD K F H w e:=.inl h1;refine⟨by rw[all_cons,GC q g.1,k];rfl,?_⟩;unfold inV at j ⊢;rw[any_cons,any_cons,j,abO q h g.1 f]
theorem DQ:fW X (compareOp .NotIn) (rD X.K (o8 .Cr)):=by rintro f s σ H x y v u Q I i j⟨F,d,e,r,sm,h,l,he,k⟩;obtain⟨t,m,n⟩:=map_some (show(Gv true d e).map _=some r from he);subst n;obtain⟨C,o,q⟩:=bV m;obtain⟨g,w⟩:=aU q;rw[and_eq_true]at g;obtain⟨p,xs,rfl,z,rs⟩:=l.items sm o;obtain⟨A,B⟩:=XX h g.1 rs g.2;subst w;refine vG f s σ H x _ v u Q I i j ⟨p,xs,rfl,z,GC h g.1,A,?_⟩;rw[B];exact bY.cV sm (jT _) k
end
end HH
end
section
namespace HH
open PySem
section
variable{i j:Int}{ds es:List D}{d:D}{b b':Bool}
@[simp]theorem ZK:rM .shl=Jk:=rfl
@[simp]theorem aao:rM .shr=Jq:=rfl
@[simp]theorem Yp:rM .band=yS:=rfl
@[simp]theorem Vc:Jk (.int i) (.int j)=if 0<=j/\j<=1000/\i.natAbs<18446744073709551616 then some (.val (.int (i*2^j.toNat)))else none:=rfl
@[simp]theorem Wa:Jq (.int i) (.int j)=if 0<=j then some (.val (.int (i/2^j.toNat)))else none:=rfl
@[simp]theorem R5:yS (.int i) (.int j)=some (.val (.int (Builtin.bitAnd i j))):=rfl
@[simp]theorem We:jA (.lst ds) (.int i)=if 0<=i/\0<ds.length/\ds.length*i.toNat<=lim then some (.own (replicate i.toNat ds).flatten)else none:=rfl
@[simp]theorem Wf:jA (.tup ds) (.int i)=if 0<=i/\0<ds.length/\ds.length*i.toNat<=lim then some (.val (.tup (replicate i.toNat ds).flatten))else none:=rfl
@[simp]theorem adb:cm .isT (.bl b) (.bl true)=some b:=rfl
@[simp]theorem ZS:cm .Y9 (.bl b) (.bl true)=some (!b):=rfl
@[simp]theorem Z6:blt .sum [.lst ds]=(ds.mapM gF).map λns=>.val (.int ns.sum):=rfl
@[simp]theorem W5:blt .JH [.lst ds]=(ds.mapM gF).bind λns=>ns.min?.map λi=>.val (.int i):=rfl
end
@[simp]theorem adB:type_of%@HH.X15:=@HH.X15
@[simp]theorem abR:type_of%@HH.X16:=@HH.X16
@[simp]theorem adk:type_of%@HH.X17:=@HH.X17
theorem fH{ns:List Int}:(ns.map D.int).mapM gF=some ns:=by induction ns with|nil=>rfl|cons n ns a=>simp[a]
@[simp]theorem Vl{ns:List Int}:ns.mapM (gF ∘ D.int)=some ns:=by rw[<-fH (ns:=ns),List.mapM_map]
@[simp]theorem Yc{bs:List Bool}:bs.mapM (Wd ∘ D.bl)=some bs:=by induction bs with|nil=>rfl|cons b bs a=>simp[a]
theorem MJ{S:List Int}{i:Int}:((S.map D.int).any λy=>jg y (.int i))=S.contains i:=by induction S with|nil=>rfl|cons s S a=>rw[map_cons,any_cons,List.contains_cons,a,pqi];rw[show(s==i)=(i==s)from Bool.eq_iff_iff.mpr ⟨λh=>by simp at h ⊢;exact h.symm,λh=>by simp at h ⊢;exact h.symm⟩]
theorem HB{S:List Int}:(S.map D.int).all flat=true:=by rw[all_eq_true];intro d hd;obtain⟨i,_,rfl⟩:=mem_map.mp hd;rfl
theorem Dh{S:List Int}{i:Int}:cm .Cr (.int i) (.tup (S.map D.int))=some (!S.contains i):=by show Gv true _ _=_;unfold Gv;simp only[Dq,bind_some,HX,HB,Bool.and_true,MJ];rfl
theorem oY{n:Nat}{S:List Int}:gP (n+1) (.lst (S.map D.int))=true:=by rw[bC,all_eq_true];intro d hd;obtain⟨i,_,rfl⟩:=mem_map.mp hd;cases n<;>rfl
theorem pX:∀{S T:List Int},jb (S.map D.int) (T.map D.int)=(S==T)|[],[]=>by simp[kE,iH,qL,ql]|[],_::_=>by simp[kE,iH,qL,ql]|_::_,[]=>by simp[kE,iH,qL,ql]|s::S,t::T=>by rw[map_cons,map_cons,iH,pX,pqi];rfl
theorem aaA{S T:List Int}:cm .eq (.lst (S.map D.int)) (.lst (T.map D.int))=some (S==T):=by show uJ _ _=_;unfold uJ;rw[oY,oY,ZC,pX];rfl
theorem aap{S T:List Int}:cm .ne (.lst (S.map D.int)) (.lst (T.map D.int))=some (!(S==T)):=by show yV _ _=_;unfold yV;rw[oY,oY,ZC,pX];rfl
theorem dX{a:Type}{l:List a}{f:a->D}{k:Nat}{x:a}(h:l[k]?=some x):at' (l.map f) (k:Int)=some (f x):=by have b:=(eG h).1;rw[Hk (by simpa using b),getElem?_map,h];rfl
theorem G8{n k:Nat}(h:k<n):iW n (k:Int)=some k:=by unfold iW;rw[if_pos (by omega),if_pos (by omega)];simp
theorem qp{is:List Nat}{one:Bool}{body:List Sl->Res Fl}{g:Nat->D}{N:Nat}(J:Nat->List Sl->Prop){Q:Fl->List Sl->Prop}(c:∀i ρ,i<N->J i ρ->∃a,cP ρ is one (g i)=some a/\(body a).sat (fQ (J (i+1)) Q))(f:∀ρ,J N ρ->Q .next ρ){ρ:List Sl}(h0:J 0 ρ):(iw is one body ((List.range N).map g) ρ).sat Q:=by
 refine cL (λr ρ=>∃i,i<=N/\r=((List.range N).map g).drop i/\J i ρ) ?_ ?_ ⟨0,n8,rfl,h0⟩
 . rintro d r ρ⟨i,hi,e,j⟩;have b:i<N:=by
    rcases Nat.lt_or_ge i N with h|h;.exact h
    .rw[List.drop_eq_nil_of_le (by simpa using h)]at e;cases e
   rw[drop_eq_getElem_cons (by simpa using b)]at e;injection e with e1 e2;simp at e1;subst e1;obtain⟨a,h1,k⟩:=c i ρ b j;refine⟨a,h1,k.imp λfl l q=>?_⟩;cases fl with|next=>exact⟨i+1,b,e2,q⟩|cont=>exact⟨i+1,b,e2,q⟩|brk=>exact q|ret v=>exact q
 . rintro ρ⟨i,hi,e,j⟩;have:i=N:=by have m:=congrArg List.length e;simp at m;omega
   subst this;exact f ρ j
inductive A3(a b c:Prop):Prop where|mk(ha:a)(hb:b)(hc:c)
inductive A4(a b c d:Prop):Prop where|mk(ha:a)(hb:b)(hc:c)(hd:d)
inductive A5(a b c d e:Prop):Prop where|mk(ha:a)(hb:b)(hc:c)(hd:d)(he:e)
inductive A6(a b c d e f:Prop):Prop where|mk(ha:a)(hb:b)(hc:c)(hd:d)(he:e)(hf:f)
inductive A7(a b c d e f g:Prop):Prop where|mk(ha:a)(hb:b)(hc:c)(hd:d)(he:e)(hf:f)(hg:g)
inductive A8(a b c d e f g h:Prop):Prop where|mk(ha:a)(hb:b)(hc:c)(hd:d)(he:e)(hf:f)(hg:g)(hh:h)
inductive A9(a b c d e f g h i:Prop):Prop where|mk(ha:a)(hb:b)(hc:c)(hd:d)(he:e)(hf:f)(hg:g)(hh:h)(hi:i)
end HH
end
section
namespace HH
open PySem L2 PySem.Spec PyProof.Rows
section
variable{prog:Program}{w:World}{A:Around}{E:Value->Shared->Prop}{s:Shared}
theorem yD{id:String}{f:Builtin}{xs:List Value}{b:List (Str×Value)}{Q:Value->Shared->Prop}(h1:builtinKind id=none)(c:plainId id=true)(i:entryFor table id=some f)(j:argsOk id ⟨xs,b⟩)(h:wpAny (model prog w) A.in1 (f ⟨xs,b⟩) (λfin a=>match fin with|.done z=>(match(Except.ok z:Result)with|.ok (.ret v)=>Q v a|.ok _=>False|.error y=>E y a)|.again z=>z.quiet=true/\codeAny (model prog w) A z (λr a=>match r with|.ok (.ret v)=>Q v a|.ok _=>False|.error y=>E y a) a) E s):wpAny (model prog w) A (call (.builtin id) xs b) Q E s:=by refine wpAny_call (codeAny_call_builtin c i ?_);simp only[checkBuiltinCall,h1];cases e:Manifest.signature? id with|none=>exact wpAny_pure h|some g=>(have k:Bind.checkArgs id g ⟨xs,b⟩=pure ():=by simpa only[argsOk,e]using j);simp only[k];exact wpAny_pure h
end
end HH
end
section
namespace HT
open PySem PySem.Spec PyProof.Rows
section
variable{prog:Program}{w:World}{A:Around}{E:Value->Shared->Prop}{s:Shared}
theorem xV{t sl:Addr}{a:Array Value}{f g:Value}{lo hi:Option Int}{Q:Value->Shared->Prop}(ht:IsTup s.heap t a)(hs:s.heap.IsSliceOf sl f g .none)(i:IsPart f lo)(j:IsPart g hi)(h1:du a.size 0 lo=0)(k:du a.size a.size hi=a.size)(h:Q (.ref t) s):wpAny (model prog w) A (getItem (.ref t) (.ref sl)) Q E s:=by
 obtain⟨os,b,c,l⟩:=id hs;have m:s.TypeIs (.ref sl) "slice":=⟨os,b,c⟩;unfold getItem;try with_reducible refine wpAny_holding ?_
 first|refine wpAny_bind (wpAny_pure ?_)|skip
 refine wpAny_bind (wpAny_sequenceKey ht.typeIs (by decide) (wpAny_bind (wpAny_callSpecial?_slot (name:=Str.ofString "__getitem__") ht.typeIs slot_tuple_getitem (wpAny_call_entry slot_tuple_getitem ht.typeIs entry_tuple_getitem ?_ (args_tuple_getitem _ _)))));show wpAny _ _ (tupleItemsOf (.ref t)>>=_) _ _ s;refine wpAny_bind (tupleItemsOf_ ht (wpAny_bind (wpAny_typeOf m ?_)));rw[if_pos (by decide)];refine wpAny_bind (gR hs i j ?_);have e:((((du a.size 0 lo:Nat):Int)==0&&(1:Int)==1&&(du a.size a.size hi-du a.size 0 lo)==a.size)=true):=by rw[h1,k];simp
 show wpAny _ _ (if(((du a.size 0 lo:Nat):Int)==0&&(1:Int)==1&&(du a.size a.size hi-du a.size 0 lo)==a.size)=true then _ else _) _ _ s;rw[if_pos e];unfold Builtin.Tuple.tupleIsExact;refine wpAny_bind (wpAny_bind (wpAny_typeOf ht.typeIs (wpAny_pure ?_)));rw[if_pos (by decide)];exact wpAny_bind (wpAny_rule (wpAny_pure ⟨_,rfl,wpAny_pure h⟩))
end
end HT
namespace HH
open PySem L2 PySem.Spec PyProof.Rows
noncomputable def nst:Expr->Bool|.Starred _ _=>false|_=>true
theorem iQ{e:Expr}{es:List Expr}{env:Env}(h:nst e=true):starEach (e::es) env=(false,eval e env)::starEach es env:=by cases e with|Starred a b=>cases h|_=>rw[starEach];(intro e p z;cases z)
noncomputable def pH:List Int->List Expr->Option (List Expr)|[],es=>some es|i::is,.Constant (.int j) _ _::es=>if i=j then pH is es else none|_,_=>none
theorem vI{X:L2.Cx}{c:Call}:∀(is:List Int){es a:List Expr}{b:List P},pH is es=some a->SA X c a b->SA X c es (is.map (λi=>P.con (.int i))++b)|[],es,a,b,h,r=>by cases h;exact r|i::is,[],a,b,h,r=>by cases h|i::is,e::es,a,b,h,r=>by cases e with
   |Constant v k p=>cases v with
     |int j=>
       replace h:(if i=j then pH is es else none)=some a:=h;split at h;.rename_i f;subst f;exact An aa (vI is h r) (iQ rfl)
       .cases h|_=>cases h
   |_=>cases h
theorem vD{n d:Nat}{o:Option Int}:HT.du n d o=HH.du n d o:=by cases o with|none=>rfl|some v=>
   show(if v<0 then(v+(n:Int)).toNat else min v.toNat n)=(if 0<=v then min v.toNat n else(v+n).toNat);by_cases h:0<=v;.rw[if_pos h,if_neg (by omega)]
   .rw[if_neg h,if_pos (by omega)]
theorem Ia{xs:List V}{lo hi:Option Int}:wX xs lo hi=HH.cut xs lo hi:=by unfold wX HH.cut;rw[vD,vD]
theorem aF.cut{K:PySem.W.Frag}{F:Hp}{a:List D}{vs:List V}{lo hi:Option Int}(h:aF K F vs a):aF K F (HH.cut vs lo hi) (HH.cut a lo hi):=by unfold HH.cut;rw[h.length];exact(h.drop _).take _
section
variable{X:Cx}{c:Call}{n:Nat}{e a b:Expr}{p pa pb pl ph:P}{pos p2:Pos}{lo hi:Option Expr}
def ac4(K:PySem.W.Frag):V->Option Int->Option Int->Hp->VK->Prop:=λx lo hi H Q=>∃F d r,aH F H/\dD K F H x d/\Mh d (some lo) (some hi)=some r/\∀v g f,Ext F H g f->bY K g f H v r->Q v f
theorem Yt:SlR X (ac4 X.K):=by rintro f s σ H x v t u lo hi sl Q I j hs pl l⟨F,d,r,sm,w,he,k⟩;cases d with|lst m=>cases he;obtain⟨a,xs,rfl,i,rs⟩:=w.lst sm;refine Ks f s σ H _ v t u lo hi sl Q I j hs pl l ⟨a,xs,rfl,i,λp o=>?_⟩;rw[Ia];exact uL sm rs.cut o k|tup m=>
   cases he;obtain⟨a,xs,rfl,i,rs,rt⟩:=w.tup sm;by_cases h:HT.du xs.length 0 lo=0/\HT.du xs.length xs.length hi=xs.length
   . cases j;obtain⟨q,y,ht,hz⟩:=I.tuple i;have g:q.toArray.size=xs.length:=by rw[size_toArray];exact y.length.symm
     refine⟨"tuple",_,slot_tuple_getitem.lookup,ht.typeIs,HT.xV ht hs pl l (by rw[g];exact h.1) (by rw[g];exact h.2) ⟨.ref a,H,I,rfl,?_⟩⟩;have hc:HH.cut m lo hi=m:=by unfold HH.cut;rw[<-rs.length,<-vD,<-vD,h.1,h.2];simp[rs.length]
     rw[hc]at k;exact bY.cV sm rt k
   .refine Sh f s σ H _ v t u lo hi sl Q I j hs pl l ⟨a,xs,rfl,i,h,λp o=>?_⟩;rw[Ia];exact zx sm rs.cut o k|_=>cases he
def SO(X:Cx)(c:Call)(o:Option Expr)(p:P):Prop:=∃t,PO X o t/\∀{σ:L2.St}{H F:Hp}{ρ f:List Sl}{d:D}{i:Option Int}{Q:Option Int->Hp->Prop},GS X.K F ρ σ H->cH (isVar p) (HH.ev c p) ρ=.ok d f->part p d=some i->(∀h g,az X.K F ρ σ H h f σ g->Q i g)->t σ H Q
theorem o7:SO X c none (.con .non):=by refine⟨_,Kg,λ{σ H F ρ f d i Q}g e h k=>?_⟩;cases(show some none=some i from h);have j:(HH.ev c (.con .non) ρ).bind (λr ρ=>.ok r.d ρ)=.ok d f:=e;clear e;rw[HH.E2]at j;cases j;exact k F H (.refl g)
theorem pq(h:SX X c e p)(l:Qx p=false:=by rfl):SO X c (some e) p:=by obtain⟨t,h1,m⟩:=h.cH;refine⟨_,Ms h1,λ{σ H F ρ o d i Q}g e f k=>?_⟩;unfold part at f;rw[l,if_neg (by decide)]at f;obtain⟨j,q,r⟩:=map_some f;cases cJ q;subst r;exact m g e λv u w s x=>⟨j,x.int,k u w s⟩
theorem wy{d:D}{x y:Option (Option Int)}{r:R}(h:Mh d x y=some r):∃lo hi,x=some lo/\y=some hi:=by cases x with|none=>cases d<;>cases h|some lo=>cases y with|none=>cases d<;>cases h|some hi=>exact⟨lo,hi,rfl,rfl⟩
theorem lL(Y:SX X c a pa)(hl:SO X c lo pl)(hh:SO X c hi ph):SX X c (.Subscript a (.Slice lo hi none p2) pos) (.slice pa pl ph):=by obtain⟨tl,Z,l2⟩:=hl;obtain⟨th,h1,h2⟩:=hh;cases hv:isVar pa with|none=>refine⟨fu (wg Yt Y.ev Z h1) ?_,λi h=>by cases h⟩;rintro σ H Q⟨F,ρ,r,A,g,e,k⟩;rw[HH.E14,hv]at e;obtain⟨x,B,f,j⟩:=aj e;clear e;have Zf:(HH.ev c pa ρ).bind (λr ρ=>.ok r.d ρ)=.ok x B:=f;clear f;obtain⟨rx,ac,e1,C⟩:=aj Zf;clear Zf;cases C;obtain⟨y,E,G,l⟩:=aj j;clear j;obtain⟨z,I,J,m⟩:=aj l;clear l;obtain⟨e,L⟩:=aC m;clear m;subst L;obtain⟨M,N,o,q⟩:=wy e;rw[o,q]at e;refine⟨F,ρ,rx,_,g,e1,λv F1 H1 s1 rr=>?_⟩;obtain⟨F2,s2,_,rp⟩:=s1.dh rr;refine l2 s2.gs G o λF3 H3 s3=>h2 s3.gs J q λO H4 s4=>?_;have s5:=s2.trans (s3.trans s4);refine⟨O,_,r,s4.gs.sub,.inl ((rp.mono s3.cW).mono s4.cW),e,λv F5 U x W=>?_⟩;exact k v F5 U (s5.trans (x.stp s5.gs)) (.later s5 (W.mC s5.gs))|some i=>refine⟨fu (wg Yt (Y.var i hv) Z h1) ?_,λi h=>by cases h⟩;rintro σ H Q⟨F,ρ,r,A,g,e,k⟩;rw[HH.E14,hv]at e;obtain⟨x0,ae,s,j⟩:=aj e;clear e;obtain⟨C,zW⟩:=aC s;clear s;subst zW;obtain⟨y,E,G,l⟩:=aj j;clear j;obtain⟨z,I,J,m⟩:=aj l;clear l;obtain⟨x,af,t,ed⟩:=aj m;clear m;obtain⟨e5,e6⟩:=aC t;clear t;subst e6;obtain⟨e,L⟩:=aC ed;clear ed;subst L;obtain⟨M,N,o,q⟩:=wy e;rw[o,q]at e;obtain⟨v,u,_⟩:=g.pk C;refine⟨v,u,l2 g G o λF3 H3 s3=>h2 s3.gs J q λO H4 s4=>?_⟩;have s5:=s3.trans s4;obtain⟨v',w,pv⟩:=s5.gs.pk e5;rw[u]at w;cases w;refine⟨O,_,r,s4.gs.sub,pv,e,λv F5 U x W=>?_⟩;exact k v F5 U (s5.trans (x.stp s5.gs)) (.later s5 (W.mC s5.gs))
theorem TF{i:Nat}{x:Str}{t:Pos}{op:Operator}{sub:Bool}(ho:Oh X op (Vr λi j=>if sub then i-j else i+j))(w:X.N.Nodup)(hi:X.N[i]?=some x)(y:Loc X.env.scope x)(he:SX X c e p)(z:X.fn x=true\/X.env.scope.names.lookup x=some .local:=by first|exact .inl rfl|exact .inr rfl|assumption):SS X c n (.AugAssign (.Name x t) op e pos) (.aug i sub p):=by
 obtain⟨te,h1,A⟩:=he.cH;refine dM (RW w hi y h1 ho z) ?_;rintro D σ H⟨F,ρ,fl,B,g,e,k⟩;rw[HH.X15]at e;obtain⟨a0,C,f,s⟩:=aj e;clear e;obtain⟨E,G⟩:=aC f;clear f;subst G;obtain⟨b0,I,J,o⟩:=aj s;clear s;obtain⟨v,q,L⟩:=g.pk E;refine⟨v,q,A g J λu F1 M s1 O=>?_⟩;split at o;.rename_i h l;obtain⟨Q,U,m,W⟩:=aj o;clear o;cases W;obtain⟨Y,e3⟩:=aC m;clear m;have Z:Rep X.K F1 (.int (if sub then h-l else h+l)) (.int (if sub then h-l else h+l)):=bN _;exact⟨h,l,L.int,O.int,k F1 _ M (az.put (r:=.val (.int _)) s1 Z Y)⟩
 .cases o
theorem Lp:Oh X .Add (Vr λi j=>if false then i-j else i+j):=Rb
theorem KH:Oh X .Sub (Vr λi j=>if true then i-j else i+j):=Ri
theorem QD{x:Str}{k:Nat}{l h f:Pos}(E:X.N[k]?=some x)(G:vQ X.env.scope x)(he:SX X c e p)(i:(h.endLine==f.line)=true:=by rfl)(hs:starEach [e] X.env=(false,eval e X.env)::starEach [] X.env:=by rfl)(j:attributeBase (.Name x l) "extend" X.env (eval (.Name x l) X.env)=eval (.Name x l) X.env:=by rfl)(m:((backTo f (starEach [e] X.env)).all (λx=>!x.1)&&(backToKw f (keywordEach [] X.env)).all (λx=>x.1.isSome)&&decide ([e].length+([]:List Keyword).length+(if([]:List Keyword).isEmpty then 0 else 1)<30))=true:=by rfl)(t:swapsWith (.Call (.Attribute (.Name x l) "extend" h) [e] [] f) none pos.line X.env=pure false:=by rfl)(hd:(x==("__debug__":Str))=false:=by decide)(u:(x==("__classdict__":Str))=false:=by decide):SS X c n (.Expr (.Call (.Attribute (.Name x l) "extend" h) [e] [] f) pos) (.Np k p):=by
 refine dM (vg (Jr plainAttrs_list PySem.F.slot_list_extend PySem.F.type_list_extend Dl (eX E G hd u) (cu he.ev dY hs) j m i hs) t) ?_;rintro D σ H⟨F,ρ,fl,I,g,e,J⟩;rw[HH.X17]at e;obtain⟨d0,L,o,z⟩:=aj e;clear e;obtain⟨M,O⟩:=aC o;clear o;subst O;obtain⟨r,w,Q,s⟩:=aj z;clear z;obtain⟨a,xs,h1,U⟩:=vh g M;refine⟨.ref a,h1,.inl ⟨rfl,xs,U⟩,F,ρ,r,w,g,Q,λv F1 H1 s1 W=>?_⟩;split at s
 . rename_i bb Y es q;split at s;.rename_i y;cases s;obtain⟨b1,ys,rfl,Z,w3,A,w5,w6⟩:=W;obtain⟨ad,zs,B,q2,q3,C⟩:=s1.gs.qi k _ Y q rfl;rw[h1]at B;cases B;exact⟨_,b1,zs,ys,rfl,rfl,q2,Z,by rw[C.length,A.length];exact y,J F1 σ _ (s1.trans (s1.gs.mut q h1 (C.append A)))⟩
   .cases s
 .cases s
end
end HH
end
section
namespace L2
open PySem PySem.Spec PyProof.Rows
section
variable{X:Cx}{tg:Expr}
theorem xF:bootBuiltins "tuple"=some (.type "tuple"):=by decide+kernel
theorem qD:bootBuiltins "reversed"=some (.type "reversed"):=by decide+kernel
end
end L2
namespace HH
open PySem L2 PySem.Spec PyProof.Rows
section
variable{K:PySem.W.Frag}{F F1 H H1:Hp}{ρ ρ1:List Sl}{σ:L2.St}{ds:List D}{a:Addr}
theorem aF.rev:∀{ds:List D}{xs:List V},aF K F xs ds->aF K F xs.reverse ds.reverse|[],_,h=>by rw[h.fL];exact .nil|d::ds,_,h=>by obtain⟨v,r,rfl,h1,b⟩:=h.cM;rw[reverse_cons,reverse_cons];exact(aF.rev b).append (.cons h1 .nil)
end
section
variable{X:Cx}{c:Call}{a b d:Expr}{pa pb pd:P}{pos:Pos}
theorem xf{o p:Cm}{op j:CmpOp}(ho:fW X (compareOp op) (rD X.K (o8 o)))(y:fW X (compareOp j) (rD X.K (o8 p)))(C:SX X c a pa)(E:SX X c b pb)(hd:SX X c d pd)(G:lastMarks [op,j] [b,d]=false:=by with_unfolding_all rfl):ST X c (.Compare a [op,j] [b,d] pos) (.chain o p pa pb pd):=by
 obtain⟨I,J,h1,L,M⟩:=C.ie E;obtain⟨N,O,U⟩:=hd.cH;refine sY (Ii ho y h1 L O G) λσ H Q q=>qm (t:=Ja (rD X.K (o8 o)) (rD X.K (o8 p)) I J N) (λQ z=>?_) q;obtain⟨F,ρ,r,W,g,e,k⟩:=z;rw[HH.E9]at e;obtain⟨l,Y,Z,e⟩:=aj e;obtain⟨t,ac,i,e⟩:=aj e;have zz:=aC i;clear i;obtain⟨i,A⟩:=zz;subst A;have f:flat l.2=true/\cm o l.1 l.2=some t:=by
  split at i;.rename_i hf;exact⟨hf,i⟩
  .cases i
 obtain⟨f,i⟩:=f;refine M g Z λv u F' H' s pv n=>⟨F',l.1,l.2,.val (.bl t),s.gs.sub,pv,n,by unfold o8;rw[i];rfl,λw B H2 x m=>?_⟩;have s2:=s.trans (x.stp s.gs);have m:Rep X.K B w (.bl t):=m;rw[Rep]at m;subst m;refine⟨t,rfl,?_⟩;cases t with|false=>rw[if_neg Bool.false_ne_true]at e ⊢;cases e;exact k _ B H2 s2 (show Rep X.K B _ _ from jT _)|true=>
   rw[if_pos rfl]at e ⊢;obtain⟨z,ae,A,e⟩:=aj e;obtain⟨e4,e5⟩:=aC e;subst e5;refine U s2.gs A λw F3 H3 s3 pw=>⟨F3,l.2,z,r,s3.gs.sub,?_,pw,e4,λw' F4 H4 x4 m=>?_⟩
   . have x1:=x.fs;have x2:=s3.cW;rcases n with n|⟨_,_,_,_,_,_,h⟩;.exact .inl ((n.mono x1).mono x2)
     .rw[h]at f;cases f
   .have s4:=s2.trans s3;exact k w' F4 H4 (s4.trans (x4.stp s4.gs)) (.later s4 (m.mC s4.gs))
end
end HH
end
section
namespace L2
open PySem PySem.Spec PyProof.Rows
theorem xn:bootBuiltins "list"=some (.type "list"):=by decide+kernel
noncomputable def QS(i:Int)(n:Nat):List V:=(List.range n).map λ(k:Nat)=>V.int (i+(k:Int))
theorem yO{i:Int}{n:Nat}{a:Array Value}(h:ItemsOf (λk v=>∃t,v=Value.int (i+(k:Int)*1) t) a n):Vals (QS i n) a.toList:=by
 obtain⟨h1,g⟩:=h;have key:∀(m:Nat)(l:List Value),l.length=m->∀(f:Nat->Int),(∀(j:Nat)(v:Value),l[j]?=some v->∃t,v=Value.int (f j) t)->Vals ((List.range m).map λk=>V.int (f k)) l:=by intro m;induction m with
  |zero=>intro l b f _;cases l with|nil=>exact .nil|cons _ _=>cases b
  |succ m o=>intro l b f c;cases l with|nil=>cases b|cons v l=>rw[List.range_succ_eq_map,map_cons,map_map];obtain⟨t,rfl⟩:=c 0 v rfl;exact .cons ⟨t,rfl⟩ (o l (by simpa using b) (λk=>f (k+1)) λj v q=>c (j+1) v (by simpa using q))
 refine key n a.toList (by simpa using h1) (λk=>i+(k:Int)) λj v q=>?_;obtain⟨t,e⟩:=g j v (by simpa using q);exact⟨t,by rw[e,mul_one]⟩
section
variable{X:Cx}{pins:List (Addr×Obj)}{σ:St}{H:Hp}{s:Shared}{E:Value->Shared->Prop}
theorem FN{lo hi:Int}{t u v:Tok}{tk:Nat}{Q:VK}(hc:X.calm=true)(I:Inv X pins σ H s)(h1:-(2^62)<=lo)(k:lo<2^62)(m:-(2^62)<=hi)(p:hi<2^62)(h:(hi-lo).toNat<=sizeLine)(q:∀l,H l=none->Q (.ref l) (upd H l (.lst (QS lo (hi-lo).toNat)))):wpAny (model X.prog X.w) X.A (call (.type "list") [.ref s.heap.objs.size]) (EP X pins σ Q) E {s with heap:=s.heap.push {cls:=.type "range",data:=.fields #[.int lo t,.int hi u,.int 1 v]},toks:=tk}:=by have i:Inv X pins σ H {s with heap:=s.heap.push {cls:=.type "range",data:=.fields #[.int lo t,.int hi u,.int 1 v]},toks:=tk}:=I.kept λb o e=>fJ e;refine call_list_range (I.ok.hd hc) (IsRange.new ..) (small_one h1 k m p) (n:=(hi-lo).toNat) (by rw[rangeSize_one];split<;>omega) (le_trans h (by decide)) λh' f a r x g c=>?_;generalize z:(s.heap.push {cls:=.type "range",data:=.fields #[.int lo t,.int hi u,.int 1 v]}:Heap)=j at*;have y:H j.objs.size=none:=i.hok.fresh (cO);refine⟨.ref j.objs.size,_,i.laid (t':=f) (o:=.lst (QS lo (hi-lo).toNat)) (h':=h') x (cO) ?_,rfl,q _ y⟩;exact⟨by simpa[QS]using h,a.toList,r,yO c,by simpa using g⟩
theorem Dr{a:Expr}{g:TA}{p pos i b:Pos}(hc:X.calm=true)(k:Gl X "list")(m:X.mg "list"=none)(n:Gl X "range")(o:X.mg "range"=none)(u:PA X [a] g)(hs:starEach [a] X.env=[(false,eval a X.env)]:=by rfl)(c:starEach [.Call (.Name "range" p) [a] [] pos] X.env=[(false,eval (.Call (.Name "range" p) [a] [] pos) X.env)]:=by rfl):PE X (.Call (.Name "list" i) [.Call (.Name "range" p) [a] [] pos] [] b) (λσ H Q=>g σ H λvs f=>∃j:Int,vs=[.int j]/\(-(2^62)<=j/\j<2^62/\(j-0).toNat<=sizeLine)/\∀l,f l=none->Q (.ref l) (upd f l (.lst (QS 0 (j-0).toNat)))):=by intro pins s σ H Q I h;refine Call_ (iy I k m xn (PyProof.Rows.callWith_type1 ?_ c rfl));rw[c];show wpAny _ _ (spliced ((false,eval (.Call (.Name "range" p) [a] [] pos) X.env)::[])) _ _ _;refine Calls.spliced_cons (Call_ (iy I n o boot_range (PyProof.Rows.callWith_type1 (bT (u pos pins s σ H _ I h) ?_) hs rfl)));rintro us s1⟨vs,f,v,r1,w⟩;obtain⟨j,e,⟨b1,b2,b3⟩,q⟩:=w;subst e;cases r1 with|cons r x=>cases x;obtain⟨t,rfl⟩:=r;exact call_range_1 (Calls.spliced_nil (FN hc v (by omega) (by omega) b1 b2 b3 q))
end
end L2
namespace HH
open PySem L2 PySem.Spec PyProof.Rows
theorem TV{K:PySem.W.Frag}{F:Hp}(i:Int)(n:Nat):aF K F (QS i n) ((List.range n).map λ(k:Nat)=>D.int (i+(k:Int))):=by unfold QS;generalize List.range n=l;induction l with|nil=>exact .nil|cons k l a=>exact .cons (show Rep K F (.int _) (.int _)from bN _) a
section
variable{X:Cx}{c:Call}{a b:Expr}{pa pb:P}{pos:Pos}
theorem DR{x y:Str}{p z n:Pos}(A:y="list")(B:x="range")(hc:X.calm=true)(C:Gl X y)(E:X.mg y=none)(G:Gl X x)(I:X.mg x=none)(J:SX X c a pa)(hs:starEach [a] X.env=[(false,eval a X.env)]:=by rfl)(q:starEach [.Call (.Name x p) [a] [] pos] X.env=[(false,eval (.Call (.Name x p) [a] [] pos) X.env)]:=by rfl):SX X c (.Call (.Name y z) [.Call (.Name x p) [a] [] pos] [] n) (.blt .Cu [.yc (.con (.int 0)) pa]):=by
 subst B A;obtain⟨ta,h1,L⟩:=J.cH;refine⟨fu (Dr hc C E G I (cu h1 dY hs) hs q) ?_,λi h=>by cases h⟩;rintro σ H Q⟨F,ρ,r,M,g,e,k⟩;rw[E16]at e;obtain⟨x,N,O,m⟩:=aj e;have t:=aC m;clear m;obtain⟨m,o⟩:=t;subst o;obtain⟨r1,U,o,u⟩:=aj O;cases u;rw[E19]at o;obtain⟨xy,W,u,f⟩:=aj o;have t:=aC f;clear f;obtain⟨f,Y⟩:=t;subst Y;obtain⟨y0,Z,e9,w⟩:=aj u;cases w;obtain⟨i,f1,f⟩:=bV f;obtain⟨j,f2,f⟩:=bV f;obtain⟨⟨b1,b2,b3,b4⟩,f⟩:=aU f;have f1:i=0:=by cases f1;rfl
 subst f1;subst f;obtain⟨b5,m⟩:=aU (show(if((List.range (j-0).toNat).map λ(k:Nat)=>D.int (0+(k:Int))).length<=16777216 then some (R.own ((List.range (j-0).toNat).map λ(k:Nat)=>D.int (0+(k:Int))))else none)=some r from m);subst m;cases cJ f2;refine L g e9 λv F' H' s pv=>⟨j,by rw[pv.int],⟨by omega,by omega,?_⟩,λl hl=>uL s.gs.sub (TV 0 (j-0).toNat) hl λv F2 H2 xt rn=>k v F2 H2 (s.trans (xt.stp s.gs)) (.later s (rn.mC s.gs))⟩;rw[length_map,length_range]at b5;exact b5
end
end HH
end
section
namespace HT
open PySem PySem.Spec PyProof.Rows
section
variable{prog:Program}{w:World}{A:Around}{E:Value->Shared->Prop}{s:Shared}
theorem zE(n:Nat):sliceAdjust none none (-1) (n:Int)=((n:Int)-1,-1):=rfl
theorem yF(n:Nat):slicePlaces ((n:Int)-1) (-1) (-1)=n:=by
 unfold slicePlaces;have h1:¬((-1:Int)>0):=by omega
 rw[if_neg h1];by_cases h:(n:Int)-1>-1
 . rw[if_pos h];have:((n:Int)-1- -1-1)/(- -1)=(n:Int)-1:=by rw[show(- -1:Int)=1 from rfl,Int.ediv_one];omega
   rw[this];omega
 .rw[if_neg h];omega
theorem xq{sl:Addr}{t:Tok}{n:Nat}{Q:Int×Int×Nat->Shared->Prop}(hs:s.heap.IsSliceOf sl .none .none (.int (-1) t))(h:Q ((n:Int)-1,-1,n) s):wpAny (model prog w) A (sliceApplied (.ref sl) (pure (n:Int))) Q E s:=by obtain⟨os,a,c,b⟩:=id hs;unfold sliceApplied sliceFields;refine wpAny_bind (wpAny_bind (wpAny_field a b (x:=.none) rfl (wpAny_bind (wpAny_field a b (x:=.none) rfl (wpAny_bind (wpAny_field a b (x:=.int (-1) t) rfl (wpAny_pure ?_)))))));refine wpAny_bind (slicePart_int ?_);show wpAny _ _ (if((-1:Int)==0)=true then _ else _) _ _ s;rw[if_neg (by decide)];refine wpAny_bind (slicePart_none (wpAny_bind (slicePart_none (wpAny_bind (wpAny_pure ?_)))));show wpAny _ _ (match sliceAdjust none none (-1) (n:Int)with|(lo,hi)=>pure (lo,(-1:Int),slicePlaces lo hi (-1))) _ _ s;rw[zE];show wpAny _ _ (pure ((n:Int)-1,(-1:Int),slicePlaces ((n:Int)-1) (-1) (-1))) _ _ s;rw[yF];exact wpAny_pure h
theorem Jy(xs:Array Value):((List.range xs.size).filterMap λ(m:Nat)=>xs[((xs.size:Int)-1+(m:Int)*(-1)).toNat]?).toArray=xs.toList.reverse.toArray:=by
 have key:∀k,k<=xs.size->(List.range k).filterMap (λ(m:Nat)=>xs[((xs.size:Int)-1+(m:Int)*(-1)).toNat]?)=xs.toList.reverse.take k:=by intro k;induction k with|zero=>intro _;rfl|succ k a=>
    intro h;have b:((xs.size:Int)-1+(k:Int)*(-1)).toNat=xs.size-1-k:=by omega
    have c:k<xs.toList.reverse.length:=by simp;omega
    rw[range_succ,List.filterMap_append,a (by omega),List.take_succ_eq_append_getElem c];congr 1;simp only[filterMap_cons,List.filterMap_nil,b];rw[Array.getElem?_eq_getElem (by omega)];simp
 rw[key _ (cO),List.take_of_length_le (by simp)]
theorem lD{t sl:Addr}{items:Array Value}{u:Tok}{Q:Value->Shared->Prop}(ht:IsTup s.heap t items)(hs:s.heap.IsSliceOf sl .none .none (.int (-1) u))(h:Q (.ref s.heap.objs.size) {s with heap:=s.heap.push {cls:=.type "tuple",data:=.seq items.toList.reverse.toArray}})(hsz:items.size<=sizeLine):wpAny (model prog w) A (getItem (.ref t) (.ref sl)) Q E s:=by
 have a:sizeOk (.seq items.toList.reverse.toArray):=by show items.toList.reverse.toArray.size<=sizeLine;simpa using hsz
 obtain⟨os,b,c,g⟩:=id hs;have e:s.TypeIs (.ref sl) "slice":=⟨os,b,c⟩;unfold getItem;try with_reducible refine wpAny_holding ?_
 first|refine wpAny_bind (wpAny_pure ?_)|skip
 refine wpAny_bind (wpAny_sequenceKey ht.typeIs (by decide) (wpAny_bind (wpAny_callSpecial?_slot (name:=Str.ofString "__getitem__") ht.typeIs slot_tuple_getitem (wpAny_call_entry slot_tuple_getitem ht.typeIs entry_tuple_getitem ?_ (args_tuple_getitem _ _)))));show wpAny _ _ (tupleItemsOf (.ref t)>>=_) _ _ s;refine wpAny_bind (tupleItemsOf_ ht (wpAny_bind (wpAny_typeOf e ?_)));rw[if_pos (by decide)];refine wpAny_bind (xq hs ?_);have f:¬(((((items.size:Int)-1)==0&&(-1:Int)==1&&items.size==items.size))=true):=by simp
 show wpAny _ _ (if(((items.size:Int)-1)==0&&(-1:Int)==1&&items.size==items.size)=true then _ else _) _ _ s;rw[if_neg f,Jy];first|exact wpAny_bind (m:=tupleExact _) (wpAny_newObj_type (wpAny_pure ⟨_,rfl,wpAny_pure h⟩) a)|exact wpAny_bind (m:=tupleExact _) (wpAny_newObj_type (wpAny_bind (wpAny_pure (wpAny_pure ⟨_,rfl,wpAny_pure h⟩))) a)|exact wpAny_bind (wpAny_bind (m:=tupleExact _) (wpAny_newObj_type (wpAny_pure (wpAny_pure ⟨_,rfl,wpAny_pure h⟩)) a))|exact wpAny_bind (wpAny_bind (m:=tupleExact _) (wpAny_newObj_type (wpAny_pure ⟨_,rfl,wpAny_pure h⟩) a))
end
end HT
namespace HH
open PySem L2 PySem.Spec PyProof.Rows
theorem wF:∀{xs:List V}{us:List Value},Vals xs us->Vals xs.reverse us.reverse|_,_,.nil=>.nil|_,_,.cons r rs=>by rw[reverse_cons,reverse_cons];exact(wF rs).append (.cons r .nil)
theorem wY{K:PySem.W.Frag}{F:Hp}:∀{a:List D}{vs:List V},aF K F vs a->aF K F vs.reverse a.reverse|[],vs,h=>by rw[h.fL];exact .nil|d::a,vs,h=>by obtain⟨v,r,rfl,h1,b⟩:=h.cM;rw[reverse_cons,reverse_cons];exact(wY b).append (.cons h1 .nil)
section
variable{X:Cx}{c:Call}{e a:Expr}{te:TE}{pa:P}{pos p1 p2 p3:Pos}
theorem DY{r:V->Hp->VK->Prop}{j}(hr:∀(f:List (Addr×Obj))(s:Shared)(σ:L2.St)(H:Hp)(x:V)(v:Value)(t:Tok)(sl:Addr)(Q:VK),Inv X f σ H s->RelV x v->s.heap.IsSliceOf sl .none .none (.int (-1) t)->r x H Q->∃T id,typeLookup (.type T) "__getitem__"=pure (some (.builtin id))/\s.TypeIs v T/\wpAny (model X.prog X.w) X.A (getItem v (.ref sl)) (EP X f σ Q) X.xe s)(he:PE X e te):PE X (.Subscript e (.Slice none none (some (.UnaryOp .USub (.Constant (.int 1) j p1) p2)) p3) pos) (tUn r te):=by intro f s σ H Q I h;refine Subscript_ (bT (he f s σ H _ I h) ?_);rintro v s1⟨x,i,k,r1,l⟩;refine wpAny_Slice ?_;rw[evalPart_none];refine wpAny_pure (wpAny_pure ?_);rw[evalPart_some];refine bT (Pj Iu uF f s1 σ i (λy g=>y=.int (-1)/\g=i) k ⟨1,rfl,rfl,rfl⟩) ?_;rintro C s2⟨y,g,m,n,o,p⟩;subst o p;obtain⟨t,rfl⟩:=n;have u:Inv X f σ g {s2 with heap:=s2.heap.push {cls:=.type "slice",data:=.fields #[.none,.none,.int (-1) t]}}:=m.kept (t':=s2.toks) λb E q=>fJ q;obtain⟨T,id,z,ht,B⟩:=hr f {s2 with heap:=s2.heap.push {cls:=.type "slice",data:=.fields #[.none,.none,.int (-1) t]}} σ g x v t s2.heap.objs.size Q u r1 (Heap.IsSliceOf.new ..) l;show wpAny (model X.prog X.w) X.A (subscriptTail e (.Slice none none (some (.UnaryOp .USub (.Constant (.int 1) j p1) p2)) p3) v (.ref s2.heap.objs.size)) (EP X f σ Q) X.xe {s2 with heap:=s2.heap.push {cls:=.type "slice",data:=.fields #[.none,.none,.int (-1) t]}};exact tail_any (ops:=[v,.ref s2.heap.objs.size]) ht z B (by with_unfolding_all rfl)
theorem Sd{j}(m:SX X c a pa):SX X c (.Subscript a (.Slice none none (some (.UnaryOp .USub (.Constant (.int 1) j p1) p2)) p3) pos) (.blt .rvs [pa]):=by
 refine Gy (f:=λx=>blt .rvs [x]) (λh1=>DY ?_ h1) m (λρ=>rfl) rfl;rintro i s σ H x v t sl Q I n hs⟨F,d,r,sm,p,he,k⟩;cases d with|tup w=>
   cases he;obtain⟨a,xs,rfl,u,rs,rt⟩:=p.tup sm;cases n;obtain⟨h,l,ht,hz⟩:=I.tuple u;have g:h.toArray.size=xs.length:=by rw[size_toArray];exact l.length.symm
   refine⟨"tuple",_,slot_tuple_getitem.lookup,ht.typeIs,HT.lD ht hs ?_ (by rw[g];exact hz)⟩;refine⟨.ref s.heap.objs.size,_,I.laid (t':=s.toks) (o:=.tup xs.reverse) (λb y q=>fJ q) (cO) ?_,rfl,zx sm (wY rs) (I.hok.fresh (cO)) k⟩;exact⟨by simpa using hz,_,wF l,IsTup.new _ _⟩|_=>cases he
end
end HH
end
section
namespace PySem
namespace F
theorem Ft:typeLookup (.type "list_reverseiterator") "__len__"=pure none:=by rw[typeLookup_type,builtinLookup_eq_fast];kernel_rfl
theorem Mr:typeLookup (.type "list_reverseiterator") "__length_hint__"=pure (some (.builtin "list_reverseiterator.__length_hint__")):=by rw[typeLookup_type,builtinLookup_eq_fast];kernel_rfl
end F
section
variable{prog:Program}{w:World}{A:Around}{E:Value->Shared->Prop}{s:Shared}
theorem oJ{it l:Addr}{items:Array Value}{Q:Bool->Shared->Prop}(e:s.heap.IsRevIter it l ((items.size:Int)-1))(k:s.heap.IsList l items)(i:items.size<=2^24)(h:∀b tk,s.toks<=tk->Q b {s with toks:=tk}):wpAny (model prog w) A (listLengthHint (.ref it)) Q E s:=by
 have f:=e.typeIs;unfold listLengthHint;refine wpAny_bind (wpAny_specialOf f F.Ft ?_);show wpAny _ _ (specialOf (Value.ref it) (Str.ofString "__length_hint__")>>=_) _ _ _;refine wpAny_bind (wpAny_specialOf f F.Mr ?_);generalize a:("list_reverseiterator.__length_hint__":String)=c;(fail_if_success(clear a c));wp_delta;rw[show splitId c=some ("list_reverseiterator","__length_hint__")from by subst a;decide+kernel];subst a;refine wpAny_bind (wpAny_isInstance (b:=true) f (by rw[isSubtype_type];kernel_rfl) ?_);rw[if_neg (by decide)];dsimp only;split;.refine wpAny_ite_split (λg=>absurd g (by decide+kernel)) (λ_=>?_);exact wpAny_pure (h _ s.toks (cO))
 .rename_i j;exact absurd (by decide+kernel) j
theorem lN{R:Result->Shared->Prop}{I l:Addr}{items:Array Value}(O:A.handled=none)(j:s.heap.IsRevIter I l ((items.size:Int)-1))(C:s.heap.IsList l items)(G:l≠I)(u:items.size<=2^24)(S:Addr)(m:S≠I)(x:S≠l)(res:Value)(k:Nat)(H:s.heap.get? S=some {cls:=.type "list",data:=.seq #[] k})(Q:∀ h' tk a t,(∀ b o,b ≠ S->b ≠ I->s.heap.get? b=some o->h'.get? b=some o)->h'.get? S=some {cls:=.type "list",dict:=none,data:=.seq a t,slots:=#[]}->ItemsOf (λi v=>items[items.size-1-i]?=some v) a items.size->R (.ok (.ret res)) {s with heap:=h',toks:=tk}):wpAny (model prog w) A.in1 (listExtendWith (.ref S) (.ref I) res) (λfin n=>match fin with|.done f=>R (.ok f) n|.again t=>t.quiet=true/\codeAny (model prog w) A t R n) (λe n=>R (.error e) n) s:=by
 have J:S∉[I,l]:=λhm=>by
  rcases mem_cons.mp hm with e|hm;.exact m e
  .exact x (mem_singleton.mp hm)
 have W:=(Walks.listRev (prog:=prog) (w:=w) (A:=A.in1) O I l G items).toS;have U:s.TypeIs (.ref I) "list_reverseiterator":=j.typeIs;have key:∀(h:Heap)(c tk:Nat),h.IsRevIter I l ((items.size:Int)-1-((0:Nat):Int))->h.IsList l items->(∀b o,b≠S->s.heap.get? b=some o->h.get? b=some o)->h.get? S=some {cls:=.type "list",data:=.seq #[] c}->codeAny (model prog w) A (.builtin "list.extend.loop" ⟨[.ref S,.ref I,res],[]⟩) R {s with heap:=h,toks:=tk}:=by
  intro h c tk hi L X p;refine codeAny_extend_loopS W (by rw[sizeLine_eq];omega) S J res items.size 0 _ #[] c rfl (n8) ⟨n8,hi,L⟩ p (ItemsOf.nil _) λn a t hm M y=>?_;rw[Moved.eq_with hm];refine Q n.heap n.toks a t (λb o z N e=>hm.heap b o (λhmem=>?_) (X b o z e)) M y;rcases mem_cons.mp hmem with Y|hmem;.exact z Y
  .exact N (mem_singleton.mp hmem)
 unfold listExtendWith;refine wpAny_bind (wpAny_typeOf U ?_);have h1:listSameRef (.ref S) (.ref I)=false:=by simp[listSameRef,m]
 have Z:(Value.type "list_reverseiterator"==Value.type "list")=false:=by decide
 have h3:(Value.type "list_reverseiterator"==Value.type "tuple")=false:=by decide
 simp only[h1,Z,h3,Bool.or_false,false_eq_true,if_false];refine wpAny_bind (wpAny_pyIter_revIter j ?_);refine wpAny_bind (wpAny_holding (oJ j C u λbb tk ac=>?_));have B:s.heap.IsRevIter I l ((items.size:Int)-1-((0:Nat):Int)):=by simpa using j
 refine wpAny_ite_split (λ_=>?_) (λ_=>wpAny_pure ⟨plainId_quiet F.plain_extend_loop _,key _ k _ B C (λb o _ e=>e) H⟩);refine wpAny_bind (wpAny_rule ?_);refine wpAny_bind ?_;show wpAny _ _ (updateSeq S (·.push .none)>>=λ_=>updateSeq S (·.pop)) _ _ _;refine wpAny_bind (wpAny_updateSeq H rfl ?_);have g:=get?_update_self (Obj.mapSeq (·.push Value.none)) H rfl;refine wpAny_updateSeq (hz:=by seq_fits) g rfl ?_;have q:=get?_update_self (Obj.mapSeq (·.pop)) g rfl;have r:∀b o,b≠S->s.heap.get? b=some o->((s.heap.update S (Obj.mapSeq (·.push Value.none))).update S (Obj.mapSeq (·.pop))).get? b=some o:=λb o z e=>(get?_update_other _ _ (Ne.symm z)).trans ((get?_update_other _ _ (Ne.symm z)).trans e);exact wpAny_pure ⟨plainId_quiet F.plain_extend_loop _,key _ _ _ (B.at λo e=>r I o (Ne.symm m) e) (C.at λo e=>r l o (Ne.symm x) e) r q⟩
end
end PySem
namespace L2
open PySem PySem.Spec PyProof.Rows
end L2
namespace HH
open PySem L2 PySem.Spec PyProof.Rows
end HH
end
section
namespace HH
open PySem
theorem lr:∀a b:List Int,aZ a b=true->aZ b a=false
 |[],[],h=>by simp[aZ]at h|[],_::_,_=>by simp[aZ]|_::_,[],h=>by simp[aZ]at h|x::a,y::b,h=>by
   simp only[aZ,or_eq_true,decide_eq_true_eq,and_eq_true]at h;simp only[aZ,Bool.or_eq_false_iff,decide_eq_false_iff_not,Bool.and_eq_false_iff];rcases h with h|⟨h,h'⟩;.exact⟨by omega,.inl (by omega)⟩
   .exact⟨by omega,.inr (lr a b h')⟩
theorem zQ:∀a b c:List Int,aZ b a=false->aZ c b=false->aZ c a=false
 |[],_,c,_,_=>by cases c<;>simp[aZ]|_::_,[],_,h,_=>by simp[aZ]at h|_::_,_::_,[],_,h=>by simp[aZ]at h|x::a,y::b,z::c,h1,f=>by
   simp only[aZ,Bool.or_eq_false_iff,decide_eq_false_iff_not,Bool.and_eq_false_iff]at h1 f ⊢;refine⟨by omega,?_⟩;by_cases e:z=x;.right;exact zQ a b c (h1.2.resolve_left (by omega)) (f.2.resolve_left (by omega))
   .exact .inl e
theorem xj:∀a b:List Int,aZ a b=false->aZ b a=false->a=b
 |[],[],_,_=>rfl|[],_::_,h,_=>by simp[aZ]at h|_::_,[],_,h=>by simp[aZ]at h|x::a,y::b,h1,c=>by
   simp only[aZ,Bool.or_eq_false_iff,decide_eq_false_iff_not,Bool.and_eq_false_iff]at h1 c;have e:x=y:=by omega
   subst e;rw[xj a b (h1.2.resolve_left (by simp)) (c.2.resolve_left (by simp))]
theorem xT:∀{xs ys:List D},xs.all gC=true->ys.all gC=true->xs.map rN=ys.map rN->xs=ys
 |[],[],_,_,_=>rfl|[],_::_,_,_,h=>by simp at h|_::_,[],_,_,h=>by simp at h|x::xs,y::ys,h1,a,h=>by
   simp only[all_cons,and_eq_true]at h1 a;simp only[map_cons,List.cons.injEq]at h;obtain⟨i,rfl⟩:∃i,x=.int i:=by cases x<;>first|exact⟨_,rfl⟩|(have q:=h1.1;simp[gC]at q;done)
   obtain⟨j,rfl⟩:∃j,y=.int j:=by cases y<;>first|exact⟨_,rfl⟩|(have q:=a.1;simp[gC]at q;done)
   rw[xT h1.2 a.2 h.2,show i=j from h.1]
theorem Ag{x y:D}(h:(gC x=true/\gC y=true)\/(uz x=true/\uz y=true))(e:cC x=cC y):x=y:=by
 rcases h with⟨h1,a⟩|⟨h1,a⟩
 . cases x<;>first|(simp[gC]at h1;done)|skip
   cases y<;>first|(simp[gC]at a;done)|skip
   simpa[cC]using e
 . cases x<;>first|(simp[uz]at h1;done)|skip
   cases y<;>first|(simp[uz]at a;done)|skip
   rename_i xs ys;cases xs<;>first|(simp[uz]at h1;done)|skip
   cases ys<;>first|(simp[uz]at a;done)|skip
   rw[xT h1 a e]
noncomputable def kO(a b:D):Bool:=!aZ (cC b) (cC a)
theorem qJ(a:List D):(nQ a).Perm a:=List.mergeSort_perm ..
theorem J9(a b c:D)(h1:kO a b=true)(e:kO b c=true):kO a c=true:=by simp only[kO,not_eq_true']at*;exact zQ _ _ _ h1 e
theorem Gj(a b:D):(kO a b||kO b a)=true:=by simp only[kO,or_eq_true,not_eq_true'];cases h:aZ (cC b) (cC a)with|false=>exact .inl rfl|true=>exact .inr (lr _ _ h)
theorem qx(c:List D):(nQ c).Pairwise λa b=>kO a b=true:=List.pairwise_mergeSort J9 Gj c
theorem uQ{a:List D}(h:sortable a=true):∀x∈a,∀y∈a,cC x=cC y->x=y:=by
 simp only[sortable,and_eq_true,or_eq_true,all_eq_true]at h;intro x b y c e;rcases h.2 with h|h;.exact Ag (.inl ⟨h x b,h y c⟩) e
 .exact Ag (.inr ⟨h x b,h y c⟩) e
theorem jD{c l:List D}(h:sortable c=true)(p:l.Perm c)(s:l.Pairwise λa b=>kO a b=true):l=nQ c:=by refine List.Perm.eq_of_pairwise (le:=λa b=>kO a b=true) (λa b f g h1 e=>?_) s (qx c) (p.trans (qJ c).symm);simp only[kO,not_eq_true']at h1 e;exact uQ h a (p.mem_iff.mp f) b ((qJ c).mem_iff.mp g) (xj _ _ e h1)
end HH
end
section
namespace HH
open PySem PyProof.Rows
variable{xs:Array Keyed}{i j lo n:Nat}{st':SortSt}
noncomputable abbrev SM:=StateT SortSt Sem
structure Rk(M:Model)(A:Around)(E:Value->Shared->Prop)(s:Shared)(κ:SortKind)(ok:Keyed->Prop)(K:Keyed->Int):Prop where lt:∀{x y:Keyed}{Q:Option Bool->SortSt->Prop}{st:SortSt},ok x->ok y->kindOf st=κ->Q (some (decide (K x<K y))) st->wpS M A E s (lt' x y) Q st
section
variable{M:Model}{A:Around}{E:Value->Shared->Prop}{s:Shared}{κ:SortKind}{ok:Keyed->Prop}{K:Keyed->Int}
noncomputable def it(xs:Array Keyed)(i:Nat):Keyed:=xs.getD i (Value.none,Value.none)
theorem Kw(h:i<xs.size):xs[i]?=some (it xs i):=by unfold it;simp[Array.getD,h]
theorem JB(h:i<xs.size):it xs i∈xs.toList:=by
 have:it xs i=xs[i]:=by unfold it;simp[Array.getD,h]
 rw[this];simp
theorem Ai{Q:Keyed->SortSt->Prop}{st:SortSt}(h:i<xs.size)(q:Q (it xs i) st):wpS M A E s (elem' xs i) Q st:=by rw[elem'_eq,Kw h];exact wpS_pure q
end
section
variable{M:Model}{A:Around}{E:Value->Shared->Prop}{s:Shared}{κ:SortKind}{ok:Keyed->Prop}{K:Keyed->Int}
theorem wp_rule{x:String}{Q:Unit->SortSt->Prop}{st:SortSt}(q:Q () st):wpS M A E s (liftM (rule x):SM Unit) Q st:=wpS_lift (wpAny_rule ⟨rfl,q⟩)
end
section
variable{K:Keyed->Int}
def Seg(K:Keyed->Int)(xs:Array Keyed)(lo hi:Nat):Prop:=∀i j,lo<=i->i<=j->j<hi->K (it xs i)<=K (it xs j)
theorem Bb:it xs i=xs.toList.getD i (Value.none,Value.none):=by
 unfold it;by_cases h:i<xs.size;.simp[Array.getD,h]
 .simp[Array.getD,h]
end
section
variable{K:Keyed->Int}
theorem vZ:it xs i=(xs[i]?).getD (Value.none,Value.none):=by unfold it;by_cases h:i<xs.size<;>simp[Array.getD,h]
theorem kh(a:j<=xs.size)(k:Nat):it (mirror xs i j ((j-i)/2)) k=if i<=k/\k<j then it xs (i+j-1-k)else it xs k:=by rw[vZ,getElem?_mirror_all a];split<;>rw[vZ]
theorem yu{u d:Nat}(hs:u<xs.size)(hd:d<=u)(k:Nat):it (bubble xs u d) k=if k=u-d then it xs u else if u-d<k/\k<=u then it xs (k-1)else it xs k:=by
 rw[vZ,getElem?_bubble hs d hd];by_cases h1:k=u-d;.rw[if_pos h1,if_pos h1,vZ]
 .rw[if_neg h1,if_neg h1];split<;>rw[vZ]
structure pg(xs ys:Array Keyed)(lo:Nat):Prop where
 perm:ys.toList.Perm xs.toList
 pre:∀i,i<lo->it ys i=it xs i
theorem pg.refl(xs:Array Keyed)(lo:Nat):pg xs xs lo:=⟨.refl _,λ_ _=>rfl⟩
theorem pg.trans{xs ys c:Array Keyed}{lo:Nat}(a:pg xs ys lo)(b:pg ys c lo):pg xs c lo:=⟨b.perm.trans a.perm,λi h=>(b.pre i h).trans (a.pre i h)⟩
theorem pg.size{xs ys:Array Keyed}{lo:Nat}(h:pg xs ys lo):ys.size=xs.size:=by simpa using h.perm.length_eq
theorem jL(h:lo<=i)(a:j<=xs.size):pg xs (mirror xs i j ((j-i)/2)) lo:=⟨Array.perm_iff_toList_perm.mp (mirror_perm ..),λk b=>by rw[kh a,if_neg (by omega)]⟩
theorem K4{u d:Nat}(hs:u<xs.size)(hd:d<=u)(h:lo<=u-d):pg xs (bubble xs u d) lo:=⟨Array.perm_iff_toList_perm.mp (bubble_perm ..),λk a=>by rw[yu hs hd,if_neg (by omega),if_neg (by omega)]⟩
def KZ(K:Keyed->Int)(xs:Array Keyed)(lo hi:Nat):Prop:=∀i j,lo<=i->i<=j->j<hi->K (it xs j)<=K (it xs i)
end
section
variable{M:Model}{A:Around}{E:Value->Shared->Prop}{s:Shared}{κ:SortKind}{ok:Keyed->Prop}{K:Keyed->Int}
structure Sx(κ:SortKind)(ok:Keyed->Prop)(st:SortSt)(xs:Array Keyed)(st':SortSt):Prop where
 kind:kindOf st'=κ
 arr:arrOf st'=xs
 pend:pendingOf st'=pendingOf st
 fail:failedOf st'=none
 ok:∀x∈xs.toList,ok x
theorem Sx.set{st st':SortSt}{xs ys:Array Keyed}{lo:Nat}(h:Sx κ ok st xs st')(c:pg xs ys lo):Sx κ ok st ys (setArr st' ys):=⟨h.kind,rfl,h.pend,h.fail,λx a=>h.ok x (c.perm.mem_iff.mp a)⟩
theorem lF(R:Rk M A E s κ ok K){st:SortSt}{Q:Option Bool->SortSt->Prop}(h:Sx κ ok st xs st')(hi:i<xs.size)(a:j<xs.size)(q:Q (some (decide (K (it xs i)<K (it xs j)))) st'):wpS M A E s (ltAt' i j) Q st':=by rw[ltAt'_eq];refine wpS_bind (wpS_get ?_);show wpS M A E s (elem' (arrOf st') i>>=λx=>elem' (arrOf st') j>>=λy=>lt' x y) Q st';rw[h.arr];exact wpS_bind (Ai hi (wpS_bind (Ai a (R.lt (h.ok _ (JB hi)) (h.ok _ (JB a)) h.kind q))))
theorem pG{st:SortSt}{Q:Unit->SortSt->Prop}(h:Sx κ ok st xs st')(b:lo<=i)(c:j<=xs.size)(q:∀a,Sx κ ok st (mirror xs i j ((j-i)/2)) a->Q () a):wpS M A E s (reverseSlice' i j) Q st':=by rw[reverseSlice'_eq];refine wpS_modify ?_;rw[h.arr];exact q _ (h.set (jL b c))
theorem vo(R:Rk M A E s κ ok K){st:SortSt}{a:Nat}{Q:Option (Option Nat)×Nat->SortSt->Prop}(h:Sx κ ok st xs st')(t:lo+n<=xs.size)(u:1<=a)(k:a<=n)(hs:Seg K xs lo (lo+a))(q:∀m,a<=m->m<=n->Seg K xs lo (lo+m)->(m=n\/K (it xs (lo+m))<K (it xs (lo+m-1)))->Q (none,m) st'):wpS M A E s (forIn [a:n] ((none,a):Option (Option Nat)×Nat) λ_ c=>ltAt' (lo+c.2) (lo+c.2-1)>>=λo=>match o with|some b=>if b=true then pure (.done (none,c.2))else pure (.yield (none,c.2+1))|_=>pure (.done (some none,c.2))) Q st':=by
 refine wpS_forRange (I:=λx c g=>g=st'/\c=(none,x)/\Seg K xs lo (lo+x)) ?_ ?_ ⟨rfl,rfl,hs⟩
 . rintro x c g h1 v⟨rfl,rfl,f⟩;try dsimp only
   refine wpS_bind (lF R h (by omega) (by omega) ?_);by_cases c:K (it xs (lo+x))<K (it xs (lo+x-1))
   . rw[decide_eq_true c];try dsimp only
     rw[if_pos rfl];exact wpS_pure (q x h1 (by omega) f (.inr c))
   . rw[decide_eq_false c];try dsimp only
     rw[if_neg (by simp)];refine wpS_pure ⟨rfl,rfl,λi j l p w=>?_⟩;by_cases r:j<lo+x;.exact f i j l p r
     . have:j=lo+x:=by omega
       subst this;by_cases e:i=lo+x;.rw[e];exact Int.le_refl _
       .have:=f i (lo+x-1) l (by omega) (by omega);omega
 .rintro c g⟨rfl,rfl,f⟩;rw[show max a n=n by omega]at f ⊢;exact q n k (cO) f (.inl rfl)
theorem Lx(R:Rk M A E s κ ok K){st:SortSt}{a:Nat}{Q:Option (Option Nat)×Nat×Nat->SortSt->Prop}(h:Sx κ ok st xs st')(G:lo+n<=xs.size)(H:1<=a)(r:a<=n)(hs:KZ K xs lo (lo+a))(q:∀ys f m e,pg xs ys lo->Sx κ ok st ys f->a<=m->m<=n->KZ K ys lo (lo+m)->e+1<=m->(∀i,lo+m-(e+1)<=i->i<lo+m->K (it ys i)=K (it ys (lo+m-1)))->Q (none,m,e) f):wpS M A E s (forIn [a:n] ((none,a,0):Option (Option Nat)×Nat×Nat) λ_ c=>ltAt' (lo+c.2.1) (lo+c.2.1-1)>>=λo=>match o with
  |some b=>if b=true then(if c.2.2>0 then reverseSlice' (lo+c.2.1-(c.2.2+1)) (lo+c.2.1)>>=λ_=>pure (.yield (none,c.2.1+1,0))else pure (.yield (none,c.2.1+1,0)))else ltAt' (lo+c.2.1-1) (lo+c.2.1)>>=λo=>match o with|some b=>if b=true then pure (.done (none,c.2.1,c.2.2))else pure (.yield (none,c.2.1+1,c.2.2+1))|_=>pure (.done (some none,c.2.1,c.2.2))
  |_=>pure (.done (some none,c.2.1,c.2.2))) Q st':=by
 refine wpS_forRange (I:=λx c f=>∃ys e,c=(none,x,e)/\pg xs ys lo/\Sx κ ok st ys f/\KZ K ys lo (lo+x)/\e+1<=x/\∀i,lo+x-(e+1)<=i->i<lo+x->K (it ys i)=K (it ys (lo+x-1))) ?_ ?_ ⟨xs,0,rfl,.refl _ _,h,hs,by omega,λi h1 t=>by rw[show i=lo+a-1 by omega]⟩
 . rintro x c f h1 t⟨ys,e,rfl,hc,g,hd,he,k⟩;have hsz:=hc.size;try dsimp only
   refine wpS_bind (lF R g (by omega) (by omega) ?_);by_cases c:K (it ys (lo+x))<K (it ys (lo+x-1))
   . rw[decide_eq_true c];try dsimp only
     rw[if_pos rfl];have more:∀u:Array Keyed,(∀i,K (it u i)=K (it ys i))->KZ K u lo (lo+(x+1)):=λu hz i j l v y=>by
      rw[hz,hz];by_cases w:j<lo+x;.exact hd i j l v w
      . have:j=lo+x:=by omega
        subst this;by_cases e:i=lo+x;.rw[e];exact Int.le_refl _
        .have:=hd i (lo+x-1) l (by omega) (by omega);omega
     by_cases c2:e>0
     . rw[if_pos c2];refine wpS_bind (pG (lo:=lo) g (by omega) (by omega) λz B=>wpS_pure ⟨_,0,rfl,hc.trans (jL (by omega) (by omega)),B,more _ λi=>?_,by omega,λi h1 t=>by rw[show i=lo+(x+1)-1 by omega]⟩);rw[kh (by omega)];split;.rw[k _ (by omega) (by omega),k i (by omega) (by omega)]
       .rfl
     .rw[if_neg c2];exact wpS_pure ⟨ys,0,rfl,hc,g,more ys λ_=>rfl,by omega,λi h1 t=>by rw[show i=lo+(x+1)-1 by omega]⟩
   . rw[decide_eq_false c];try dsimp only
     rw[if_neg (by simp)];refine wpS_bind (lF R g (by omega) (by omega) ?_);by_cases c2:K (it ys (lo+x-1))<K (it ys (lo+x))
     . rw[decide_eq_true c2];try dsimp only
       rw[if_pos rfl];exact wpS_pure (q ys f x e hc g h1 (by omega) hd he k)
     . rw[decide_eq_false c2];try dsimp only
       rw[if_neg (by simp)];have p:K (it ys (lo+x))=K (it ys (lo+x-1)):=by omega
       refine wpS_pure ⟨ys,e+1,rfl,hc,g,λi j l v y=>?_,by omega,λi l J=>?_⟩
       . by_cases w:j<lo+x;.exact hd i j l v w
         . have:j=lo+x:=by omega
           subst this;by_cases e:i=lo+x;.rw[e];exact Int.le_refl _
           .rw[p];exact hd i (lo+x-1) l (by omega) (by omega)
       . rw[show lo+(x+1)-1=lo+x by omega];by_cases C:i=lo+x;.rw[C]
         .rw[p];exact k i (by omega) (by omega)
 .rintro c f⟨ys,e,rfl,hc,g,hd,he,k⟩;rw[show max a n=n by omega]at*;exact q ys f n e hc g r (cO) hd he k
end
section
variable{M:Model}{A:Around}{E:Value->Shared->Prop}{s:Shared}{κ:SortKind}{ok:Keyed->Prop}{K:Keyed->Int}
theorem GD(a:lo+n<=xs.size)(h:KZ K xs lo (lo+n)):Seg K (mirror xs lo (lo+n) ((lo+n-lo)/2)) lo (lo+n):=λi j b c e=>by rw[kh a,kh a,if_pos (by omega),if_pos (by omega)];exact h _ _ (by omega) (by omega) (by omega)
theorem Hz(R:Rk M A E s κ ok K){st:SortSt}{Q:Option Nat->SortSt->Prop}(h:Sx κ ok st xs st')(hn:lo+n<=xs.size)(h1:1<=n)(q:∀ys f m,pg xs ys lo->Sx κ ok st ys f->1<=m->m<=n->Seg K ys lo (lo+m)->Q (some m) f):wpS M A E s (countRun' lo n) Q st':=by
 have one:∀ys:Array Keyed,Seg K ys lo (lo+1):=λys i j o x y=>by rw[show i=j by omega];exact Int.le_refl _
 show wpS M A E s (_>>=_) Q st';refine wpS_bind (vo (a:=1) (n:=n) R h hn (le_refl 1) h1 (one xs) λm m1 O sm z=>?_);dsimp only;by_cases c1:m=n;.rw[if_pos (by simpa using c1)];exact wpS_pure (q xs st' m (.refl _ _) h m1 O sm)
 rw[if_neg (by simpa using c1)];have B:=z.resolve_left c1;by_cases c2:m>1;rw[if_pos c2];refine wpS_bind (lF R h (by omega) (by omega) ?_);by_cases c3:K (it xs lo)<K (it xs (lo+m-1))
 . rw[decide_eq_true c3];try dsimp only
   rw[if_pos rfl];exact wpS_pure (q xs st' m (.refl _ _) h m1 O sm)
 rw[decide_eq_false c3];try dsimp only
 rw[if_neg (by simp)];have hall:∀k,lo<=k->k<lo+m->K (it xs k)=K (it xs (lo+m-1)):=λk C U=>by have a1:=sm lo k (cO) C U;have a2:=sm k (lo+m-1) C (by omega) (by omega);omega
 refine wpS_bind (pG (lo:=lo) h (cO) (by omega) λf G=>?_);have hc:pg xs (mirror xs lo (lo+m) ((lo+m-lo)/2)) lo:=jL (cO) (by omega);have hd:KZ K (mirror xs lo (lo+m) ((lo+m-lo)/2)) lo (lo+(m+1)):=λi j o x y=>by
  have e:∀k,lo<=k->k<lo+m->K (it (mirror xs lo (lo+m) ((lo+m-lo)/2)) k)=K (it xs (lo+m-1)):=λk C U=>by rw[kh (by omega),if_pos (by omega)];exact hall _ (by omega) (by omega)
  by_cases hj:j<lo+m;.rw[e i o (by omega),e j (by omega) hj];exact Int.le_refl _
  . have:j=lo+m:=by omega
    subst this;by_cases e':i=lo+m;.rw[e'];exact Int.le_refl _
    .rw[e i o (by omega),kh (by omega),if_neg (by omega)];omega
 generalize mirror xs lo (lo+m) ((lo+m-lo)/2)=ys at G hc hd;rotate_left;rw[if_neg c2];have H:KZ K xs lo (lo+(m+1)):=λi j o x y=>by
  by_cases e:i=j;.rw[e];exact Int.le_refl _
  . have e1:i=lo:=by omega
    have e2:j=lo+m:=by omega
    rw[e1,e2];rw[show lo+m-1=lo by omega]at B;omega
 obtain⟨ys,hc,G,hd⟩:∃ys,pg xs ys lo/\Sx κ ok st ys st'/\KZ K ys lo (lo+(m+1)):=⟨xs,.refl _ _,h,H⟩;all_goals
  have hsz:=hc.size;refine wpS_bind (wp_rule ?_);refine wpS_bind (Lx (a:=m+1) R G (by omega) (by omega) (by omega) hd λg ac p e c r p1 W t he X=>?_);have Y:=c.size;dsimp only;by_cases Z:e>0
  . rw[if_pos Z];refine wpS_bind (pG (lo:=lo) r (by omega) (by omega) λae h4=>?_);have l:pg xs (mirror g (lo+p-(e+1)) (lo+p) ((lo+p-(lo+p-(e+1)))/2)) lo:=hc.trans (c.trans (jL (by omega) (by omega)));have v:KZ K (mirror g (lo+p-(e+1)) (lo+p) ((lo+p-(lo+p-(e+1)))/2)) lo (lo+p):=λi j o x y=>by
     have ez:∀k,K (it (mirror g (lo+p-(e+1)) (lo+p) ((lo+p-(lo+p-(e+1)))/2)) k)=K (it g k):=λk=>by
      rw[kh (by omega)];split;.rw[X _ (by omega) (by omega),X k (by omega) (by omega)]
      .rfl
     rw[ez,ez];exact t i j o x y
    generalize mirror g (lo+p-(e+1)) (lo+p) ((lo+p-(lo+p-(e+1)))/2)=us at h4 l v;have I:=l.size;have b:pg us (mirror us lo (lo+p) ((lo+p-lo)/2)) lo:=jL (cO) (by omega);refine wpS_bind (pG (lo:=lo) h4 (cO) (by omega) λJ w=>?_);refine wpS_bind (vo R w (by rw[b.size];omega) (by omega) W (GD (by omega) v) λu u1 L N _=>?_);exact wpS_pure (q _ J u (l.trans b) w (by omega) L N)
  .rw[if_neg Z];have I:=(hc.trans c).size;have b:pg g (mirror g lo (lo+p) ((lo+p-lo)/2)) lo:=jL (cO) (by omega);refine wpS_bind (pG (lo:=lo) r (cO) (by omega) λJ w=>?_);refine wpS_bind (vo R w (by rw[b.size];omega) (by omega) W (GD (by omega) t) λu u1 L N _=>?_);exact wpS_pure (q _ J u ((hc.trans c).trans b) w (by omega) L N)
theorem Te(R:Rk M A E s κ ok K){st:SortSt}{o:Nat}{Q:Bool->SortSt->Prop}(h:Sx κ ok st xs st')(J:lo+n<=xs.size)(ho:o<=n)(hs:Seg K xs lo (lo+o))(q:∀ys f,pg xs ys lo->Sx κ ok st ys f->Seg K ys lo (lo+n)->Q true f):wpS M A E s (binarySort' lo n o) Q st':=by
 show wpS M A E s (_>>=_) Q st';refine wpS_bind (wpS_mono (wpS_forRange (I:=λk c f=>∃ys,c=(none,())/\pg xs ys lo/\Sx κ ok st ys f/\Seg K ys lo (lo+min k n)) (Q:=λc f=>∃ys,c=(none,())/\pg xs ys lo/\Sx κ ok st ys f/\Seg K ys lo (lo+n)) ?_ ?_ ?_) ?_)
 . rintro k c f L N⟨ys,rfl,hc,m,sg⟩;rw[show min k n=k by omega]at sg;have hsz:=hc.size;refine wpS_bind (wpS_mono (wpS_forRange (I:=λx c g=>g=f/\∃l r,c=(none,l,r)/\l<=r/\r<=k/\r-l<=k-x/\(∀i,lo<=i->i<lo+l->K (it ys i)<=K (it ys (lo+k)))/\∀i,lo+r<=i->i<lo+k->K (it ys (lo+k))<K (it ys i)) (Q:=λc g=>g=f/\∃l r,c=(none,l,r)/\l<=k/\(∀i,lo<=i->i<lo+l->K (it ys i)<=K (it ys (lo+k)))/\∀i,lo+l<=i->i<lo+k->K (it ys (lo+k))<K (it ys i)) ?_ ?_ ⟨rfl,0,k,rfl,by omega,by omega,by omega,λi a b=>by omega,λi a b=>by omega⟩) ?_)
   . rintro x c g _ O⟨rfl,l,r,rfl,G,v,H,p,t⟩;dsimp only;by_cases e:l ≥ r
     . rw[if_pos e];have:l=r:=by omega
       subst this;exact wpS_pure ⟨rfl,l,l,rfl,v,p,t⟩
     . rw[if_neg e];refine wpS_bind (lF R m (by omega) (by omega) ?_);by_cases c:K (it ys (lo+k))<K (it ys (lo+(l+r)/2));.rw[decide_eq_true c];dsimp only;rw[if_pos rfl];exact wpS_pure ⟨rfl,_,_,rfl,by omega,by omega,by omega,p,λi u y=>Int.lt_of_lt_of_le c (sg _ _ (by omega) u y)⟩
       .rw[decide_eq_false c];dsimp only;rw[if_neg (by simp)];exact wpS_pure ⟨rfl,_,_,rfl,by omega,v,by omega,λi u y=>Int.le_trans (sg i (lo+(l+r)/2) u (by omega) (by omega)) (Int.not_lt.mp c),t⟩
   . rintro c g⟨rfl,l,r,rfl,G,v,H,p,t⟩;have:l=r:=by omega
     subst this;exact⟨rfl,l,l,rfl,v,p,t⟩
   . rintro c g⟨rfl,l,r,rfl,v,p,t⟩;show wpS M A E s (moveDown' (lo+k) (lo+l)>>=λ_=>pure (ForInStep.yield (none,()))) _ _;rw[moveDown'_eq];refine wpS_bind (wpS_modify (wpS_pure ?_));rw[m.arr];have z:pg ys (bubble ys (lo+k) (lo+k-(lo+l))) lo:=K4 (by omega) (by omega) (by omega);refine⟨_,rfl,hc.trans z,m.set z,λi j u B C=>?_⟩;rw[show min (k+1) n=k+1 by omega]at C;rw[yu (by omega) (by omega),yu (by omega) (by omega),show lo+k-(lo+k-(lo+l))=lo+l by omega];repeat' split
     all_goals first|(exfalso;omega)|exact Int.le_refl _|exact p _ (by omega) (by omega)|exact Int.le_of_lt (t _ (by omega) (by omega))|exact sg _ _ (by omega) (by omega) (by omega)
 .rintro c f⟨ys,w,hc,m,sg⟩;rw[show min (max (max o 1) n) n=n by omega]at sg;exact⟨ys,w,hc,m,sg⟩
 . refine⟨xs,rfl,.refl _ _,h,λi j u B C=>?_⟩;by_cases e:i=j;.rw[e];exact Int.le_refl _
   .exact hs i j u B (by omega)
 .rintro c f⟨ys,rfl,hc,m,sg⟩;exact wpS_pure (q ys f hc m sg)
end
noncomputable abbrev Rn:=Nat×Nat×Nat
section
variable{K:Keyed->Int}{xs ys:Array Keyed}
def Yz(K:Keyed->Int)(xs:Array Keyed):Nat->List Rn->Nat->Prop|a,[],b=>a=b|a,r::l,b=>r.1=a/\1<=r.2.1/\Seg K xs a (a+r.2.1)/\Yz K xs (a+r.2.1) l b
theorem uK:∀{l k:List Rn}{a b:Nat},Yz K xs a (l++k) b↔∃m,Yz K xs a l m/\Yz K xs m k b
 |[],k,a,b=>⟨λh=>⟨a,rfl,h⟩,λ⟨m,h1,c⟩=>by cases(show a=m from h1);exact c⟩|r::l,k,a,b=>by
   rw[cons_append];constructor;.rintro⟨h1,c,e,f⟩;obtain⟨m,g,o⟩:=uK.mp f;exact⟨m,⟨h1,c,e,g⟩,o⟩
   .rintro⟨m,⟨h1,c,e,f⟩,g⟩;exact⟨h1,c,e,uK.mpr ⟨m,f,g⟩⟩
end
section
variable{M:Model}{A:Around}{E:Value->Shared->Prop}{s:Shared}{κ:SortKind}{ok:Keyed->Prop}{K:Keyed->Int}
structure SR(κ:SortKind)(ok:Keyed->Prop)(K:Keyed->Int)(x0 ys:Array Keyed)(l:List Rn)(lo:Nat)(st:SortSt):Prop where
 kind:kindOf st=κ
 arr:arrOf st=ys
 fail:failedOf st=none
 pend:(pendingOf st).toList=l
 perm:ys.toList.Perm x0.toList
 ok:∀x∈ys.toList,ok x
 rns:Yz K ys 0 l lo
 le:lo<=ys.size
theorem SR.sx{x0 ys:Array Keyed}{l:List Rn}{lo:Nat}{st:SortSt}(h:SR κ ok K x0 ys l lo st):Sx κ ok st ys st:=⟨h.kind,h.arr,rfl,h.fail,h.ok⟩
end
end HH
end
section
namespace HH
open PySem PySem.W PyProof.Rows PySem.Calls L2 PySem.Spec
theorem DP{i o:Type}{f:i->o}{p m:List o}(h:p.Perm m):∀{l:List i},m=l.map f->∃k:List i,k.Perm l/\k.map f=p:=by induction h with
 |nil=>intro l e;cases l with|nil=>exact⟨[],.refl _,rfl⟩|cons _ _=>cases e
 |cons x h r=>intro l e;cases l with|nil=>cases e|cons a l=>obtain⟨c,g⟩:=List.cons.inj e;obtain⟨k,h1,q⟩:=r g;exact⟨a::k,h1.cons a,by rw[map_cons,q,c]⟩
 |swap x y z=>intro l e;match l,e with|a::b::l,e=>obtain⟨c,g⟩:=List.cons.inj e;obtain⟨s,t⟩:=List.cons.inj g;exact⟨b::a::l,.swap ..,by rw[map_cons,map_cons,c,s,t]⟩
 |trans h1 q j n=>intro l e;obtain⟨k,u,c⟩:=n e;obtain⟨v,w,g⟩:=j c.symm;exact⟨v,w.trans u,g⟩
theorem Mx(a:List Int):aZ a a=false:=by cases h:aZ a a with|false=>rfl|true=>rw[lr _ _ h]at h;cases h
theorem Jm{a b x:List Int}(h:aZ b a=false)(c:aZ x a=true):aZ x b=true:=by cases e:aZ x b with|true=>rfl|false=>rw[zQ _ _ _ h e]at c;cases c
theorem sJ{a:Type}{p q:a->Bool}(h:∀x,p x=true->q x=true):∀{l:List a},(∃x,x∈l/\q x=true/\p x=false)->l.countP p<l.countP q
 |[],⟨x,hx,_⟩=>by cases hx|y::l,⟨x,hx,h1,b⟩=>by
   rw[List.countP_cons,List.countP_cons];have m:=List.countP_mono_left (l:=l) (p:=p) (q:=q) λx _=>h x;rcases mem_cons.mp hx with rfl|hx;.rw[h1,b,if_pos rfl,if_neg (by simp)];omega
   .have:=sJ h ⟨x,hx,h1,b⟩;cases hp:p y with|true=>rw[h y hp];omega|false=>rw[if_neg (by simp)];omega
noncomputable def Rz(a:List D)(d:D):Nat:=a.countP λe=>aZ (cC e) (cC d)
theorem uA{a:List D}{d e:D}(hd:d∈a):decide ((Rz a d:Int)<Rz a e)=aZ (cC d) (cC e):=by cases h:aZ (cC d) (cC e)with|true=>have:=sJ (l:=a) (p:=λx=>aZ (cC x) (cC d)) (q:=λx=>aZ (cC x) (cC e)) (λx b=>Jm (lr _ _ h) b) ⟨d,hd,h,Mx _⟩;rw[decide_eq_true_iff];unfold Rz;omega|false=>have:=List.countP_mono_left (l:=a) (p:=λx=>aZ (cC x) (cC e)) (q:=λx=>aZ (cC x) (cC d)) λx _ b=>Jm h b;rw[decide_eq_false_iff_not];unfold Rz;omega
open Classical in
noncomputable def Ws(P:Value->D->Prop)(a:List D)(x:Keyed):Int:=if h:∃d,d∈a/\P x.1 d then(Rz a h.choose:Int)else 0
theorem nJ{P:Value->D->Prop}{a:List D}{x:Keyed}{d:D}(fn:∀u d e,P u d->P u e->cC d=cC e)(hd:d∈a)(b:P x.1 d):Ws P a x=Rz a d:=by have h:∃d,d∈a/\P x.1 d:=⟨d,hd,b⟩;unfold Ws;rw[dif_pos h];unfold Rz;rw[fn _ _ _ h.choose_spec.2 b]
noncomputable def pick{a:Type}(d:a)(p:List Nat)(l:List a):List a:=p.map λi=>l.getD i d
theorem fZ{a:Type}(d:a)(l:List a):pick d (List.range l.length) l=l:=by refine ext_getElem (by simp[pick]) λi h1 b=>?_;simp[pick,b]
theorem gU{a:Type}{d:a}{p:List Nat}{l:List a}{n:Nat}(h:p.Perm (List.range n)):(pick d p l).length=n:=by rw[pick,length_map,h.length_eq,length_range]
theorem eO{P:Value->D->Prop}:∀{us:List Value}{a:List D},Paired P us a->∀i,i<us.length->P (us.getD i .none) (a.getD i .non)/\a.getD i .non∈a|_,_,.cons r _,0,_=>⟨by simpa using r,by simp⟩|_,_,.cons _ t,i+1,hi=>by have:=eO t i (by simpa using hi);exact⟨by simpa using this.1,by simpa using Or.inr this.2⟩
end HH
end
section
namespace HH
open PySem L2 PySem.Spec PyProof.Rows PySem.Calls PySem.W
section
variable{prog:Program}{w:World}{A:Around}{E:Value->Shared->Prop}{s:Shared}{vs:List Value}{κ:SortKind}{P:Value->D->Prop}{ds:List D}
theorem nW{b fin:Bool}{Q:Bool->Shared->Prop}:∀{xs ys:List Value}{is js:List Int}{i:Nat},IntsAre xs is->IntsAre ys js->fin=decide (is.length<js.length)->Q (aZ is js) s->KatLex prog w A b fin Q (xs.zip ys) i s
 |_,_,_,_,_,.nil,.nil,e,h=>by subst e;exact kat_nil (by simpa[aZ]using h)|_,_,_,_,_,.nil,.cons _ _ _,e,h=>by subst e;exact kat_nil (by simpa[aZ]using h)|_,_,_,_,_,.cons _ _ _,.nil,e,h=>by subst e;exact kat_nil (by simpa[aZ]using h)|_,_,_,_,i,.cons (ns:=is) x t r,.cons (ns:=js) y u r',e,h=>by
   refine kat_cons (wpAny_eqBool_int ?_);by_cases q:x=y;.subst q;rw[beq_self_eq_true];refine kat_yes (nW r r' (by rw[e];simp) ?_);simpa[aZ]using h
   . rw[beq_eq_false_iff_ne.mpr q];refine kat_no ?_;have a:Q (decide (x<y)) s:=by simpa[aZ,q]using h
     cases(b&&i==0)with|true=>exact oneLt_int a|false=>exact kat_one _ _ (wpAny_lt_int a)
def m5(h:Heap)(u:Value)(d:D):Prop:=∃a b is,u=.ref a/\IsTup h a (toArray b)/\IntsAre b is/\is≠[]/\cC d=is
theorem gZ{h h':Heap}(k:∀b o,h.get? b=some o->h'.get? b=some o){u:Value}{d:D}(t:m5 h u d):m5 h' u d:=by obtain⟨a,c,is,e,⟨o,h1,f⟩,g⟩:=t;exact⟨a,c,is,e,⟨o,k _ _ h1,f⟩,g⟩
theorem m6{h h':Heap}(k:∀b o,h.get? b=some o->h'.get? b=some o):∀{us:List Value}{ds:List D},Paired (m5 h) us ds->Paired (m5 h') us ds|_,_,.nil=>.nil|_,_,.cons r t=>.cons (gZ k r) (m6 k t)
theorem n6{h:Heap}:∀{us:List Value}{ds:List D},Paired (m5 h) us ds->∃fs,KatTups h us fs/\fs.length=us.length/\∀f∈fs,∃n t,f=Value.int n t|_,_,.nil=>⟨[],trivial,rfl,by simp⟩|_,_,.cons r t=>by obtain⟨fs,h1,c,e⟩:=n6 t;obtain⟨a,g,is,rfl,⟨o,i,j,n,k⟩,hi,b,_⟩:=r;cases hi with|nil=>exact absurd rfl b|cons x tk l=>
     refine⟨.int x tk::fs,KatTups.cons i j k (by simp) h1,by simp[c],λf hf=>?_⟩;rcases mem_cons.mp hf with rfl|hf;.exact⟨_,_,rfl⟩
     .exact e f hf
theorem tR{ds:List D}(t:Paired (m5 s.heap) vs ds)(e:2<=vs.length){C:SortKind->Shared->Prop}(a:C (tuples' (Value.type "int"!=Value.type "tuple")) s):wpAny (model prog w) A (keyKind' vs.toArray) C E s:=by obtain⟨fs,h1,f,b⟩:=n6 t;refine kat_kind (T:=.type "int") h1 (by omega) (λv c=>?_) rfl a;obtain⟨n,t,rfl⟩:=b v c;exact Looks.now
theorem Ac{x y:Value}{d e:D}(h:m5 s.heap x d)(i:m5 s.heap y e){b:Bool}{C:Bool->Shared->Prop}(c:C (aZ (cC d) (cC e)) s):wpAny (model prog w) A (keyLt' (tuples' b) x y) C E s:=by obtain⟨a,j,is,rfl,⟨o,k,u,n,l⟩,hi,m,p⟩:=h;obtain⟨v,its',js,rfl,⟨z,q,B,G,r⟩,f,g,t⟩:=i;refine kat_lt k l q r ?_;rw[p,t]at c;refine nW (is:=is) (js:=js) (by simpa using hi) (by simpa using f) ?_ c;rw[size_toArray,size_toArray,IntsAre.length hi,IntsAre.length f]
end
theorem Eg{xs:List V}{us:List Value}(h:Vals xs us)(i:Nat):RelV (xs.getD i .non) (us.getD i .none):=by
 have c:=h.length;by_cases hi:i<xs.length
 . obtain⟨u,e,r⟩:=h.get (i:=i) (x:=xs[i]) (getElem?_eq_getElem hi);have a:xs.getD i .non=xs[i]:=by simp[hi]
   have b:us.getD i .none=u:=by simp[e]
   rw[a,b];exact r
 . have a:xs.getD i .non=.non:=by simp[Nat.le_of_not_lt hi]
   have b:us.getD i .none=.none:=by simp[show us.length<=i by omega]
   rw[a,b];rfl
theorem v5{f:Nat->V}{g:Nat->Value}(h:∀i,RelV (f i) (g i)):∀l:List Nat,Vals (l.map f) (l.map g)|[]=>.nil|i::l=>.cons (h i) (v5 h l)
theorem wJ{p:List Nat}{xs:List V}{us:List Value}(h:Vals xs us):Vals (pick .non p xs) (pick .none p us):=v5 (Eg h) _
theorem xR{K:PySem.W.Frag}{F:Hp}{f:Nat->V}{g:Nat->D}(h:∀i,Rep K F (f i) (g i)):∀l:List Nat,aF K F (l.map f) (l.map g)|[]=>.nil|i::l=>.cons (h i) (xR h l)
theorem wB{K:PySem.W.Frag}{F:Hp}{p:List Nat}{xs:List V}{a:List D}(h:aF K F xs a):aF K F (pick .non p xs) (pick .non p a):=xR (λi=>by
 have f:=h.length;by_cases hi:i<a.length
 . obtain⟨u,e,r⟩:=h.get (i:=i) (d:=a[i]) (getElem?_eq_getElem hi);have b:a.getD i .non=a[i]:=by simp[hi]
   have c:xs.getD i .non=u:=by simp[e]
   rw[b,c];exact r
 . have b:a.getD i .non=.non:=by simp[Nat.le_of_not_lt hi]
   have c:xs.getD i .non=.non:=by simp[show xs.length<=i by omega]
   rw[b,c,Rep]) _
theorem Gm{us:List Value}:∀{ns a:List Int},IntsAre us ns->IntsAre us a->ns=a:=by induction us with|nil=>intro ns a h1 b;cases h1;cases b;rfl|cons u us c=>intro ns a h1 b;cases h1 with|cons n t r=>cases b with|cons m t' e=>rw[c r e]
theorem Bj{h:Heap}(u:Value)(d e:D):m5 h u d->m5 h u e->cC d=cC e:=λ⟨a,i,is,h1,⟨o,j,t,n,k⟩,l,_,p⟩⟨b,q,js,c,⟨v,f,w,m,g⟩,r,_,s⟩=>by rw[h1]at c;cases c;rw[j]at f;cases f;rw[k]at g;cases g;rw[p,s,Gm l r]
theorem all_ints:∀{a:List D},a.all gC=true->a=(a.map rN).map D.int
 |[],_=>rfl|d::a,h=>by
   simp only[all_cons,and_eq_true]at h;cases d<;>first|(have q:=h.1;simp[gC]at q;done)|skip
   rw[map_cons,map_cons,<-all_ints h.2];rfl
theorem intsAre_of:∀{ns:List Int}{us:List Value},Vals (ns.map V.int) us->IntsAre us ns|[],_,.nil=>.nil|n::ns,_,.cons r t=>by obtain⟨tk,rfl⟩:=r;exact .cons n tk (intsAre_of t)
section
variable{X:Cx}{c:Call}{a:Expr}{pa:P}{pos:Pos}
theorem boot_sorted:bootBuiltins "sorted"=some (.builtin "sorted"):=by decide+kernel
end
end HH
end
section
namespace HH
open PySem L2 PySem.Spec PyProof.Rows PySem.Calls
theorem zc(l b:Addr)(items a:List Value)(n G:Nat)(H o:Option Addr)(sl r:Array (Option Value))(is js:List Int)(hi:IntsAre items is)(E:IntsAre a js):Meets (Builtin.«tuple.__lt__» ⟨[.ref l,.ref b],[]⟩) (λA R s=>s.heap.get? l=some {cls:=.type "tuple",dict:=H,data:=.seq items.toArray n,slots:=sl}/\s.heap.get? b=some {cls:=.type "tuple",dict:=o,data:=.seq a.toArray G,slots:=r}/\R (.ok (.ret (.bool (aZ is js)))) s):=.of_wp λprog w A R s h=>by
  obtain⟨v,g,d,tk,os⟩:=s;obtain⟨I,J,h⟩:=h;have f2:=AutoSeq1.sub_tuple_tuple;wp_walk using wpAny_loadPart' I,wpAny_loadPart' J,wpAny_forIn_list _ (λf b z=>b.1=none/\z=⟨v,g,d,tk,os⟩/\∃xs ys c j,f=xs.zip ys/\IntsAre xs c/\IntsAre ys j/\decide (items.length<a.length)=decide (c.length<j.length)/\R (.ok (.ret (.bool (aZ c j)))) ⟨v,g,d,tk,os⟩) _;case turn=>rintro⟨y,x⟩f b z⟨i,rfl,xs,ys,c,j,hz,h1,k,B,m⟩;cases h1 with|nil=>cases hz|cons p t h1=>cases k with|nil=>cases hz|cons q u k=>
       injection hz with hyx hrest;cases hyx;refine wpAny_bind (wpAny_eqBool_int ?_);by_cases e:p=q;.subst e;rw[beq_self_eq_true];wp_walk;exact⟨rfl,rfl,_,_,_,_,hrest,h1,k,by rw[B];simp,by simpa[aZ]using m⟩
       . rw[beq_eq_false_iff_ne.mpr e];have C:R (.ok (.ret (.bool (decide (p<q))))) ⟨v,g,d,tk,os⟩:=by simpa[aZ,e]using m
         simp only[Bool.not_false,if_true];refine wpAny_bind (wpAny_rule ?_);refine wpAny_bind (show wpAny (model prog w) A.in1 (compareOp .Lt (Value.int p t) (Value.int q u)) _ _ _ from wpAny_lt_int ?_);refine wpAny_bind (wpAny_pure ?_);exact wpAny_pure (wpAny_pure ⟨_,rfl,C⟩)
  case fin=>
   rintro⟨b1,b2⟩z⟨i,rfl,xs,ys,c,j,hz,h1,k,B,m⟩;simp only at i;subst i;have e:aZ c j=decide (items.length<a.length):=by rw[B];cases h1 with|nil=>cases k<;>simp[aZ]|cons _ _ _=>cases k with|nil=>simp[aZ]|cons _ _ _=>cases hz
   rw[e]at m;wp_walk;exact⟨_,rfl,by simpa[Builtin.Tuple.tupleCompareSizes]using m⟩
  case h=>exact⟨rfl,rfl,items,a,is,js,by simp,hi,E,by rw[IntsAre.length hi,IntsAre.length E],h⟩
section
variable{X:Cx}
theorem zR(hu:X.A.units+8<cLine):fW X (compareOp .Lt) (rD X.K (o8 .lt)):=by rintro f s σ H x y v u Q I G J⟨F,d,e,r,sm,L,M,he,k⟩;obtain⟨t,c,q⟩:=map_some (show(XH d e).map _=some r from he);subst q;cases d with
 |int i=>cases e with|int j=>exact RX f s σ H x y v u Q I G J ⟨F,.int i,.int j,_,sm,L,M,by have q:J7 (λi j=>decide (i<j)) (.int i) (.int j)=some t:=c;simp only[q];rfl,k⟩|_=>cases c
 |tup xs=>cases e with|tup ys=>obtain⟨hc,c⟩:=aU (show(if(xs.all gC&&ys.all gC)=true then some (aZ (xs.map rN) (ys.map rN))else none)=some t from c);rw[and_eq_true]at hc;obtain⟨a,vs,rfl,h1,N,_⟩:=L.tup sm;obtain⟨b,ws,rfl,Y,O,_⟩:=M.tup sm;cases G;cases J;obtain⟨z,U,it,_⟩:=I.tuple h1;obtain⟨g,h,B,_⟩:=I.tuple Y;rw[all_ints hc.1]at N;rw[all_ints hc.2]at O;rw[ik N]at U;rw[ik O]at h;have Z:=intsAre_of U;have i2:=intsAre_of h;obtain⟨⟨cls,dd,data,sl⟩,ho,l,n,hd⟩:=it;obtain⟨⟨W,C,data2,E⟩,m,o,n2,p⟩:=B;simp only at l hd o p;subst l hd o p;refine(show wpAny (model X.prog X.w) X.A (richCompare .Lt (.ref a) (.ref b)) _ _ s from richCompare_meets_room (op:=.Lt) ⟨_,ho,rfl⟩ ⟨_,m,rfl⟩ PySem.F.slot_tuple_lt PySem.F.entry_tuple_lt (PySem.F.args_tuple_lt_2 _ _) (zc a b z g n n2 dd C sl E _ _ Z i2) ⟨ho,m,show Value.bool _≠Value.notImplemented/\_ from⟨(λx=>nomatch x),⟨.bl t,H,I,by rw[<-c];rfl,bY.cV sm (jT _) k⟩⟩⟩ (by omega))|_=>cases c
 |_=>cases c
end
end HH
end
section
namespace L2
open PySem PySem.Spec PyProof.Rows
variable{y:V}{w:World}{H:Hp}{Q:Value->Shared->Prop}{pos:Pos}{X:Cx}
section
variable{κ:Type}[DecidableEq κ]
noncomputable def je(kvs:List (κ×V))(k:κ):Option V:=(kvs.find? λa=>decide (a.1=k)).map (·.2)
noncomputable def putK(kvs:List (κ×V))(k:κ)(v:V):List (κ×V):=if(kvs.any λa=>decide (a.1=k))=true then kvs.map (λa=>if a.1=k then(a.1,v)else a)else kvs++[(k,v)]
theorem kZ{p:κ×V}{r:List (κ×V)}{k:κ}(e:p.1=k):je (p::r) k=some p.2:=by simp[je,find?_cons,e]
theorem lH{p:κ×V}{r:List (κ×V)}{k:κ}(e:¬ p.1=k):je (p::r) k=je r k:=by simp[je,find?_cons,e]
theorem qH(k:κ):∀kvs:List (κ×V),(kvs.any λa=>decide (a.1=k))=(je kvs k).isSome
 |[]=>rfl|p::r=>by
   rw[any_cons];by_cases e:p.1=k;.simp only[kZ e,decide_eq_true e,Bool.true_or,Option.isSome_some]
   .rw[lH e,decide_eq_false e,Bool.false_or];exact qH k r
theorem jh(kvs:List (κ×V))(k:κ)(v:V):(putK kvs k v).length<=kvs.length+1:=by
 unfold putK;split;.rw[length_map];omega
 .rw[length_append,length_cons,length_nil];omega
theorem oO.gY{o:Option V}{u:Option Value}(r:oO o u):o.isSome=u.isSome:=by cases o with
 |none=>cases u with|none=>rfl|some _=>exact(show False from r).elim
 |some _=>cases u with|none=>exact(show False from r).elim|some _=>rfl
theorem oO.getD{o:Option V}{u:Option Value}{d:V}{d':Value}(r:oO o u)(a:RelV d d'):RelV (o.getD d) (u.getD d'):=by cases o with
 |none=>cases u with|none=>exact a|some _=>exact(show False from r).elim
 |some _=>cases u with|none=>exact(show False from r).elim|some _=>exact r
theorem KV.val{kvs:List (κ×V)}{vs:List (κ×Value)}(r:KV kvs vs)(k:κ):oO (je kvs k) (valueAt vs k):=by unfold KV at r;induction r with|nil=>exact True.intro|@cons p q ps a h t f=>
   obtain⟨h1,g⟩:=h;by_cases e:p.1=k
   . have c:q.1=k:=h1.symm.trans e;have b:valueAt (q::a) k=some q.2:=by simp[valueAt,find?_cons,c]
     rw[kZ e,b];exact g
   . have c:¬ q.1=k:=λz=>e (h1.trans z);have b:valueAt (q::a) k=valueAt a k:=by simp[valueAt,find?_cons,c]
     rw[lH e,b];exact f
theorem KV.any{kvs:List (κ×V)}{vs:List (κ×Value)}(r:KV kvs vs)(k:κ):(kvs.any λa=>decide (a.1=k))=vs.any λa=>decide (a.1=k):=by unfold KV at r;induction r with|nil=>rfl|cons h t b=>rw[any_cons,any_cons,b,h.1]
theorem KV.repl{kvs:List (κ×V)}{vs:List (κ×Value)}(r:KV kvs vs)(k:κ){u:Value}(b:RelV y u):KV (kvs.map λa=>if a.1=k then(a.1,y)else a) (vs.map λa=>if a.1=k then(a.1,u)else a):=by unfold KV at r ⊢;induction r with|nil=>exact .nil|@cons p q ps g h t c=>
   rw[map_cons,map_cons];refine .cons ?_ c;obtain⟨h1,f⟩:=h;by_cases e:p.1=k;.rw[if_pos e,if_pos (h1.symm.trans e)];exact⟨h1,b⟩
   .rw[if_neg e,if_neg (λz=>e (h1.trans z))];exact⟨h1,f⟩
theorem KV.put{kvs:List (κ×V)}{vs:List (κ×Value)}(r:KV kvs vs)(k:κ){u:Value}(a:RelV y u):KV (putK kvs k y) (stored vs k u):=by
 unfold putK stored;rw[r.any k];by_cases e:(vs.any λb=>decide (b.1=k))=true;.rw[if_pos e,if_pos e];exact r.repl k a
 .rw[if_neg e,if_neg e];exact Paired.snoc r ⟨rfl,a⟩
theorem KV.length{kvs:List (κ×V)}{vs:List (κ×Value)}(r:KV kvs vs):kvs.length=vs.length:=Paired.length r
end
theorem qZ{P:Program}{k:Key}{u:Value}(r:RelV (kV k) u):(aV P w).is k u=true:=by cases k with|inl i=>obtain⟨t,e⟩:=(show ∃t,u=Value.int i t from r);subst e;exact xm P w i t|inr x=>obtain⟨t,e⟩:=(show ∃t,u=Value.str x t from r);subst e;exact xM P w x t
theorem tO{P:Program}{w:World}:∀{ks:List Key}{us:List Value},Vals (ks.map kV) us->ItemsAre (aV P w) ks us|[],_,r=>by rw[map_nil]at r;cases r;exact .nil|k::ks,_,r=>by rw[map_cons]at r;cases r with|cons h t=>exact .cons (qZ h) (tO t)
abbrev KT(H:Hp):List (List Key×V)->List (List Key×Addr×Value)->Prop:=Paired λp q=>p.1=q.1/\H q.2.1=some (.tup (p.1.map kV))/\RelV p.2 q.2.2
theorem KT.val{kvs:List (List Key×V)}{xs:List (List Key×Addr×Value)}(r:KT H kvs xs)(k:List Key):oO (je kvs k) ((atKey xs k).map (·.2)):=by induction r with|nil=>exact True.intro|@cons p q ps a h t f=>
   obtain⟨h1,_,g⟩:=h;by_cases e:p.1=k
   . have c:q.1=k:=h1.symm.trans e;have b:atKey (q::a) k=some q.2:=by simp[atKey,find?_cons,c]
     rw[kZ e,b];exact g
   . have c:¬ q.1=k:=λz=>e (h1.trans z);have b:atKey (q::a) k=atKey a k:=by simp[atKey,find?_cons,c]
     rw[lH e,b];exact f
theorem KT.repl{kvs:List (List Key×V)}{xs:List (List Key×Addr×Value)}(r:KT H kvs xs)(k:List Key){u:Value}(c:RelV y u):KT H (kvs.map λa=>if a.1=k then(a.1,y)else a) (xs.map (putAt k u)):=by induction r with|nil=>exact .nil|@cons p q ps i h t f=>
   rw[map_cons,map_cons];refine .cons ?_ f;obtain⟨h1,b,g⟩:=h;unfold putAt;by_cases e:p.1=k;.rw[if_pos e,if_pos (h1.symm.trans e)];exact⟨h1,b,c⟩
   .rw[if_neg e,if_neg (λz=>e (h1.trans z))];exact⟨h1,b,g⟩
theorem KT.put{kvs:List (List Key×V)}{xs:List (List Key×Addr×Value)}(r:KT H kvs xs)(k:List Key){b:Addr}{u:Value}(c:H b=some (.tup (k.map kV)))(a:RelV y u):KT H (putK kvs k y) (storedH xs k b u):=by
 have e:(kvs.any λf=>decide (f.1=k))=(atKey xs k).isSome:=by rw[qH,(r.val k).gY,isSome_map]
 unfold putK storedH;rw[e];by_cases q:(atKey xs k).isSome=true;.rw[if_pos q,if_pos q];exact r.repl k a
 .rw[if_neg q,if_neg q];exact Paired.snoc r ⟨rfl,c,a⟩
theorem KT.keeps{a:Hp}{kvs:List (List Key×V)}{xs:List (List Key×Addr×Value)}(r:KT H kvs xs)(ht:∀b ys,H b=some (.tup ys)->a b=some (.tup ys)):KT a kvs xs:=Paired.Q4 r λ_ _ z=>⟨z.1,ht _ _ z.2.1,z.2.2⟩
section
variable{P:Program}{w:World}{H:Hp}{h:Heap}{a:Addr}
theorem Px{u:HO}(ok:mO P w H h)(e:Rd H a u):bz P w H h a u:=e.ok ok
theorem qK{kvs:List (Key×V)}(ok:mO P w H h)(e:Rd H a (.dK kvs)):kvs.length<=sizeLine/\(a==sysModules)=false/\∃vs,KV kvs vs/\h.DictOf (aV P w) a vs:=show bz P w H h a (.dK kvs)from Px ok e
theorem O5{kvs:List (Key×V)}(ok:mO P w H h)(e:H a=some (.dK kvs)):kvs.length<=sizeLine/\(a==sysModules)=false/\∃vs,KV kvs vs/\h.DictOf (aV P w) a vs:=qK ok (.inl e)
theorem mX{ks:List Key}(ok:mO P w H h)(e:H a=some (.tup (ks.map kV))):(tupleKind (aV P w)).is h ks a:=by obtain⟨_,b,r,o,h1,c,n,f⟩:=(show bz P w H h a (.tup (ks.map kV))from ok a _ e);exact⟨o,b.toArray,n,h1,c,f,by simpa using tO r⟩
theorem pI{kvs:List (List Key×V)}(ok:mO P w H h)(e:Rd H a (.dT kvs)):kvs.length<=sizeLine/\(a==sysModules)=false/\∃xs,KT H kvs xs/\h.DictOfH (tupleKind (aV P w)) a xs:=by
 obtain⟨z,y,xs,r,o,es,ep,h1,c,f,g,i⟩:=(show bz P w H h a (.dT kvs)from Px ok e);refine⟨z,y,xs,r,o,es,ep,h1,c,f,g,λx hx=>?_,i⟩;have all:∀{l:List (List Key×V)}{m:List (List Key×Addr×Value)},KT H l m->∀x∈m,(tupleKind (aV P w)).is h x.1 x.2.1:=by intro l m q;induction q with|nil=>intro x hx;exact nomatch hx|@cons p q ps k b t j=>
    intro x hx;rcases mem_cons.mp hx with e|hx;.subst e;exact mX ok (by rw[<-b.1];exact b.2.1)
    .exact j x hx
 exact all r x hx
theorem Xl{kvs:List (List Key×V)}(ok:mO P w H h)(e:H a=some (.dT kvs)):kvs.length<=sizeLine/\(a==sysModules)=false/\∃xs,KT H kvs xs/\h.DictOfH (tupleKind (aV P w)) a xs:=pI ok (.inl e)
end
def m8(H:Hp)(a:Addr)(y:V)(r:Option V):Prop:=(∃kvs k,Rd H a (.dK kvs)/\y=kV k/\r=je kvs k)\/∃kvs k b,Rd H a (.dT kvs)/\y=.ref b/\H b=some (.tup (k.map kV))/\r=je kvs k
def XC(H:Hp)(a:Addr)(y v:V)(c:Hp):Prop:=(∃kvs k,H a=some (.dK kvs)/\y=kV k/\kvs.length<sizeLine/\c=upd H a (.dK (putK kvs k v)))\/∃kvs k b,H a=some (.dT kvs)/\y=.ref b/\H b=some (.tup (k.map kV))/\kvs.length<sizeLine/\c=upd H a (.dT (putK kvs k v))
section
variable{X:Cx}{pins:List (Addr×Obj)}{σ:St}{H:Hp}{s:Shared}{a:Addr}{y v:V}{u r:Value}{o:Option V}{A:Around}{E:Value->Shared->Prop}
theorem Inv.big(I:Inv X pins σ H s):sysModules<s.heap.objs.size:=by have h:mainGlobals<s.heap.objs.size:=(I.mod.glob.keeps I.bk).lt;exact Nat.lt_trans (by decide) h
theorem mV(B:A.units+1<cLine)(I:Inv X pins σ H s)(g:m8 H a y (some v))(t:RelV y u)(h:∀f x,Inv X pins σ H x->RelV v f->Q f x):wpAny (model X.prog X.w) A (getItem (.ref a) u) Q E s:=by
 rcases g with⟨kvs,k,e,i,l⟩|⟨kvs,k,b,e,i,C,l⟩;.subst i;obtain⟨z,hd,vs,c,j⟩:=qK I.hok e;obtain⟨f,m,n⟩:=oO.some_of (v:=v) (o:=valueAt vs k) (by rw[l];exact c.val k);exact wpAny_getItem_of (qZ t) j.mapOf m (h f _ (I.tok _) n)
 .subst i;cases(show u=Value.ref b from t);obtain⟨z,hd,xs,c,j⟩:=pI I.hok e;obtain⟨f,m,n⟩:=oO.some_of (v:=v) (o:=(atKey xs k).map (·.2)) (by rw[l];exact c.val k);obtain⟨p,G,q⟩:=map_eq_some_iff.mp m;refine wpAny_getItem_heap (tupleKind_room_in1 B) (mX I.hok C) j G ?_;rw[q];exact h f _ (I.tok _) n
theorem W4(n:A.units+1<cLine)(I:Inv X pins σ H s)(g:m8 H a y o)(j:RelV y u)(h:∀m,Inv X pins σ H m->Q (.bool o.isSome) m):wpAny (model X.prog X.w) A (compareOp .In u (.ref a)) Q E s:=by
 rcases g with⟨kvs,k,e,f,l⟩|⟨kvs,k,b,e,f,p,l⟩;.subst f;obtain⟨z,hd,vs,c,i⟩:=qK I.hok e;refine wpAny_in_of (qZ j) hd i.mapOf ?_;rw[<-(c.val k).gY,<-l];exact h _ (I.tok _)
 .subst f;cases(show u=Value.ref b from j);obtain⟨z,hd,xs,c,i⟩:=pI I.hok e;refine wpAny_in_heap (tupleKind_room_in1 n) (mX I.hok p) hd i ?_;have q:=(c.val k).gY;rw[isSome_map]at q;rw[<-q,<-l];exact h _ (I.tok _)
theorem Cp(n:A.units+1<cLine)(I:Inv X pins σ H s)(g:m8 H a y o)(j:RelV y u)(h:∀m,Inv X pins σ H m->Q (.bool (!o.isSome)) m):wpAny (model X.prog X.w) A (compareOp .NotIn u (.ref a)) Q E s:=by
 rcases g with⟨kvs,k,e,f,l⟩|⟨kvs,k,b,e,f,p,l⟩;.subst f;obtain⟨z,hd,vs,c,i⟩:=qK I.hok e;refine wpAny_notIn_of (qZ j) hd i.mapOf ?_;rw[<-(c.val k).gY,<-l];exact h _ (I.tok _)
 .subst f;cases(show u=Value.ref b from j);obtain⟨z,hd,xs,c,i⟩:=pI I.hok e;refine wpAny_notIn_heap (tupleKind_room_in1 n) (mX I.hok p) hd i ?_;have q:=(c.val k).gY;rw[isSome_map]at q;rw[<-q,<-l];exact h _ (I.tok _)
theorem vz{h':Heap}{t':Nat}{c:HO}(I:Inv X pins σ H s)(g:YL (H a))(hs:SameBut a s.heap h')(he:∃q,h'.get? a=some q)(f:bz X.prog X.w (upd H a c) h' a c):Inv X pins σ (upd H a c) {s with heap:=h',toks:=t'}:=I.write (x:=a) (e:=a) g (.inl rfl) (λb q h z=>(hs.2 b h).trans z) he f
theorem HW{P:Program}{c:Hp}{h':Heap}{kvs:List (Key×V)}{vs:List (Key×Value)}(z:kvs.length<=sizeLine)(hd:(a==sysModules)=false)(b:KV kvs vs)(e:h'.DictOf (aV P w) a vs):bz P w c h' a (.dK kvs):=⟨z,hd,vs,b,e⟩
theorem CZ{x:Hp}{Q:Unit->Shared->Prop}(M:A.units+1<cLine)(I:Inv X pins σ H s)(g:XC H a y v x)(B:RelV y u)(C:RelV v r)(h:∀G,Inv X pins σ x G->Q () G):wpAny (model X.prog X.w) A (setItem (.ref a) u r) Q E s:=by
 rcases g with⟨kvs,k,e,m,l,n⟩|⟨kvs,k,b,e,m,J,l,n⟩
 . subst m n;obtain⟨z,hd,vs,f,p⟩:=O5 I.hok e;have hz:vs.length<=sizeLine:=by rw[<-f.length];exact z
   have t:(putK kvs k v).length<=sizeLine:=by have:=jh kvs k v;omega
   refine wpAny_setItem_pairs (hsz:=hz) (qZ B) p λh' i hs=>h _ ?_;have he:∃q,h'.get? a=some q:=let⟨q,_,_,j,_⟩:=i;⟨q,j⟩;exact vz I (by rw[e];exact True.intro) hs he (HW t hd (f.put k C) i)
 . subst m n;cases(show u=Value.ref b from B);obtain⟨z,hd,xs,f,p⟩:=Xl I.hok e;have hz:xs.length<=sizeLine:=by rw[<-Paired.length f];exact z
   have t:(putK kvs k v).length<=sizeLine:=by have:=jh kvs k v;omega
   refine wpAny_setItem_heap (hsz:=hz) (tupleKind_room_in1 M) (mX I.hok J) p λh' i hs=>h _ ?_;obtain⟨q,es,ep,j,N,O,U,_,W⟩:=i;refine vz I (by rw[e];exact True.intro) hs ⟨q,j⟩ ⟨t,hd,_,(f.put k J C).keeps λc ys L=>?_,q,es,ep,j,N,O,U,W⟩;rw[aA (Xp L e (λz=>nomatch z))];exact L
end
def Ke(i:Expr):Prop:=∀a iv,subscripted i false a iv=operate [a,iv] (getItem a iv)
theorem zZ{prog:Program}{A:Around}{E:Value->Shared->Prop}{s:Shared}{env:Env}{a slice:Expr}{T id:String}(l:typeLookup (.type T) "__getitem__"=pure (some (.builtin id)))(hs:Ke slice)(h:wpAny (model prog w) A (eval a env) (λo e=>wpAny (model prog w) A (eval slice env) (λi b=>b.TypeIs o T/\wpAny (model prog w) A (getItem o i) Q E b) E e) E s):wpAny (model prog w) A (eval (.Subscript a slice pos) env) Q E s:=by
 refine Subscript_ (wpAny_mono h (λo e g=>wpAny_mono g (λi b c=>?_) λ_ _ x=>x) λ_ _ x=>x);obtain⟨k,c⟩:=c;unfold subscriptTail;refine wpAny_bind ?_;rw[getitemInPython_of_ne k.not_modules];refine wpAny_bind (wpAny_specialOf k l ?_);have fin:wpAny (model prog w) A (subscripted slice false o i) (λr f=>wpAny (model prog w) A (letTemporaryGo a o r>>=λ_=>pure r) Q E f) E b:=by rw[hs o i];exact wpAny_operating (wpAny_mono c (λr f j=>wpAny_bind (wpAny_letTemporaryGo (wpAny_pure j))) λ_ _ x=>x)
 first|exact wpAny_pure (wpAny_bind fin)|exact wpAny_bind (wpAny_pure (wpAny_bind fin))|exact wpAny_bind fin
theorem jq{c:List (Addr×Obj)}{σ:St}{s:Shared}{a:Addr}{o:Option V}(I:Inv X c σ H s)(g:m8 H a y o):s.TypeIs (.ref a) "dict":=by
 rcases g with⟨kvs,k,e,_,_⟩|⟨kvs,k,b,e,_,_,_⟩;.obtain⟨_,_,vs,_,f⟩:=qK I.hok e;exact f.typeIs
 .obtain⟨_,_,xs,_,f⟩:=pI I.hok e;exact f.typeIs
def Yy(c ty:TE):TE:=λσ H Q=>c σ H λx e=>ty σ e λy b=>∃a v,x=.ref a/\m8 b a y (some v)/\Q v b
def acA(ty c:TE):TE:=λσ H Q=>ty σ H λy e=>c σ e λx b=>∃a o,x=.ref a/\m8 b a y o/\Q (.bl o.isSome) b
def Ka(ty c:TE):TE:=λσ H Q=>ty σ H λy e=>c σ e λx b=>∃a o,x=.ref a/\m8 b a y o/\Q (.bl (!o.isSome)) b
def Wr(c ty e:TE):TS:=λD σ H=>e σ H λv f=>c σ f λx g=>ty σ g λy h=>∃a b,x=.ref a/\XC h a y v b/\D.nx σ b
section
variable{X:Cx}{o i e value:Expr}{pos pos' tpos:Pos}{td ty tv:TE}
theorem KQ(c:X.A.units+1<cLine)(ho:PE X o td)(hi:PE X i ty)(hs:Ke i):PE X (.Subscript o i pos) (Yy td ty):=by intro b s σ H Q I h;refine zZ PySem.F.slot_dict_getitem.lookup hs (bT (ho b s σ H _ I h) λu s1⟨x,H1,I1,rx,q1⟩=>bT (hi b s1 σ H1 _ I1 q1) λiv s2⟨y,H2,I2,ry,a,v,ex,g,q2⟩=>?_);subst ex;obtain rfl:u=Value.ref a:=rx;exact⟨jq I2 g,mV c I2 g ry λk s3 f j=>⟨v,H2,f,j,q2⟩⟩
theorem Rc(c:X.A.units+1<cLine)(hi:PE X i ty)(ho:PE X o td):PC X .In i o (acA ty td):=by intro b s σ H Q I h;refine bT (hi b s σ H _ I h) λiv s1⟨y,H1,I1,ry,q1⟩=>bT (ho b s1 σ H1 _ I1 q1) λu s2⟨x,H2,I2,rx,a,ov,ex,g,q2⟩=>?_;subst ex;obtain rfl:u=Value.ref a:=rx;exact W4 c I2 g ry λs3 f=>⟨.bl ov.isSome,H2,f,rfl,q2⟩
theorem Ei(c:X.A.units+1<cLine)(hi:PE X i ty)(ho:PE X o td):PC X .NotIn i o (Ka ty td):=by intro b s σ H Q I h;refine bT (hi b s σ H _ I h) λiv s1⟨y,H1,I1,ry,q1⟩=>bT (ho b s1 σ H1 _ I1 q1) λu s2⟨x,H2,I2,rx,a,ov,ex,g,q2⟩=>?_;subst ex;obtain rfl:u=Value.ref a:=rx;exact Cp c I2 g ry λs3 f=>⟨.bl (!ov.isSome),H2,f,rfl,q2⟩
theorem Aw(c:X.A.units+1<cLine)(ho:PE X o td)(hi:PE X i ty)(f:PE X value tv)(hs:swapsWith value (some (.Subscript o i pos')) pos.line X.env=pure false):PS X (.Assign [.Subscript o i pos'] value pos) (Wr td ty tv):=by intro b s σ H D I h;refine wpAny_Assign_Subscript (bT (f b s σ H _ I h) λr s1⟨v,H1,I1,rv,q1⟩=>bT (ho b s1 σ H1 _ I1 q1) λu s2⟨x,H2,I2,rx,q2⟩=>bT (hi b s2 σ H2 _ I2 q2) λiv s3⟨y,H3,I3,ry,a,H4,ex,g,q3⟩=>?_) hs;subst ex;obtain rfl:u=Value.ref a:=rx;exact CZ c I3 g ry rv λs4 j=>⟨σ,H4,j,q3⟩
end
theorem xG{P:Program}(h:Heap)(a:sysModules<h.objs.size):bz P w H (h.push {cls:=.type "dict",data:=.dict #[]}) h.objs.size (.dK []):=⟨n8,beq_eq_false_iff_ne.mpr (Ne.symm (ne_of_lt a)),[],.nil,Heap.DictOf.new h⟩
def Qu:TE:=λ_ H Q=>∀p,H p=none->Q (.ref p) (upd H p (.dK []))
section
variable{X:Cx}{pos:Pos}
theorem vX:PE X (.Dict [] [] pos) Qu:=λb s σ H Q I h=>wpAny_Dict_empty ⟨.ref s.heap.objs.size,_,I.laid (a:=s.heap.objs.size) (o:=.dK []) (t':=s.toks) (λ_ _ q=>fJ q) (cO) (xG s.heap I.big),rfl,h _ (I.hok.fresh (cO))⟩
end
def zJ:List (TE×TE)->St->Hp->(List (V×V)->Hp->Prop)->Prop|[],_,H,Q=>Q [] H|(tk,a)::r,σ,H,Q=>tk σ H λx b=>a σ b λy c=>zJ r σ c λps e=>Q ((x,y)::ps) e
abbrev VV:List (V×V)->List (Value×Value)->Prop:=Paired λp q=>RelV p.1 q.1/\RelV p.2 q.2
def ZD(X:Cx)(pos:Pos)(keys:List (Option Expr))(a:List Expr)(e:List (TE×TE)):Prop:=∀(b:List (Addr × Obj))(s:Shared)(σ:St)(H:Hp)(Q:List (V × V)->Hp->Prop),Inv X b σ H s->zJ e σ H Q->wpAny (model X.prog X.w) X.A (evalPairs (pairTrees keys a X.env pos)) (λvs f=>∃ps c,Inv X b σ c f/\VV ps vs/\Q ps c) X.xe s
theorem Lf:ZD X pos [] [] []:=λa s σ H Q I h=>pairTrees_nil_walk ⟨[],H,I,.nil,h⟩
theorem JD{k v:Expr}{ks:List (Option Expr)}{vs:List Expr}{tk b:TE}{c:List (TE×TE)}(e:PE X k tk)(f:PE X v b)(hr:ZD X pos ks vs c):ZD X pos (some k::ks) (v::vs) ((tk,b)::c):=λa s σ H Q I h=>pairTrees_cons_walk (bT (e a s σ H _ I h) λu s1⟨x,H1,I1,rx,q1⟩=>bT (f a s1 σ H1 _ I1 q1) λg s2⟨y,H2,I2,ry,q2⟩=>bT (hr a s2 σ H2 _ I2 q2) λws s3⟨ps,H3,I3,rel,q3⟩=>⟨(x,y)::ps,H3,I3,.cons ⟨rx,ry⟩ rel,q3⟩)
noncomputable def nC(kvs more:List (Key×V)):List (Key×V):=more.foldl (λa b=>putK a b.1 b.2) kvs
theorem KV.merge:∀{more:List (Key×V)}{rs:List (Key×Value)}{kvs:List (Key×V)}{vs:List (Key×Value)},KV more rs->KV kvs vs->KV (nC kvs more) (merged vs rs):=by intro more rs kvs vs r;unfold KV at r;induction r generalizing kvs vs with|nil=>intro q;exact q|@cons p q ps b h t a=>
   intro r0;have e:KV (putK kvs p.1 p.2) (stored vs q.1 q.2):=by have:=r0.put p.1 h.2;rw[<-h.1];exact this
   exact a e
theorem jX:∀(more kvs:List (Key×V)),(nC kvs more).length<=kvs.length+more.length|[],kvs=>by show kvs.length<=kvs.length+0;omega|p::r,kvs=>by have h1:=jX r (putK kvs p.1 p.2);have a:=jh kvs p.1 p.2;show(nC (putK kvs p.1 p.2) r).length<=_;rw[length_cons];omega
theorem qT{P:Program}{w:World}:∀{kvs:List (Key×V)}{ws:List (Value×Value)},VV (kvs.map λe=>(kV e.1,e.2)) ws->∃rs,Carries (aV P w) ws rs/\KV kvs rs|[],_,r=>by rw[map_nil]at r;cases r;exact⟨[],True.intro,.nil⟩|p::kvs,_,r=>by rw[map_cons]at r;cases r with|@cons a b as bs h t=>obtain⟨rs,c,q⟩:=qT (P:=P) (w:=w) t;obtain⟨b1,b2⟩:=b;exact⟨(p.1,b2)::rs,⟨qZ h.1,rfl,c⟩,.cons ⟨rfl,h.2⟩ q⟩
def YJ(c:List (TE×TE)):TE:=λσ H Q=>∀p,H p=none->zJ c σ (upd H p (.dK [])) λps a=>a p=some (.dK [])/\∃kvs:List (Key×V),ps=kvs.map (λb=>(kV b.1,b.2))/\kvs.length<=15/\Q (.ref p) (upd a p (.dK (nC [] kvs)))
theorem LR{keys:List (Option Expr)}{b:List Expr}{i:List (TE×TE)}(h:ZD X pos keys b i)(hall:keys.all (·.isSome)=true)(k:keys.length=b.length)(h0:keys≠[])(g:keys.length<=15):PE X (.Dict keys b pos) (YJ i):=by
 intro f s σ H Q I q;have l:=I.hok.fresh (le_refl s.heap.objs.size);have m:=I.laid (a:=s.heap.objs.size) (o:=.dK []) (h':=s.heap.push {cls:=.type "dict",data:=.dict #[]}) (t':=s.toks) (λ_ _ q=>fJ q) (cO) (xG s.heap I.big);refine wpAny_Dict_walk (knd:=aV X.prog X.w) hall k h0 g (bT (h f _ σ _ _ m (q _ l)) λws s2⟨ps,H2,I2,rel,e,kvs,ep,lk,q2⟩=>?_);subst ep;obtain⟨rs,c,n⟩:=qT (P:=X.prog) (w:=X.w) rel;obtain⟨z,hd,p,r0,r⟩:=O5 I2.hok e;cases r0;refine⟨rs,c,r,λh' j hs=>⟨.ref s.heap.objs.size,_,?_,rfl,q2⟩⟩;have hz:(nC [] kvs).length<=sizeLine:=by have h1:=jX kvs [];rw[length_nil]at h1;rw[sizeLine_eq];omega
 have he:∃q,h'.get? s.heap.objs.size=some q:=let⟨q,_,_,hq,_⟩:=j;⟨q,hq⟩;exact vz I2 (by rw[e];exact True.intro) hs he (HW hz hd (n.merge .nil) j)
structure M2(X:Cx)(o:Expr)(m:Str)(apos:Pos)(e f:Expr)(cpos:Pos):Prop where
 base:attributeBase o m X.env (eval o X.env)=eval o X.env
 few:((backTo cpos (starEach [e,f] X.env)).all (λx=>!x.1)&&(backToKw cpos (keywordEach [] X.env)).all (λx=>x.1.isSome)&&decide (([e,f]:List Expr).length+([]:List Keyword).length+(if([]:List Keyword).isEmpty then 0 else 1)<30))=true
 line:(apos.endLine==cpos.line)=true
 trees:backTo cpos (starEach [e,f] X.env)=[(false,eval e X.env),(false,eval f X.env)]
def IsD(H:Hp)(a:Addr):Prop:=(∃kvs,Rd H a (.dK kvs))\/∃kvs,Rd H a (.dT kvs)
theorem Ro{f:List (Addr×Obj)}{σ:St}{s:Shared}{a:Addr}(I:Inv X f σ H s)(d:IsD H a):s.TypeIs (.ref a) "dict"/\(∀b,Value.ref a=.ref b->∃c,s.heap.get? b=some c/\c.dict=none)/\(a==sysModules)=false:=by
 rcases d with⟨kvs,e⟩|⟨kvs,e⟩;.obtain⟨_,hd,vs,_,g⟩:=qK I.hok e;refine⟨g.typeIs,λb q=>?_,hd⟩;cases q;obtain⟨c,_,_,h1,h,_⟩:=g;exact⟨c,h1,h.2.1⟩
 .obtain⟨_,hd,xs,_,g⟩:=pI I.hok e;refine⟨g.typeIs,λb q=>?_,hd⟩;cases q;obtain⟨c,_,_,h1,h,_⟩:=g;exact⟨c,h1,h.2.1⟩
section
variable{X:Cx}{pins:List (Addr×Obj)}{σ:St}{H:Hp}{s:Shared}{a:Addr}{y d:V}{u r:Value}{o:Option V}{A:Around}{E:Value->Shared->Prop}
theorem QK(q:A.units+1<cLine)(I:Inv X pins σ H s)(g:m8 H a y o)(j:RelV y u)(m:RelV d r)(h:∀n p,Inv X pins σ H p->RelV (o.getD d) n->Q n p):wpAny (model X.prog X.w) A (call (.builtin "dict.get") [.ref a,u,r]) Q E s:=by
 rcases g with⟨kvs,k,e,i,l⟩|⟨kvs,k,b,e,i,t,l⟩;.subst i;obtain⟨z,hd,vs,c,f⟩:=qK I.hok e;refine call_meetsIn slot_dict_get f.typeIs PySem.F.entry_dict_get (PySem.F.args_dict_get_3 _ _ _) (meets_dict_get_default (aV X.prog X.w) a (qZ j) hd r) ⟨_,f.mapOf,h _ _ (I.tok _) ?_⟩;rw[l];exact(c.val k).getD m
 .subst i;cases(show u=Value.ref b from j);obtain⟨z,hd,xs,c,f⟩:=pI I.hok e;refine call_meetsIn slot_dict_get f.typeIs PySem.F.entry_dict_get (PySem.F.args_dict_get_3 _ _ _) (meetsH_dict_get_default (tupleKind (aV X.prog X.w)) a b hd r) ⟨tupleKind_room_in1 q,k,xs,mX I.hok t,f,h _ _ (I.tok _) ?_⟩;rw[l];exact(c.val k).getD m
end
def Ti(e ty f:TE):TE:=λσ H Q=>e σ H λx b=>∃a,x=.ref a/\IsD b a/\ty σ b λy g=>f σ g λz c=>∃o,m8 c a y o/\Q (o.getD z) c
section
variable{X:Cx}{o e f:Expr}{apos cpos:Pos}{td ty tx:TE}
theorem Jg(c:X.A.units+1<cLine)(ho:PE X o td)(he:PE X e ty)(i:PE X f tx)(m:M2 X o "get" apos e f cpos):PE X (.Call (.Attribute o "get" apos) [e,f] [] cpos) (Ti td ty tx):=by intro b s σ H Q I h;refine wpAny_Call_method m.base m.few m.line PySem.F.plainAttrs_dict slot_dict_get PySem.F.type_dict_get (bT (ho b s σ H _ I h) λu s1⟨x,H1,I1,rx,a,ex,d,q1⟩=>?_);subst ex;obtain rfl:u=Value.ref a:=rx;obtain⟨t1,j,_⟩:=Ro I1 d;refine⟨t1,j,?_⟩;rw[m.trees];refine Calls.callWith_builtin rfl (Calls.evalArgs_plain (Calls.spliced_cons (bT (he b s1 σ H1 _ I1 q1) λiv s2⟨y,H2,I2,ry,q2⟩=>Calls.spliced_cons (bT (i b s2 σ H2 _ I2 q2) λn s3⟨z,H3,I3,rz,ov,g,q3⟩=>Calls.spliced_nil ?_))));exact QK c I3 g ry rz λp s4 k l=>⟨_,H3,k,l,q3⟩
end
end L2
namespace Att
open PySem PySem.W PySem.Calls PyProof.Rows
end Att
namespace L2
open PySem PySem.Spec PyProof.Rows
end L2
end
section
namespace HH
open PySem L2 PySem.Spec PyProof.Rows
variable{kvs:List (Int×D)}{es:List (Key×V)}{k:Int}{i:Nat}
inductive KR(K:PySem.W.Frag)(F:Hp):List (Int×D)->List (Key×V)->Prop where|nil:KR K F [] []|cons{k:Int}{d:D}{v:V}{kvs:List (Int×D)}{es:List (Key×V)}(h:Rep K F v d)(t:KR K F kvs es):KR K F ((k,d)::kvs) ((Sum.inl k,v)::es)
section
variable{K:PySem.W.Frag}{F F':Hp}
noncomputable def ent(ks:List Int)(vs:List V):List (Key×V):=(ks.zip vs).map λp=>(Sum.inl p.1,p.2)
theorem KR.of:∀{kvs:List (Int×D)}{vs:List V},aF K F vs (kvs.map (·.2))->KR K F kvs (ent (kvs.map (·.1)) vs)|[],vs,h=>by rw[map_nil]at h;rw[h.fL];exact .nil|(k,d)::kvs,vs,h=>by obtain⟨v,r,rfl,h1,a⟩:=h.cM;exact .cons h1 (KR.of a)
theorem KR.to(h:KR K F kvs es):∃vs,es=ent (kvs.map (·.1)) vs/\aF K F vs (kvs.map (·.2)):=by induction h with|nil=>exact⟨[],rfl,.nil⟩|@cons k d v kvs es h t a=>obtain⟨vs,rfl,r⟩:=a;exact⟨v::vs,rfl,.cons h r⟩
theorem KR.oc(h:KR K F kvs es):jV K F (.dK es) (.v kvs):=by obtain⟨vs,rfl,r⟩:=h.to;exact⟨vs,rfl,r⟩
theorem KR.QQ{o:HO}(h:jV K F o (.v kvs)):∃es,o=.dK es/\KR K F kvs es:=by obtain⟨vs,rfl,r⟩:=h;exact⟨_,rfl,.of r⟩
theorem KR.len(h:KR K F kvs es):es.length=kvs.length:=by induction h with|nil=>rfl|cons h t a=>simp[a]
theorem KR.get{d:D}(h:KR K F kvs es)(e:kW kvs k=some d):∃v,je es (Sum.inl k:Key)=some v/\Rep K F v d:=by induction h with|nil=>cases e|@cons j d' v kvs es h t a=>
   unfold kW at e a;rw[find?_cons]at e;by_cases c:j=k;.simp[c]at e;subst e;exact⟨v,kZ (by rw[c]),h⟩
   .simp[c]at e;obtain⟨b,h1,f⟩:=a (by simpa using e);exact⟨b,by rw[lH (by simpa using c)];exact h1,f⟩
theorem KR.any{kvs:List (Int×D)}{es:List (Key×V)}(k:Int)(h:KR K F kvs es):(es.any λa=>decide (a.1=(Sum.inl k:Key)))=kvs.any λp=>decide (p.1=k):=by induction h with|nil=>rfl|cons h t b=>simp[b]
theorem KR.has(k:Int)(h:KR K F kvs es):(je es (Sum.inl k:Key)).isSome=(kvs.map (·.1)).contains k:=by rw[<-qH,h.any k];induction h with|nil=>rfl|@cons j d v kvs es h t a=>rw[any_cons,a,map_cons,List.contains_cons];congr 1;exact Bool.eq_iff_iff.mpr ⟨λz=>by simp at z ⊢;exact z.symm,λz=>by simp at z ⊢;exact z.symm⟩
theorem KR.repl{d:D}{v:V}(r:Rep K F v d)(h:KR K F kvs es):KR K F (kvs.map λp=>if p.1=k then(p.1,d)else p) (es.map λa=>if a.1=(Sum.inl k:Key)then(a.1,v)else a):=by induction h with|nil=>exact .nil|@cons j d' e kvs es h t b=>
   by_cases c:j=k;.subst c;simp;exact .cons r b
   . have:¬(Sum.inl j:Key)=Sum.inl k:=by simpa using c
     simp[c,this];exact .cons h b
theorem KR.snoc{d:D}{v:V}(r:Rep K F v d)(h:KR K F kvs es):KR K F (kvs++[(k,d)]) (es++[(Sum.inl k,v)]):=by induction h with|nil=>exact .cons r .nil|cons h t a=>exact .cons h a
theorem KR.put{d:D}{v:V}(r:Rep K F v d)(h:KR K F kvs es):KR K F (gD kvs k d) (putK es (Sum.inl k:Key) v):=by
 unfold gD putK;rw[h.any k];split;.exact h.repl r
 .exact h.snoc r
theorem KR.zip{ks:List Int}{a:List D}{vs:List V}(h:aF K F vs a)(b:ks.length=a.length):KR K F (ks.zip a) (ent ks vs):=by induction a generalizing ks vs with
 |nil=>rw[h.fL];cases ks with|nil=>exact .nil|cons _ _=>simp at b
 |cons d a c=>obtain⟨v,r,rfl,h1,e⟩:=h.cM;cases ks with|nil=>simp at b|cons k ks=>exact .cons h1 (c e (by simpa using b))
end
section
variable{K:PySem.W.Frag}{F F1 H H1:Hp}{ρ ρ1 ρ2:List Sl}{σ σ1:L2.St}
theorem GS.abX{x:Nat}{m p:Dc}{a:Addr}(g:GS K F ρ σ H)(e:ρ[x]?=some (.gA m))(r:σ[x]?=some (some (.ref a))):az K F ρ σ H F (ρ.set x (.gA p)) σ (upd H a p.ho):=by
 have hi:x<ρ.length:=(eG e).1;have v:aQ ρ σ x a:=⟨⟨_,_,e,rfl⟩,r⟩;obtain⟨I,J,h1,L,w,M⟩:=g.own x _ _ e rfl;rw[r]at h1;cases h1;have f:∀{j:Nat}{c:Addr},aQ (ρ.set x (.gA p)) σ j c->aQ ρ σ j c:=λ{j c}⟨⟨t,dt,h,s⟩,q3⟩=>by
  by_cases b:j=x;.subst b;exact⟨⟨_,_,e,rfl⟩,q3⟩
  .rw[eV b]at h;exact⟨⟨t,dt,h,s⟩,q3⟩
 refine⟨⟨λc o q=>?_,by simp[g.len],λj z d q=>?_,λj t dt q u=>?_,λj k c h s=>g.dis j k c (f h) (f s)⟩,.refl _,λc n A=>absurd n A,λc o q n=>?_,λc⟨j,q⟩=>.inl ⟨j,f q⟩,by simp,λj t q l=>⟨rfl,?_⟩⟩
 . have:c≠a:=by rintro rfl;rw[w]at q;cases q
   rw[aA this];exact g.sub c o q
 . by_cases b:j=x;.subst b;rw[getElem?_set_self hi]at q;cases q
   .rw[eV b]at q;exact g.val j z d q
 . by_cases b:j=x;.subst b;rw[getElem?_set_self hi]at q;cases q;cases u;exact⟨a,_,r,aJ,w,rfl⟩
   . rw[eV b]at q;obtain⟨c,B,y,C,E,G⟩:=g.own j t dt q u;have:c≠a:=by rintro rfl;exact b (g.dis j x c ⟨⟨t,dt,q,u⟩,y⟩ v)
     exact⟨c,B,y,by rw[aA this];exact C,E,G⟩
 . have:c≠a:=by rintro rfl;exact n ⟨x,v⟩
   rw[aA this];exact q
 . by_cases b:j=x;.subst b;rw[e]at q;cases q;cases l
   .exact⟨t,by rw[eV b];exact q,.refl t⟩
theorem GS.newD{m:Dc}{a:Addr}(g:GS K F ρ σ H)(e:ρ[i]?=some .aW)(s:H a=none):az K F ρ σ H F (ρ.set i (.gA m)) (σ.set i (some (.ref a))) (upd H a m.ho):=by
 have hi:i<ρ.length:=(eG e).1;have u:i<σ.length:=by rw[<-g.len];exact hi
 have x:F a=none:=by cases q:F a with|none=>rfl|some o=>rw[g.sub a o q]at s;cases s
 have f:∀{j:Nat}{c:Addr},j≠i->aQ (ρ.set i (.gA m)) (σ.set i (some (.ref a))) j c->aQ ρ σ j c:=λ{j c}b⟨⟨t,ds,e1,e2⟩,e3⟩=>by rw[eV b]at e1 e3;exact⟨⟨t,ds,e1,e2⟩,e3⟩
 have h:∀{c:Addr},aQ (ρ.set i (.gA m)) (σ.set i (some (.ref a))) i c->c=a:=λ{c}⟨_,e3⟩=>by rw[getElem?_set_self u]at e3;cases e3;rfl
 have no:∀{j:Nat},¬ aQ ρ σ j a:=λ{j}⟨⟨t,ds,e1,e2⟩,e3⟩=>by obtain⟨c,o,p,r,_⟩:=g.own j t ds e1 e2;rw[e3]at p;cases p;rw[s]at r;cases r
 refine⟨⟨λc o q=>?_,by simp[g.len],λj z d q=>?_,λj t dt q y=>?_,λj k c p r=>?_⟩,.refl _,λc n A=>absurd n A,λc o q n=>?_,λc⟨j,q⟩=>?_,by simp,λj t q l=>?_⟩
 . have:c≠a:=by rintro rfl;rw[x]at q;cases q
   rw[aA this];exact g.sub c o q
 . by_cases b:j=i;.subst b;rw[getElem?_set_self hi]at q;cases q
   .rw[eV b]at q ⊢;exact g.val j z d q
 . by_cases b:j=i;.subst b;rw[getElem?_set_self hi]at q;cases q;cases y;exact⟨a,_,getElem?_set_self u,aJ,x,rfl⟩
   . rw[eV b]at q ⊢;obtain⟨c,o,B,w,C,E⟩:=g.own j t dt q y;have:c≠a:=by rintro rfl;rw[s]at w;cases w
     exact⟨c,o,B,by rw[aA this];exact w,C,E⟩
 . by_cases b:j=i
   . by_cases v:k=i;.rw[b,v]
     .subst b;rw[h p]at r;exact absurd (f v r) no
   . by_cases v:k=i;.subst v;rw[h r]at p;exact absurd (f b p) no
     .exact g.dis j k c (f b p) (f v r)
 . have:c≠a:=by rintro rfl;rw[s]at q;cases q
   rw[aA this];exact q
 . by_cases b:j=i;.subst b;rw[h q];exact .inr s
   .exact .inl ⟨j,f b q⟩
 . have b:j≠i:=by rintro rfl;rw[e]at q;cases q;cases l
   exact⟨by rw[eV b],t,by rw[eV b];exact q,.refl t⟩
end
noncomputable def qG(p:Int×Int):Key×V:=(Sum.inl p.1,V.int p.2)
theorem Iw(i:Int):∀kvs:List (Int×Int),je (kvs.map qG) (Sum.inl i:Key)=((kvs.find? λb=>decide (b.1=i)).map (·.2)).map V.int
 |[]=>rfl|p::kvs=>by
   have a:=Iw i kvs;unfold je at a ⊢;rw[map_cons,find?_cons,find?_cons];by_cases h:p.1=i
   . have e:decide ((qG p).1=(Sum.inl i:Key))=true:=by simp[qG,h]
     rw[e];simp[h,qG]
   . have e:decide ((qG p).1=(Sum.inl i:Key))=false:=by simp[qG,h]
     rw[e];simp only[h,decide_false];exact a
theorem T4(i v:Int)(kvs:List (Int×Int)):putK (kvs.map qG) (Sum.inl i:Key) (V.int v)=(putD kvs i v).map qG:=by
 have e:((kvs.map qG).any λa=>decide (a.1=(Sum.inl i:Key)))=kvs.any λa=>decide (a.1=i):=by rw[List.any_map];congr 1;funext p;simp[qG]
 unfold putK putD;rw[e];split
 . rw[map_map,map_map];refine map_congr_left λp _=>?_;by_cases h:p.1=i;.simp[qG,h]
   .simp[qG,h]
 .rw[map_append];rfl
section
variable{X:Cx}{c:Call}{n:Nat}{a b e:Expr}{pa pb p:P}{pos:Pos}
theorem HR{H:Hp}{q:Addr}{m:Dc}{i:Int}{o:Option Int}(h:Rd H q m.ho)(e:m.get (.int i)=some o):m8 H q (.int i) (o.map V.int):=by cases m with|k kvs=>cases e;exact .inl ⟨kvs.map qG,Sum.inl i,h,rfl,(Iw i kvs).symm⟩|t kvs=>cases e
theorem vm(hu:X.A.units+8<cLine)(M:SX X c a pa)(N:SX X c b pb)(hs:Ke b):SX X c (.Subscript a b pos) (.bin .Ej pa pb):=by refine uy (f:=Be) (λh1 O=>?_) M N (λρ=>rfl) rfl;intro l s σ H Q I h;refine zZ PySem.F.slot_dict_getitem.lookup hs (bT (h1 l s σ H _ I h) λu s1⟨x,H1,I1,rx,q1⟩=>bT (O l s1 σ H1 _ I1 q1) λiv s2⟨y,H2,I2,ry,q2⟩=>?_);obtain⟨F,d,e,r,sm,G,J,he,k⟩:=q2;cases d with
 |dq m=>have U:=bV (show(m.get e).bind (λo=>o.map λv=>R.val (.int v))=some r from he);clear he;obtain⟨o,w,he⟩:=U;cases o with|none=>cases he|some v=>
     cases he;obtain⟨i,rfl⟩:∃i,e=.int i:=by cases m with|t kvs=>cases e<;>cases w|k kvs=>cases e<;>first|exact⟨_,rfl⟩|cases w
     obtain⟨q,z,rfl,B⟩:=G.dq sm;rw[J.int]at ry;obtain rfl:u=Value.ref q:=rx;have g:=HR (.inr ⟨z,B⟩) w;exact⟨jq I2 g,mV (by omega) I2 g ry λW s3 C E=>⟨.int v,H2,C,E,bY.cV sm (bN _) k⟩⟩
 |dv ks Y=>cases e with|int j=>obtain⟨d',Z,he⟩:=map_some (show(kW (ks.zip Y) j).map R.val=some r from he);subst he;obtain⟨q,z,vs,rfl,B,rs,hl⟩:=G.dv sm;obtain⟨L,g1,g2⟩:=(KR.zip rs hl).get Z;rw[J.int]at ry;obtain rfl:u=Value.ref q:=rx;have g:m8 H2 q (.int j) (some L):=.inl ⟨_,Sum.inl j,.inr ⟨z,B⟩,rfl,g1.symm⟩;exact⟨jq I2 g,mV (by omega) I2 g ry λW s3 C E=>⟨L,H2,C,E,bY.cV sm g2 k⟩⟩|_=>cases he
 |_=>cases he
theorem Cd{x:Str}{f h:Pos}(j:X.N.Nodup)(hi:X.N[i]?=some x)(l:Loc X.env.scope x)(hs:swapsWith (.Dict [] [] h) (some (.Name x f)) pos.line X.env=pure false:=by rfl)(o:X.fn x=true\/X.env.scope.names.lookup x=some .local:=by first|exact .inl rfl|exact .inr rfl|assumption):SS X c n (.Assign [.Name x f] (.Dict [] [] h) pos) (.El i false):=by
 refine dM (zM j hi l vX hs o) ?_;rintro D σ H⟨F,ρ,fl,r,g,e,k⟩;rw[HH.X18]at e;split at e;.rename_i q;cases e;exact λa s=>k F _ _ (g.newD (m:=.k []) q s)
 .cases e
theorem FW{x:Str}{C f l:Pos}{pk E:P}(hu:X.A.units+8<cLine)(Y:X.N[i]?=some x)(Z:vQ X.env.scope x)(ha:SX X c a pk)(hb:SX X c b E)(m:M2 X (.Name x C) "get" f a b l)(hd:(x==("__debug__":Str))=false:=by decide)(u:(x==("__classdict__":Str))=false:=by decide):SX X c (.Call (.Attribute (.Name x C) "get" f) [a,b] [] l) (.Uv i pk E):=by
 obtain⟨ta,h1,h2⟩:=ha.cH;obtain⟨tb,h3,h4⟩:=hb.cH;refine⟨fu (Jg (by omega) (eX Y Z hd u) h1 h3 m) ?_,λi h=>by cases h⟩;rintro σ H Q⟨F,ρ,r,ac,g,e,k⟩;rw[HH.E21]at e;split at e
 . rename_i m0 q;obtain⟨y,ae,e1,G⟩:=aj e;clear e;obtain⟨dd,af,e2,s⟩:=aj G;clear G;obtain⟨I,o0,J,L,w3,w4⟩:=g.own i _ _ q rfl;refine⟨.ref I,J,I,rfl,?_,?_⟩;.cases(show o0=m0.ho from w4);cases m0 with|k kvs=>exact .inl ⟨_,.inl L⟩|t kvs=>exact .inr ⟨_,.inl L⟩
   . refine h2 g e1 λv F1 H1 s1 pv=>h4 s1.gs e2 λz M H2 s2 O=>?_;split at s
     . rename_i m1 q1;obtain⟨U,e3⟩:=aC s;clear s;subst e3;obtain⟨o,B,eD⟩:=bV U;clear U;obtain⟨w,e5,e6⟩:=map_some eD;subst e6;obtain⟨a1,o1,W,y2,y3,y4⟩:=s2.gs.own i _ _ q1 rfl;rw[J]at W;cases W;cases(show o1=m1.ho from y4);obtain⟨j,rfl⟩:∃j,y=.int j:=by cases m1 with|t kvs=>cases y<;>cases B|k kvs=>cases y<;>first|exact⟨_,rfl⟩|cases B
       rw[cJ e5]at O;rw[pv.int,O.int];refine⟨o.map V.int,HR (.inl y2) B,?_⟩;have:(o.map V.int).getD (V.int w)=V.int (o.getD w):=by cases o<;>rfl
       rw[this];exact k _ M H2 (s1.trans s2) (show Rep X.K M _ _ from bN _)
     .cases s
 .cases e
theorem Bg{x:Str}{C f:Pos}{pk:P}(hu:X.A.units+8<cLine)(J:X.N[i]?=some x)(L:vQ X.env.scope x)(M:SX X c a pk)(he:SX X c e p)(hs:swapsWith e (some (.Subscript (.Name x C) a f)) pos.line X.env=pure false:=by rfl)(hd:(x==("__debug__":Str))=false:=by decide)(s:(x==("__classdict__":Str))=false:=by decide):SS X c n (.Assign [.Subscript (.Name x C) a f] e pos) (.dput i pk p):=by
 obtain⟨ta,h1,O⟩:=M.cH;refine dM (Aw (by omega) (eX J L hd s) h1 he.ev hs) ?_;rintro D σ H⟨F,ρ,fl,Q,g,e,k⟩;rw[HH.X19]at e;obtain⟨r,u,U,o⟩:=aj e;clear e;refine⟨F,ρ,r,u,g,U,λv F1 H1 s1 W=>?_⟩;split at o
 . rename_i m0 Y;obtain⟨E,Z,e2,h⟩:=aj o;clear o;obtain⟨z,o0,B,w2,w3,w4⟩:=s1.gs.own i _ _ Y rfl;refine⟨.ref z,B,O s1.gs e2 λy F2 H2 s2 py=>?_⟩;split at h
   . rename_i m w q;split at h;.rename_i G l;cases h;obtain⟨a1,o1,I,y2,y3,y4⟩:=s2.gs.own i _ _ q rfl;rw[B]at I;cases I;cases(show o1=m.ho from y4);cases(show v=.int w by have:Rep X.K F1 v (.int w):=W;rwa[Rep]at this);refine⟨z,upd H2 z G.ho,rfl,?_,k F2 σ _ ((s1.trans s2).trans (s2.gs.abX q B))⟩;cases m with|t kvs=>cases E<;>cases l|k kvs=>cases E with|int j=>obtain⟨hl,l⟩:=aU (show(if kvs.length<lim then some (Dc.k (putD kvs j w))else none)=some G from l);subst l;rw[py.int];refine .inl ⟨kvs.map qG,Sum.inl j,y2,rfl,by rw[length_map,sizeLine_eq];exact hl,?_⟩;rw[T4];rfl|_=>cases l
     .cases h
   .cases h
 .cases o
end
end HH
end
section
namespace L2
open PySem PySem.Spec PyProof.Rows
noncomputable def Itk(a:Addr)(b:Obj)(kvs:List (Key×V)):It:=⟨λi H=>H a=some (.dh b (.dK kvs))/\i<kvs.length,λi H x c=>c=H/\∃p,kvs[i]?=some p/\x=kV p.1,λi H=>H a=some (.dh b (.dK kvs))/\kvs.length<=i⟩
theorem KV.get:∀{κ:Type}{kvs:List (κ×V)}{vs:List (κ×Value)}{i:Nat}{p:κ×V},KV kvs vs->kvs[i]?=some p->∃v,vs[i]?=some (p.1,v)|_,_,_,_,_,.nil,e=>by simp at e|_,_,_,0,_,.cons r _,e=>by simp at e;subst e;exact⟨_,by rw[List.getElem?_cons_zero,r.1]⟩|_,_,_,i+1,p,.cons _ t,e=>by obtain⟨v,h⟩:=KV.get (i:=i) (p:=p) t (by simpa using e);exact⟨v,by simpa using h⟩
theorem sI{X:Cx}{b:List (Addr×Obj)}{σ:St}{H:Hp}{s:Shared}{a:Addr}{c:Obj}{kvs:List (Key×V)}{es:Array DictEntry}{ep:Nat}(I:Inv X b σ H s)(h:H a=some (.dh c (.dK kvs)))(hd:c.data=.dict es ep):(a==sysModules)=false/\∃vs,KV kvs vs/\s.heap.DictAt (aV X.prog X.w) a vs ep:=by obtain⟨ho,hz,f,vs,r,g⟩:=(show bz X.prog X.w H s.heap a (.dh c (.dK kvs))from I.hok a _ h);obtain⟨o,i,j,h1,k,e,l⟩:=g;rw[ho]at h1;cases h1;rw[hd]at e;cases e;exact⟨f,vs,r,⟨c,es,ho,k,hd,l⟩⟩
theorem RP{P:Program}{w:World}{k:Key}{u:Value}(h:(aV P w).is k u=true):RelV (kV k) u:=by
 rcases bA h with⟨i,t,rfl,rfl⟩|⟨x,t,rfl,rfl⟩;.exact⟨t,rfl⟩
 .exact⟨t,rfl⟩
theorem CK{P:Program}{w:World}{K:PySem.W.Frag}{C:Expr}(a it:Addr)(B:Obj)(kvs:List (Key×V))(es:Array DictEntry)(ep:Nat)(hd:B.data=.dict es ep):Turn P w K C (Itk a B kvs) [it] it (λi h=>h.IsKeyIter it a i kvs.length ep)where
 mem:=by simp
 obj:=λi h st b g=>by
  have e:b=it:=by simpa using g
  subst e;obtain⟨o,e,c,d⟩:=st;exact⟨o,e,λv z=>by rw[d]at z;cases z⟩
 keep:=λi h h' st k=>st.at λo e=>k it (by simp) o e;item:=by intro X n p q hc i f s σ H E I m st t;subst n p q;obtain⟨x,hi⟩:=t;obtain⟨G,vs,r,y⟩:=sI I x hd;have l:vs.length=kvs.length:=(Paired.length r).symm;obtain⟨v,J⟩:=KV.get r (show kvs[i]?=some kvs[i]by simp[hi]);obtain⟨f0,f1,f2,f3,f4,f5⟩:=m it (by simp);refine wpAny_pyNext_dict_item (by rw[l];exact st) y J λu h' L j M=>?_;have N:Inv X f σ H {s with heap:=h'}:=I.turned (t':=s.toks) (λb o g e=>(M.2 b g).trans e) f0 f1 f3 f4 f5;rw[l]at j;obtain⟨o,e,c,d⟩:=id j;exact⟨u,rfl,Av (s:={s with heap:=h'}) e c d (by decide) ⟨_,H,N,RP L,⟨rfl,_,by simp[hi],rfl⟩,j,λb g=>(m b g).1⟩⟩
 done:=by intro X n p q hc i f s σ H E I m st t;subst n p q;obtain⟨x,hi⟩:=t;obtain⟨G,vs,r,y⟩:=sI I x hd;have l:vs.length=kvs.length:=(Paired.length r).symm;obtain⟨f0,f1,f2,f3,f4,f5⟩:=m it (by simp);refine wpAny_pyNext_dict_end (I.ok.hd hc) (by rw[l];exact st) y (by simp[l,hi]) λh' he=>⟨rfl,?_⟩;exact I.turned (t':=s.toks) (λb o g e=>he b o g e) f0 f1 f3 f4 f5
 self:=λA i s Q E st O=>wpAny_pyIter_keyiter st O
section
variable{X:Cx}{tg:Expr}
theorem MK{l:Expr}{k:TE}(n:PE X l k):PI X tg l (λσ H R=>k σ H λx f=>∃a c kvs,x=.ref a/\f a=some (.dh c (.dK kvs))/\R (Itk a c kvs) f):=by
 intro g s σ H R I h;refine bT (n g s σ H _ I h) ?_;rintro v s1⟨x,f,j,r1,a,c,kvs,e,p,q⟩;subst e;cases r1;obtain⟨ho,hz,t,vs,r,u⟩:=(show bz X.prog X.w f s1.heap a (.dh c (.dK kvs))from j.hok a _ p);obtain⟨o,es,ep,h1,y,m,z⟩:=id u;rw[ho]at h1;cases h1;have i:vs.length=kvs.length:=(Paired.length r).symm;refine wpAny_pyIter_dict (knd:=aV X.prog X.w) (kvs:=vs) (ep:=ep) t ⟨c,es,ho,y,m,z⟩ ?_;refine⟨s1.heap.objs.size,[s1.heap.objs.size],_,_,f,rfl,j.kept (t':=s1.toks) λb o e=>fJ e,CK a _ c kvs es ep m,⟨_,get?_push_size _ rfl,rfl,by rw[i];rfl⟩,λb A=>?_,q⟩;have e:b=s1.heap.objs.size:=by simpa using A
 subst e;exact j.Jt (cO) (j.hok.fresh (cO))
end
end L2
namespace HH
open PySem L2 PySem.Spec PyProof.Rows
section
variable{X:Cx}{c:Call}{tg e:Expr}{p:P}
theorem M6{ks:List Int}{es:List (Key×V)}{j:Nat}{p:Key×V}{i:Int}(h:es.map (·.1)=ks.map (Sum.inl:Int->Key))(a:es[j]?=some p)(b:ks[j]?=some i):p.1=Sum.inl i:=by
 have:(es.map (·.1))[j]?=(ks.map (Sum.inl:Int->Key))[j]?:=by rw[h]
 rw[getElem?_map,getElem?_map,a,b]at this;exact Option.some.inj this
theorem p6:∀{ks:List Int}{vs:List V},ks.length=vs.length->(ent ks vs).map (·.1)=ks.map (Sum.inl:Int->Key)|[],[],_=>rfl|k::ks,v::vs,h=>by have:=p6 (ks:=ks) (vs:=vs) (by simpa using h);unfold ent at this ⊢;simpa using this|[],_::_,h=>by simp at h|_::_,[],h=>by simp at h
theorem KC(h:SX X c e p):SI X c tg e (.blt .keys [p]):=by
 unfold SI;obtain⟨ta,h1,W⟩:=h.cH;refine qQ (MK h1) ?_;rintro σ H R⟨F,ρ,A,B,g,Y,k⟩;obtain⟨r,o,I,Z⟩:=aj (show((HH.ev c (.blt .keys [p]) ρ).bind λr ρ=>lift (items r.d) ρ)=.ok A B from Y);obtain⟨J,e3⟩:=aC Z;subst e3;rw[HH.E16]at I;obtain⟨d,ac,e1,eE⟩:=aj I;obtain⟨y,e4⟩:=aC eE;subst e4;refine W g e1 λv F' L s M=>?_;have hd:∃(ks:List Int)(es:List (Key×V))(a:Addr)(b:Obj),A=ks.map D.int/\v=.ref a/\L a=some (.dh b (.dK es))/\es.map (·.1)=ks.map (Sum.inl:Int->Key):=by cases d with
  |dq m=>cases m with|k kvs=>cases y;cases J;obtain⟨a,b,rfl,f⟩:=M.dq s.gs.sub;exact⟨kvs.map (·.1),kvs.map qG,a,b,by rw[map_map];rfl,rfl,f,by rw[map_map,map_map];rfl⟩|t kvs=>cases y
  |dv ks ae=>cases y;cases J;obtain⟨a,b,vs,rfl,f,rs,hl⟩:=M.dv s.gs.sub;exact⟨ks,ent ks vs,a,b,rfl,rfl,f,p6 (by rw[rs.length];exact hl)⟩|_=>cases y
 obtain⟨ks,es,a,b,rfl,rfl,f,u⟩:=hd;have C:es.length=ks.length:=by have:=congrArg List.length u;simpa using this
 refine⟨a,b,es,rfl,f,k _ F' L ⟨s.gs,λn j N o E H2 s2=>?_,λN o E H2 s2=>⟨s.trans s2,λv r rr=>rr.later s⟩⟩⟩;have gm:=s.gs.more (n:=n) (τ:=replicate n none) (by simp);have w:=s2.keep a _ f λ⟨j,⟨t,dt,q1,q2⟩,q3⟩=>by obtain⟨a',o',O,Q,z3,G⟩:=gm.own j t dt q1 q2;rw[q3]at O;cases O;rw[f]at Q;cases Q;cases dt with|l A=>obtain⟨xs,z,_⟩:=G;cases z|d m=>cases m<;>cases G|v kvs=>obtain⟨xs,z,_⟩:=G;cases z
 refine⟨λd hd=>?_,λU=>⟨w,by rw[C];simpa using U⟩⟩;have U:j<ks.length:=by have:=(eG hd).1;simpa using this
 refine⟨⟨w,by omega⟩,λx vL⟨e5,q,e6,e7⟩=>?_⟩;subst e5;refine⟨N,.refl s2.gs.sub,?_⟩;rw[getElem?_map]at hd;obtain⟨i,e8,e9⟩:=map_some hd;rw[e7,M6 u e6 e8,<-e9];exact bN _
end
end HH
end
section
namespace HH
open PySem L2 PySem.Spec PyProof.Rows PySem.Calls PySem.W
section
variable{X:Cx}{c:Call}{a:Expr}{pa:P}{pos:Pos}
theorem lU:∀{ns:List Int}{us:List Value},IntsAre us ns->Vals (ns.map V.int) us|_,_,.nil=>.nil|_,_,.cons n t r=>.cons ⟨t,rfl⟩ (lU r)
theorem tL{K:PySem.W.Frag}{F:Hp}:∀ns:List Int,aF K F (ns.map V.int) (ns.map D.int)|[]=>.nil|n::ns=>.cons (bN n) (tL ns)
end
end HH
end
section
namespace HH
open PySem L2 PySem.Spec PyProof.Rows
theorem Inv.acF{X:Cx}{c:List (Addr×Obj)}{σ:L2.St}{H:Hp}{s:Shared}{a:Addr}{kvs:List (List Key×V)}(I:L2.Inv X c σ H s)(h:H a=some (.dT kvs)):∃o,L2.Inv X c σ (upd H a (.dh o (.dT kvs))) s:=by obtain⟨z,y,xs,r,o,es,ep,h1,f,g,i,j⟩:=(show bz X.prog X.w H s.heap a (.dT kvs)from I.hok a _ h);refine⟨o,I.write (h':=s.heap) (t':=s.toks) (by rw[h];exact trivial) (.inl rfl) (λb u _ e=>e) ⟨o,h1⟩ ⟨h1,z,y,xs,KT.keeps r λb ys q=>?_,o,es,ep,h1,f,g,i,j⟩⟩;rw[aA (by rintro rfl;rw[h]at q;cases q)];exact q
section
variable{X:Cx}{c:Call}{n:Nat}{a b e:Expr}{p pa pb:P}{pos:Pos}{es:List Expr}{ps:List P}{x1:Nat}{tpos:Pos}
theorem Iz{i:Nat}{x:Str}{A:Pos}(B:X.N[i]?=some x)(C:vQ X.env.scope x)(hd:(x==("__debug__":Str))=false:=by decide)(w:(x==("__classdict__":Str))=false:=by decide):SX X c (.Name x A) (.vw i):=by
 have h:=eX (X:=X) (pos:=A) B C hd w;refine⟨?_,λi h=>by cases h⟩;rintro f s σ H Q I⟨F,ρ,r,E,g,e,k⟩;rw[HH.E22]at e;split at e
 . rename_i m q;cases e;obtain⟨a,h1,j,l⟩:=g.BP q;refine bT (h f s σ H (λv y=>v=.ref a/\y=H) I ⟨.ref a,h1,rfl,rfl⟩) λu s1⟨v,H1,I1,r1,e1,e2⟩=>?_;subst e1 e2;have G:∃o,L2.Inv X f σ (upd H1 a (.dh o m.ho)) s1:=by cases m with|k kvs=>exact Inv.Ga I1 j|t kvs=>exact Inv.acF I1 j
   obtain⟨o,z⟩:=G;exact⟨.ref a,_,z,r1,k _ _ _ (l o).1 (l o).2⟩
 .rename_i kvs q;cases e;obtain⟨a,vs,h1,j,l⟩:=g.Ci q;refine bT (h f s σ H (λv y=>v=.ref a/\y=H) I ⟨.ref a,h1,rfl,rfl⟩) λu s1⟨v,H1,I1,r1,e1,e2⟩=>?_;subst e1 e2;obtain⟨o,z⟩:=Inv.Ga I1 j;exact⟨.ref a,_,z,r1,k _ _ _ (l o).1 (l o).2⟩
 .rename_i b L q;cases e;obtain⟨v,J,h1,j,l⟩:=g.freeze q;exact h f s σ H Q I ⟨v,h1,k v J H j l⟩
 .rename_i b d q;cases e;obtain⟨v,h1,j⟩:=g.val i b d q;exact h f s σ H Q I ⟨v,h1,k v F H (.refl g) j⟩
 .cases e
end
end HH
end
section
namespace HH
open PySem L2 PySem.Spec PyProof.Rows
section
variable{K:PySem.W.Frag}{F H F' H':Hp}{ρ ρ':List Sl}{σ σ':L2.St}
def Kp(ρ:List Sl)(σ:L2.St)(H:Hp)(a:Addr)(o:HO):Prop:=H a=some o/\¬ Own ρ σ a
theorem Kp.stp{a:Addr}{o:HO}(h:Kp ρ σ H a o)(s:az K F ρ σ H F' ρ' σ' H'):Kp ρ' σ' H' a o:=⟨s.keep a o h.1 h.2,λz=>(s.vV a z).elim h.2 λe=>by rw[h.1]at e;cases e⟩
structure Wt(K:PySem.W.Frag)(F:Hp)(ρ:List Sl)(σ:L2.St)(H:Hp)(a:Addr)(ds:List D):Prop where
 ex:∃xs,Kp ρ σ H a (.lst xs)/\aF K F xs ds
 fr:F a=none
theorem Wt.stp{a:Addr}{b:List D}(h:Wt K F ρ σ H a b)(s:az K F ρ σ H F' ρ' σ' H'):Wt K F' ρ' σ' H' a b:=by obtain⟨⟨xs,h1,c⟩,e⟩:=h;refine⟨⟨xs,h1.stp s,c.mono s.cW⟩,?_⟩;cases q:F' a with|none=>rfl|some o=>
   rcases s.ye a e (by rw[q];simp)with z|z;.exact absurd z h1.2
   .rw[h1.1]at z;cases z
end
end HH
end
section
namespace HH
open PySem L2 PySem.Spec PyProof.Rows
theorem Dg(x dv:Value):argsOk "max" ⟨[x],[("default",dv)]⟩:=by unfold argsOk;kernel_rfl
theorem pA:(toString "max"++toString ".loop":String)="max.loop":=by decide
section
variable{prog:Program}{w:World}{A:Around}{R:Result->Shared->Prop}{I:Addr}{fp wr:List Addr}{m:Nat}{P:Nat->Value->Prop}{Sx:Nat->Heap->Prop}{dv:Value}
theorem Eh(W:Walks prog w A.in1 I fp wr m P Sx)(g:Nat->Nat->Bool)(cmp:CmpOf prog w A.in1 .Gt P g)(B:Addr)(N:B∉fp):∀(u j:Nat)(s:Shared)(a:Value)(q:Nat),m-(j+1)=u->j+1<=m->Sx (j+1) s.heap->P (argBest g j) a->s.heap.get? B=some ⟨.type "list",none,.seq #[a,a] q,#[]⟩->(∀v h' tk,P (argBest g (m-1)) v->(∀b o,b∉wr->b≠B->s.heap.get? b=some o->h'.get? b=some o)->R (.ok (.ret v)) {s with heap:=h',toks:=tk})->codeAny (model prog w) A (.builtin "max.loop" ⟨[.ref I,.none,.ref B],[("default",dv)]⟩) R s:=by have n:B∉wr:=λz=>N (W.sub _ z);intro u;induction u with|zero=>
   intro j s a q U X st E p k;have r:j+1=m:=by omega
   refine codeAny_builtin F.entry_max_loop ?_;rw[Around.under_plainId F.plain_max_loop _];show wpAny _ A.in1 (seqItems? (.ref B)>>=_) _ _ s;refine wpAny_bind (wpAny_seqItems p rfl ?_);show wpAny _ A.in1 (tryCatch (pyNext (.ref I)) _>>=_) _ _ s;refine wpAny_bind (wpAny_tryCatch (W.done s _ _ (r▸st) λh' tk i=>?_));have t:=i B _ n p;show wpAny _ A.in1 (updateSeq B (λ_=>#[])>>=_) _ _ _;refine wpAny_bind (wpAny_updateSeq t rfl (wpAny_bind (wpAny_letGo (wpAny_pure ?_))));exact k a _ tk (by rw[<-r];exact E) λb o c l x=>(get?_update_other _ _ (Ne.symm l)).trans (i b o c x)|succ u O=>
   intro j s a q U X st E p k;have f:j+1<m:=by omega
   refine codeAny_builtin F.entry_max_loop ?_;rw[Around.under_plainId F.plain_max_loop _];show wpAny _ A.in1 (seqItems? (.ref B)>>=_) _ _ s;refine wpAny_bind (wpAny_seqItems p rfl ?_);show wpAny _ A.in1 (tryCatch (pyNext (.ref I)) _>>=_) _ _ s;refine wpAny_bind (wpAny_tryCatch (W.item (j+1) s _ _ f st λv h' tk Q C i=>?_));have t:=i B _ n p;show wpAny _ A.in1 (tryCatch (holding [v,v] (richCompare .Gt v a>>=_)) _>>=_) _ _ _;refine wpAny_bind (wpAny_tryCatch (wpAny_holding (wpAny_bind (cmp (j+1) (argBest g j) v a _ _ _ Q E (wpAny_bind (wpAny_holding (wpAny_truthy_bool (wpAny_bind (wpAny_letGo (wpAny_pure ?_))))))))));cases e:g (j+1) (argBest g j)with|true=>simp only[if_true];refine wpAny_bind (wpAny_updateSeq t rfl (wpAny_bind (wpAny_letGo ?_)));rw[pA];refine wpAny_pure ⟨plainId_quiet F.plain_max_loop _,O (j+1) _ v _ (by omega) f (W.frame _ _ _ C λb z o y=>(get?_update_other _ _ (λh:B=b=>N (by rw[h];exact z))).trans y) (by simp only[argBest,e,if_true];exact Q) (get?_update_self _ t rfl) λG H J L M=>?_⟩;exact k G H J L λb o c l x=>M b o c l ((get?_update_other _ _ (Ne.symm l)).trans (i b o c x))|false=>simp only[false_eq_true,if_false];refine wpAny_bind (wpAny_letGo ?_);rw[pA];refine wpAny_pure ⟨plainId_quiet F.plain_max_loop _,O (j+1) _ a q (by omega) f C (by simp only[argBest,e,false_eq_true,if_false];exact E) t λG H J L M=>k G H J L λb o c l x=>M b o c l (i b o c x)⟩
theorem yX(W:Walks prog w A.in1 I fp wr m P Sx)(f:Nat->Nat->Bool)(cmp:CmpOf prog w A.in1 .Gt P f)(B:Addr)(g:B∉fp){s:Shared}{q:Nat}(st:Sx 0 s.heap)(r:s.heap.get? B=some ⟨.type "list",none,.seq #[] q,#[]⟩)(k:0<m->∀v h' tk,P (argBest f (m-1)) v->(∀b o,b∉wr->b≠B->s.heap.get? b=some o->h'.get? b=some o)->R (.ok (.ret v)) {s with heap:=h',toks:=tk})(u:m=0->∀h' tk,(∀b o,b∉wr->b≠B->s.heap.get? b=some o->h'.get? b=some o)->R (.ok (.ret dv)) {s with heap:=h',toks:=tk}):codeAny (model prog w) A (.builtin "max.loop" ⟨[.ref I,.none,.ref B],[("default",dv)]⟩) R s:=by
 have i:B∉wr:=λz=>g (W.sub _ z);refine codeAny_builtin F.entry_max_loop ?_;rw[Around.under_plainId F.plain_max_loop _];show wpAny _ A.in1 (seqItems? (.ref B)>>=_) _ _ s;refine wpAny_bind (wpAny_seqItems r rfl ?_);show wpAny _ A.in1 (tryCatch (pyNext (.ref I)) _>>=_) _ _ s;by_cases j:0<m;.refine wpAny_bind (wpAny_tryCatch (W.item 0 s _ _ j st λv h' tk x l c=>?_));have t:=c B _ i r;show wpAny _ A.in1 (updateSeq B (λ_=>#[v,v])>>=_) _ _ _;refine wpAny_bind (wpAny_updateSeq t rfl ?_);rw[pA];refine wpAny_pure ⟨plainId_quiet F.plain_max_loop _,Eh W f cmp B g _ 0 _ v _ rfl j (W.frame _ _ _ l λb z o y=>(get?_update_other _ _ (λh:B=b=>g (by rw[h];exact z))).trans y) x (get?_update_self _ t rfl) λC E G H J=>?_⟩;exact k j C E G H λb o e n p=>J b o e n ((get?_update_other _ _ (Ne.symm n)).trans (c b o e p))
 . have a:m=0:=by omega
   refine wpAny_bind (wpAny_tryCatch (W.done s _ _ (by rw[a];exact st) λh' tk c=>?_));show wpAny _ A.in1 (rule _>>=_) _ _ _;refine wpAny_bind (wpAny_rule (wpAny_pure ?_));exact u a h' tk λb o e n p=>c b o e p
end
section
variable{prog:Program}{w:World}{A:Around}{E:Value->Shared->Prop}{s:Shared}
theorem Ed{x dv:Value}{Q:Value->Shared->Prop}(h:wpAny (model prog w) A.in1 (pyIter x) (λit a=>∃ I c e m P Sx f,it=.ref I/\Walks prog w A.in1 I c e m P Sx/\Sx 0 a.heap/\(∀ b ∈ c,b<a.heap.objs.size)/\CmpOf prog w A.in1 .Gt P f/\(0<m->∀v h' tk,P (argBest f (m-1)) v->(∀b o,b∉e->a.heap.get? b=some o->h'.get? b=some o)->Q v {a with heap:=h',toks:=tk})/\(m=0->∀h' tk,(∀b o,b∉e->a.heap.get? b=some o->h'.get? b=some o)->Q dv {a with heap:=h',toks:=tk})) E s):wpAny (model prog w) A (call (.builtin "max") [x] [("default",dv)]) Q E s:=by
 refine yD F.kind_max F.plain_max F.entry_max (Dg _ _) ?_;show wpAny _ A.in1 (Builtin.Builtins.bindParams "max" ["key","default"] 0 ⟨[],[("default",dv)]⟩>>=_) _ _ s;refine wpAny_bind (wpAny_of_eq (show Builtin.Builtins.bindParams "max" ["key","default"] 0 ⟨[],[("default",dv)]⟩=pure [none,some dv]from rfl) (wpAny_bind (wpAny_pure ?_)));refine wpAny_bind (wpAny_mono h (?_) λ_ _ z=>z);rintro it a⟨I,c,e,m,P,Sx,f,l,W,st,g,cmp,k,n⟩;subst l;refine wpAny_bind (wpAny_newObj_type ?_);have p:a.heap.objs.size∉c:=λz=>lt_irrefl _ (g _ z);rw[pA];refine wpAny_pure ⟨plainId_quiet F.plain_max_loop _,yX W f cmp a.heap.objs.size p (W.frame _ _ _ st λb _ o z=>fJ z) (get?_push_size _ rfl) (λi v h' tk q j=>?_) λi h' tk j=>?_⟩;.exact k i v h' tk q λb o z y=>j b o z (ne_of_lt (lt_size y)) (fJ y)
 .exact n i h' tk λb o z y=>j b o z (ne_of_lt (lt_size y)) (fJ y)
end
end HH
end
section
namespace HH
open PySem PyProof.Rows
section
variable{M:Model}{A:Around}{E:Value->Shared->Prop}{s:Shared}{κ:SortKind}{ok:Keyed->Prop}{K:Keyed->Int}
theorem Dw(R:Rk M A E s κ ok K){st b:SortSt}{xs:Array Keyed}{lo n:Nat}{Q:Option Nat->SortSt->Prop}(h:Sx κ ok st xs b)(f:lo+n<=xs.size)(h1:1<=n)(sg:Seg K xs lo (lo+n))(q:Q (some n) b):wpS M A E s (countRun' lo n) Q b:=by
 have one:∀ys:Array Keyed,Seg K ys lo (lo+1):=λys i j k l o=>by rw[show i=j by omega];exact Int.le_refl _
 show wpS M A E s (_>>=_) Q b;refine wpS_bind (vo (a:=1) (n:=n) R h f (le_refl 1) h1 (one xs) λm m1 p sm e=>?_);dsimp only;have c1:m=n:=by
  by_cases c:m=n;.exact c
  .have g:=e.resolve_left c;have:=sg (lo+m-1) (lo+m) (by omega) (by omega) (by omega);omega
 subst c1;rw[if_pos (by simp)];exact wpS_pure q
theorem SR.Ob{x0 ys:Array Keyed}{l:List Rn}{lo n:Nat}{st:SortSt}(h:SR κ ok K x0 ys l lo st)(h1:1<=n)(a:lo+n<=ys.size)(hs:Seg K ys lo (lo+n)):SR κ ok K x0 ys (l++[(lo,n,0)]) (lo+n) (setPending st ((pendingOf st).push (lo,n,0))):=⟨h.kind,h.arr,h.fail,by show((pendingOf st).push (lo,n,0)).toList=_;rw[Array.toList_push,h.pend],h.perm,h.ok,uK.mpr ⟨lo,h.rns,rfl,h1,hs,rfl⟩,a⟩
theorem tE:∀(f n r:Nat),r<=1->n<64\/n<=f->minRun' f n r<=n+r/\(64<=n->minRun' f n r<=n)
 |0,n,r,hr,h=>by have e:minRun' 0 n r=n+r:=rfl;rw[e];exact⟨cO,λz=>by omega⟩|f+1,n,r,hr,h=>by
   rw[minRun'_succ];by_cases c:n<64;.rw[if_pos c];exact⟨cO,λz=>by omega⟩
   .rw[if_neg c];have a:=tE f (n/2) (max r (n%2)) (by omega) (by omega);exact⟨by omega,λ_=>by omega⟩
theorem Jp(R:Rk M A E s κ ok K){x0:Array Keyed}{Q:Unit->SortSt->Prop}{st:SortSt}(h:SR κ ok K x0 x0 [] 0 st)(sg:Seg K x0 0 x0.size)(h1:1<=x0.size)(q:∀a,arrOf a=x0->failedOf a=none->Q () a):wpS M A E s sortRuns' Q st:=by
 rw[sortRuns'_eq];refine wpS_bind (wpS_get ?_);dsimp only;simp only[h.arr];have j:minRun' x0.size x0.size 0<=x0.size:=(tE x0.size x0.size 0 (by omega) (.inr (cO))).1;generalize minRun' x0.size x0.size 0=o at j;refine wpS_bind (wpS_mono (wpS_forRange (I:=λx c a=>(c=(none,0)/\SR κ ok K x0 x0 [] 0 a/\x=0)\/(c=(none,x0.size)/\SR κ ok K x0 x0 [(0,x0.size,0)] x0.size a)) (Q:=λc a=>c=(none,x0.size)/\SR κ ok K x0 x0 [(0,x0.size,0)] x0.size a) ?_ ?_ (.inl ⟨rfl,h,rfl⟩)) ?_)
 . rintro x c f _ k(⟨rfl,b,rfl⟩|⟨rfl,b⟩)
   . dsimp only;rw[if_neg (by omega)];refine wpS_bind (Dw R b.sx (lo:=0) (n:=x0.size-0) (by omega) (by omega) (by simpa using sg) ?_);dsimp only;rw[if_neg (by omega)];refine wpS_bind (wpS_get ?_);have l:(pendingOf f).back?=none:=by have:pendingOf f=#[]:=Array.toList_inj.mp b.pend;rw[this];rfl
     rw[l];dsimp only;refine wpS_bind (wpS_modify (wpS_pure (.inr ⟨by simp,?_⟩)));have:=b.Ob (n:=x0.size-0) (by omega) (by omega) (by simpa using sg);simpa using this
   .dsimp only;rw[if_pos (cO)];exact wpS_pure ⟨rfl,b⟩
 . rintro c f(⟨rfl,b,e⟩|⟨rfl,b⟩);.omega
   .exact⟨rfl,b⟩
 . rintro c f⟨rfl,b⟩;dsimp only;refine wpS_bind (wpS_mono (wpS_forRange (I:=λx c a=>c=(none,())/\SR κ ok K x0 x0 [(0,x0.size,0)] x0.size a) (Q:=λc a=>c=(none,())/\SR κ ok K x0 x0 [(0,x0.size,0)] x0.size a) ?_ (λ_ _ h=>h) ⟨rfl,b⟩) ?_)
   . rintro x c g _ k⟨rfl,i⟩;refine wpS_bind (wpS_get ?_);try dsimp only
     have m:(pendingOf g).size<=1:=by rw[<-length_toList,i.pend];simp
     rw[if_pos m];exact wpS_pure ⟨rfl,i⟩
   .rintro c g⟨rfl,i⟩;dsimp only;exact wpS_pure (q g i.arr i.fail)
end
end HH
end
section
namespace HH
open PySem PySem.W PyProof.Rows PySem.Calls L2 PySem.Spec
section
variable{prog:Program}{w:World}{A:Around}{E:Value->Shared->Prop}{s:Shared}{vs:List Value}{κ:SortKind}{P:Value->D->Prop}{ds:List D}
theorem G6{a:Addr}{n:Nat}{O:PySem.Fin->Shared->Prop}(ho:s.heap.get? a=some (seqObj "list" vs.toArray n))(so:sortable ds=true)(hz:vs.length<=16777216)(I:Paired P vs ds)(fn:∀u d e,P u d->P u e->cC d=cC e)(t:ds.Pairwise λa b=>kO a b=true)(L:∀h',(∀b o,b≠a->s.heap.get? b=some o->h'.get? b=some o)->∀C:SortKind->Shared->Prop,C κ {s with heap:=h'}->2<=vs.length->wpAny (model prog w) A (keyKind' vs.toArray) C (λ_ _=>False) {s with heap:=h'})(hl:∀h',(∀b o,b≠a->s.heap.get? b=some o->h'.get? b=some o)->∀u v d e,P u d->P v e->∀C:Bool->Shared->Prop,C (aZ (cC d) (cC e)) {s with heap:=h'}->wpAny (model prog w) A (keyLt' κ u v) C (λ_ _=>False) {s with heap:=h'})(h:∀h' c p,(∀b o,b≠a->s.heap.get? b=some o->h'.get? b=some o)->p.Perm (List.range vs.length)->pick .non p ds=nQ ds->h'.get? a=some (seqObj "list" (pick .none p vs).toArray c)->O (.done (.ret .none)) {s with heap:=h'}):wpAny (model prog w) A (Builtin.«list.sort» ⟨[.ref a],[]⟩) O E s:=by
 have ha:a<s.heap.objs.size:=lt_size ho;have Zg:vs.length=ds.length:=Paired.length I;obtain⟨g,z⟩:∃g,(s.heap.update a (Obj.mapSeq λ_=>(#[]:Array Value))).get? a=some (seqObj "list" #[] g):=⟨_,get?_update_seq ho λ_=>#[]⟩;rw[list_sort_plain];refine wpAny_bind (listItems_at ho rfl ?_);refine wpAny_bind (listUpdate_at ho rfl ?_ (by rw[size_toArray,sizeLine_eq];omega) (n8));refine wpAny_bind (seqEpoch_at z rfl ?_);refine wpAny_bind (wpAny_newTuple ?_ (by show vs.length<=_;rw[sizeLine_eq];omega));refine wpAny_bind (wpAny_newList ?_ (n8));refine wpAny_holding ?_;generalize hH:(((s.heap.update a (Obj.mapSeq λ_=>(#[]:Array Value))).push {cls:=.type "tuple",data:=.seq vs.toArray}).push {cls:=.type "list",data:=.seq #[]}:Heap)=l;have B:l.get? a=some (seqObj "list" #[] g):=by rw[<-hH];exact fJ (fJ z)
 have keep:∀b o,b≠a->s.heap.get? b=some o->l.get? b=some o:=λb o J e=>by rw[<-hH];exact fJ (fJ ((get?_update_other _ _ (Ne.symm J)).trans e))
 have fin:∀p:List Nat,p.Perm (List.range vs.length)->pick .non p ds=nQ ds->O (.done (.ret .none)) {s with heap:=l.update a (Obj.mapSeq λ_=>toArray (pick .none p vs))}:=by intro p h1 f;obtain⟨c2,M⟩:∃c2,(l.update a (Obj.mapSeq λ_=>toArray (pick Value.none p vs))).get? a=some (seqObj "list" (pick Value.none p vs).toArray c2):=⟨_,get?_update_seq B λ_=>toArray (pick Value.none p vs)⟩;exact h _ c2 p (λb o J e=>(get?_update_other _ _ (Ne.symm J)).trans (keep b o J e)) h1 f M
 show wpAny (model prog w) A _ O E {s with heap:=l};dsimp only;by_cases f:vs.toArray.size<2
 . rw[if_pos f,if_pos f];refine wpAny_bind (wpAny_pure ?_);rw[StateT.run_pure];refine wpAny_bind (wpAny_pure ?_);dsimp only;have eo:(arrOf (SortSt.mk' general' (vs.toArray.zip vs.toArray) #[] 7 none)).map (·.2)=toArray (pick Value.none (List.range vs.length) vs):=by rw[fZ];apply Array.toList_inj.mp;show((vs.toArray.zip vs.toArray).map (·.2)).toList=vs;simp[List.map_snd_zip]
   rw[eo];refine wpAny_bind (seqEpoch_at B rfl ?_);refine wpAny_bind (listUpdate_at B rfl ?_ (n8) (by rw[size_toArray,gU (.refl _),sizeLine_eq];omega));simp only[bne_self_eq_false,false_eq_true,if_false];refine wpAny_pure (fin _ (.refl _) ?_);rw[Zg,fZ];refine jD so (.refl _) ?_;match ds,(show ds.length<2 by simp at f;omega)with|[],_=>exact .nil|[_],_=>exact List.pairwise_singleton ..|_::_::_,f=>simp at f;omega
 . rw[if_neg f,if_neg f];have N:2<=vs.length:=by simpa using f
   refine wpAny_bind (L l keep _ ?_ N|>λq=>wpAny_mono q (λ_ _ x=>x) λ_ _ x=>x.elim);have Zh:(vs.toArray.zip vs.toArray).toList=(List.range vs.length).map λi=>(vs.getD i Value.none,vs.getD i Value.none):=by
    refine ext_getElem (by simp) λi h1 f=>?_;have:i<vs.length:=by simpa using f
    simp[this]
   have U:∀x∈(vs.toArray.zip vs.toArray).toList,∃d,d∈ds/\P x.1 d:=λx hx=>by rw[Zh]at hx;obtain⟨i,hi,rfl⟩:=mem_map.mp hx;have:=eO I i (List.mem_range.mp hi);exact⟨_,this.2,this.1⟩
   have R:Rk (model prog w) A E {s with heap:=l} κ (λx=>∃d,d∈ds/\P x.1 d) (Ws P ds):=⟨by rintro x y Q st⟨d,d1,d2⟩⟨e,g,r⟩W hq;rw[nJ fn d1 d2,nJ fn g r,uA d1]at hq;rw[lt'_eq];refine wpS_bind (wpS_get ?_);rw[W];refine wpS_bind (wpS_lift (wpAny_attempt (wpAny_mono (hl l keep x.1 y.1 d e d2 r (λb X=>X={s with heap:=l}/\b=aZ (cC d) (cC e)) ⟨rfl,rfl⟩) ?_ λ_ _ h=>h.elim)));rintro b X⟨rfl,rfl⟩;exact⟨rfl,wpS_pure hq⟩⟩;have at':∀k,k<vs.length->it (vs.toArray.zip vs.toArray) k=(vs.getD k .none,vs.getD k .none):=λk L=>by rw[Bb,Zh];simp[L]
   have hsz:(vs.toArray.zip vs.toArray).size=vs.length:=by simp
   have sg:Seg (Ws P ds) (vs.toArray.zip vs.toArray) 0 (vs.toArray.zip vs.toArray).size:=λi j _ ij Y=>by
    rw[hsz]at Y;rw[at' i (by omega),at' j Y];have a1:=eO I i (by omega);have Z:=eO I j Y;rw[nJ fn a1.2 a1.1,nJ fn Z.2 Z.1];by_cases e:i=j;.rw[e];exact Int.le_refl _
    . have G:=List.pairwise_iff_getElem.mp t i j (by omega) (by omega) (by omega);simp only[kO,not_eq_true']at G;have g:ds.getD i .non=ds[i]'(by omega):=by simp[show i<ds.length by omega]
      have r:ds.getD j .non=ds[j]'(by omega):=by simp[show j<ds.length by omega]
      rw[<-g,<-r,<-uA Z.2,decide_eq_false_iff_not]at G;omega
   have run:=Jp R (x0:=vs.toArray.zip vs.toArray) (st:=SortSt.mk' κ (vs.toArray.zip vs.toArray) #[] 7 none) (Q:=λ_ m=>∃p:List Nat,p.Perm (List.range vs.length)/\pick .non p ds=nQ ds/\(arrOf m).map (·.2)=(pick Value.none p vs).toArray/\failedOf m=none) ⟨rfl,rfl,rfl,rfl,.refl _,U,rfl,n8⟩ sg (by rw[hsz];omega) λm g r=>by
     refine⟨List.range vs.length,.refl _,?_,?_,r⟩;.rw[Zg,fZ];exact jD so (.refl _) t
     .rw[g,fZ];apply Array.toList_inj.mp;simp[List.map_snd_zip]
   refine wpAny_bind (wpAny_mono run ?_ λ_ _ e=>e);rintro⟨⟨⟩,m⟩X⟨rfl,p,p1,p2,H,hf⟩;dsimp only;rw[H];refine wpAny_bind (seqEpoch_at B rfl ?_);refine wpAny_bind (listUpdate_at B rfl ?_ (n8) (by rw[size_toArray,gU p1,sizeLine_eq];omega));rw[hf];simp only[bne_self_eq_false,false_eq_true,if_false];exact wpAny_pure (fin _ p1 p2)
end
end HH
end
section
namespace HH
open PySem L2 PySem.Spec PyProof.Rows PySem.Calls PySem.W
noncomputable def oG(nw:Addr->Option HO)(H:Hp):Hp:=λa=>match nw a with|some o=>some o|none=>H a
theorem my{nw:Addr->Option HO}{H:Hp}{a:Addr}{o:HO}(h:nw a=some o):oG nw H a=some o:=by unfold oG;rw[h]
theorem dw{nw:Addr->Option HO}{H:Hp}{a:Addr}(h:nw a=none):oG nw H a=H a:=by unfold oG;rw[h]
theorem NP{X:Cx}{g:List (Addr×Obj)}{σ:L2.St}{H:Hp}{s:Shared}{h':Heap}{t':Nat}{nw:Addr->Option HO}(I:L2.Inv X g σ H s)(k:∀b u,s.heap.get? b=some u->h'.get? b=some u)(i:∀a o,nw a=some o->s.heap.objs.size<=a)(h:∀a o,nw a=some o->bz X.prog X.w (oG nw H) h' a o):L2.Inv X g σ (oG nw H) {s with heap:=h',toks:=t'}:=by
 have no:∀a,a<s.heap.objs.size->nw a=none:=λa j=>by cases q:nw a with|none=>rfl|some o=>exact absurd (i a o q) (Nat.not_le_of_lt j)
 have f:∀a o,H a=some o->oG nw H a=some o:=λa o e=>by rw[dw (no a (I.hok.lt e))];exact e
 refine I.un ⟨λb u q _ _ _=>k b u q,λb u q _ _ _=>⟨u.slots,k b u q⟩,λb u q n _=>?_,λb u q _=>⟨u,k b u q⟩,λb xs q=>f b _ q,λb u xs q=>f b _ q,λb ps q=>⟨#[],by rw[f b _ q];simp⟩⟩ λb u e=>?_;.rw[dw (no b (lt_size q))];exact n
 .cases q:nw b with|some o=>rw[my q]at e;cases e;exact h b _ q|none=>rw[dw q]at e;exact(I.hok b u e).stay (λc v _ z=>k c v z) (λc z=>f c _ z) λc xs z=>f c _ z
def iv(l d:Addr):Heap->Prop:=λh=>h.IsItemsView l d
def IW:V->List V->Hp->VK->Prop:=λx xs H Q=>∃q a kvs,x=.ref q/\xs=[]/\H q=some (.dh a (.dK (map qG kvs)))/\∀l,H l=none->Q (.ref l) (upd H l (.ext (iv l q)))
def rIt(X:Cx):List V->Hp->VK->Prop:=λxs H Q=>∃l q f kvs,xs=[.ref l]/\H l=some (.ext (iv l q))/\H q=some (.dh f (.dK (map qG kvs)))/\(kvs.length<=16777216/\kvs.Pairwise (λa b=>a.1<b.1))/\∃F,aH F H/\∀v e c,Ext F H e c->bY X.K e c H v (.own (kvs.map cF))->Q v c
theorem pQ{P:Program}{w:World}{h:Heap}:∀{kvs:List (Int×Int)}{vs:List (Key×Value)}{as:List Addr},KV (kvs.map qG) vs->as.length=vs.length->(∀(j:Nat)(a:Addr),as[j]?=some a->∃key k x,vs[j]?=some (k,x)/\(aV P w).is k key=true/\h.get? a=some {cls:=.type "tuple",data:=.seq #[key,x]})->∀(j:Nat)(a:Addr),as[j]?=some a->∃p,kvs[j]?=some p/\∃t u,h.get? a=some {cls:=.type "tuple",data:=.seq #[Value.int p.1 t,Value.int p.2 u]}
 |[],_,as,.nil,f,_,j,a,e=>by cases as with|nil=>cases e|cons _ _=>simp at f
 |p::kvs,_,as,.cons (b:=q) r t,f,hk,j,a,e=>by cases as with|nil=>cases e|cons b as=>cases j with
     |zero=>
       obtain⟨key,k,x,g,m,n⟩:=hk 0 a e;simp at g;have o:k=Sum.inl p.1:=by have z:=r.1;rw[g]at z;exact z.symm
       have s:∃u,x=Value.int p.2 u:=by have z:=r.2;rw[g]at z;exact z
       subst o;obtain⟨u,rfl⟩:=s;obtain⟨i,tk,l,rfl⟩|⟨_,_,l,_⟩:=bA (show nY (Sum.inl p.1) key=true from m);.cases l;exact⟨p,rfl,tk,u,n⟩
       .cases l|succ j=>exact pQ t (by simpa using f) (λi c z=>by simpa using hk (i+1) c (by simpa using z)) j a (by simpa using e)
noncomputable def tpV(p:Int×Int):HO:=.tup [.int p.1,.int p.2]
noncomputable def gQ:List Addr->List (Int×Int)->Addr->Option HO|a::as,p::ps,b=>if b=a then some (tpV p)else gQ as ps b|_,_,_=>none
theorem iG:∀{as:List Addr}{ps:List (Int×Int)}{b:Addr}{o:HO},gQ as ps b=some o->∃(j:Nat)(p:Int×Int),as[j]?=some b/\ps[j]?=some p/\o=tpV p
 |a::as,p::ps,b,o,h=>by
   unfold gQ at h;split at h;.rename_i e;cases h;subst e;exact⟨0,p,rfl,rfl,rfl⟩
   .obtain⟨j,q,h1,c,f⟩:=iG h;exact⟨j+1,q,by simpa using h1,by simpa using c,f⟩|[],_,_,_,h=>by simp[gQ]at h|_::_,[],_,_,h=>by simp[gQ]at h
theorem uY:∀{as:List Addr}{ps:List (Int×Int)},as.Pairwise (·<·)->∀{j:Nat}{b:Addr}{p:Int×Int},as[j]?=some b->ps[j]?=some p->gQ as ps b=some (tpV p)|[],_,_,_,_,_,h,_=>by simp at h|_::_,[],_,_,_,_,_,h=>by simp at h|a::as,q::ps,c,j,b,p,h1,f=>by unfold gQ;cases j with|zero=>cases h1;cases f;rw[if_pos rfl]|succ j=>
     have h1:as[j]?=some b:=by simpa using h1
     have:=(List.pairwise_cons.mp c).1 b (mem_of_getElem? h1);rw[if_neg (λe=>by rw[e]at this;exact lt_irrefl _ this)];exact uY (List.pairwise_cons.mp c).2 h1 (by simpa using f)
theorem j9:∀as:List Addr,Vals (as.map V.ref) (as.map Value.ref)|[]=>.nil|_::as=>.cons rfl (j9 as)
theorem uO{K:PySem.W.Frag}{F:Hp}:∀{as:List Addr}{ps:List (Int×Int)},as.length=ps.length->(∀(j:Nat)(b:Addr)(p:Int×Int),as[j]?=some b->ps[j]?=some p->F b=some (tpV p))->aF K F (as.map V.ref) (ps.map cF)|[],[],_,_=>.nil|a::as,p::ps,c,h=>.cons (by have:=h 0 a p rfl rfl;rw[show cF p=.tup [.int p.1,.int p.2]from rfl,Rep];refine⟨a,_,rfl,.inl (.inl this),.cons (by rw[Rep]) (.cons (by rw[Rep]) .nil)⟩) (uO (by simpa using c) λj b q h1 e=>h (j+1) b q (by simpa using h1) (by simpa using e))|[],_::_,c,_=>by simp at c|_::_,[],c,_=>by simp at c
theorem uq{h:Heap}:∀{as:List Addr}{ps:List (Int×Int)},as.length=ps.length->(∀(j:Nat)(b:Addr),as[j]?=some b->∃p,ps[j]?=some p/\∃t u,h.get? b=some {cls:=.type "tuple",data:=.seq #[Value.int p.1 t,Value.int p.2 u]})->Paired (m5 h) (as.map Value.ref) (ps.map cF)|[],[],_,_=>.nil|a::as,p::ps,c,h=>.cons (by obtain⟨q,e,t,u,g⟩:=h 0 a rfl;cases e;exact⟨a,[Value.int p.1 t,Value.int p.2 u],[p.1,p.2],rfl,⟨_,g,rfl,0,rfl⟩,.cons _ _ (.cons _ _ .nil),by simp,rfl⟩) (uq (by simpa using c) λj b h1=>by simpa using h (j+1) b (by simpa using h1))|[],_::_,c,_=>by simp at c|_::_,[],c,_=>by simp at c
theorem nT{prog:Program}{w:World}{A:Around}{E:Value->Shared->Prop}{s:Shared}{v d:Addr}{kvs:List (Key×Value)}{ep:Nat}{Q:List Value->Shared->Prop}(m:A.handled=none)(h:s.heap.IsItemsView v d)(i:s.heap.DictAt (aV prog w) d kvs ep)(n:kvs.length<=sizeLine)(p:∀(h':Heap)(tk:Nat)(as:List Addr),(∀b o,s.heap.get? b=some o->h'.get? b=some o)->s.heap.objs.size<h'.objs.size->as.length=kvs.length->KdxG (aV prog w) kvs s.heap.objs.size h' as->Q (as.map Value.ref) {s with heap:=h',toks:=tk}):wpAny (model prog w) A (collect (.ref v)) Q E s:=by
 have f:v<s.heap.objs.size:=let⟨_,h1,_⟩:=h;lt_size h1;have g:d<s.heap.objs.size:=i.lt_size;unfold collect;refine wpAny_bind (wpAny_runValue (codeAny_builtin F.entry_proto_collect ?_));rw[Around.under_plainId F.plain_proto_collect _];show wpAny _ A.in1 (newList []>>=λl=>again (.builtin "list.__iadd__" ⟨[l,.ref v],[]⟩)) _ _ s;refine wpAny_bind (wpAny_newObj_type (wpAny_pure ⟨plainId_quiet F.plain_list_iadd _,codeAny_builtin F.entry_list_iadd ?_⟩));rw[Around.under_plainId F.plain_list_iadd _];show wpAny _ A.in1 (listExtendWith (.ref s.heap.objs.size) (.ref v) (.ref s.heap.objs.size)) _ _ _;refine kdx_extend (A:=A) (R:=λr j=>match r with
  |.ok (.ret v)=>wpAny (model prog w) A (match v with
   |.ref a=>do let o<-load a match o.data with|.seq xs _=>pure xs.toList|_=>unsupported "internal:collect"
   |_=>unsupported "internal:collect") Q E j|.ok _=>False|.error e=>E e j) (s:={s with heap:=s.heap.push {cls:=.type "list",data:=.seq #[]}}) m (let⟨o,h1,q⟩:=h;⟨o,fJ h1,q⟩) (i.at' λo e=>fJ e) s.heap.objs.size (Nat.ne_of_gt f) (ne_of_lt g) _ 0 (get?_push_size _ rfl) (λh' tk t z as u k x y c=>?_) n;refine wpAny_bind (wpAny_load k (wpAny_pure ?_));rw[c];exact p h' tk as (λb o e=>u b o (ne_of_lt (lt_size e)) (fJ e)) (lt_size k) x (y.low (by rw[size_push'];exact Nat.le_succ _))
section
variable{X:Cx}{c:Call}{a:Expr}{pa:P}{pos:Pos}
theorem IV:MtR X "dict.items" IW:=by rintro f s σ H x xs v us Q I h i⟨q,j,kvs,rfl,rfl,l,k⟩;cases h;cases i;obtain⟨ho,hz,m,vs,r,g⟩:=(show bz X.prog X.w H s.heap q (.dh j (.dK (kvs.map qG)))from I.hok q _ l);refine call_meetsIn PySem.F.slot_dict_items g.typeIs PySem.F.entry_dict_items (PySem.F.args_dict_items_1 _) (meets_dict_items _ q m) ⟨⟨vs,g⟩,?_⟩;have n:(s.heap.push {cls:=.type "dict_items",data:=.fields #[.ref q]}).IsItemsView s.heap.objs.size q:=⟨_,get?_push_size _ rfl,rfl,rfl⟩;refine⟨.ref s.heap.objs.size,_,I.laid (t':=s.toks) (o:=.ext (iv s.heap.objs.size q)) (λb o e=>fJ e) (cO) ⟨n,⟨_,get?_push_size _ rfl⟩,λh1 u z k=>?_⟩,rfl,k _ (I.hok.fresh (cO))⟩;obtain⟨o,p,t⟩:=z;exact⟨o,k o p,t⟩
theorem T5(hc:X.calm=true):fG X (.builtin "sorted") (rIt X):=by
 rintro ai s σ H xs us Q I r⟨l,q,ob,kvs,hx,hl,hq,⟨al,ac⟩,F,sm,k⟩;subst hx;have so:sortable (kvs.map cF)=true:=by
  have:(kvs.map cF).all uz=true:=by rw[all_eq_true];intro x hx;obtain⟨p,_,rfl⟩:=mem_map.mp hx;rfl
  simp only[sortable,length_map,this,Bool.or_true,Bool.and_true,decide_eq_true_eq];omega
 have J:(kvs.map cF).Pairwise λa b=>kO a b=true:=by rw[pairwise_map];refine ac.imp λ{a b}h=>?_;show(!aZ [b.1,b.2] [a.1,a.2])=true;simp[aZ];omega
 have ae:nQ (kvs.map cF)=kvs.map cF:=(jD so (.refl _) J).symm;rw[<-ae]at k;obtain⟨u,rfl,rx⟩:=r.one;cases rx;obtain⟨JR,_,_⟩:=(show bz X.prog X.w H s.heap l (.ext (iv l q))from I.hok l _ hl);obtain⟨ho,hz,hS,vs,rv,dd⟩:=(show bz X.prog X.w H s.heap q (.dh ob (.dK (kvs.map qG)))from I.hok q _ hq);have L:vs.length=kvs.length:=by rw[<-Paired.length rv,length_map]
 obtain⟨f,es,ep,d1,d2,d3,d4⟩:=dd;have dat:s.heap.DictAt (aV X.prog X.w) q vs ep:=⟨f,es,d1,d2,d3,d4⟩;refine Calls.call_function_entry kind_sorted plain_sorted entry_sorted (args_sorted1 _) ?_;unfold Builtin.«sorted»;refine wpAny_bind (m:=checkCount "sorted" 1 1 _) (wpAny_pure ?_);refine wpAny_bind (nT (A:=X.A.in1) (I.ok.hd hc) JR dat (by rw[L,sizeLine_eq];omega) λh1 tk as kp hsz M Z=>?_);have hsz:=le_of_lt hsz;have g:as.length=kvs.length:=M.trans L;have pr:=pQ rv M Z.pairs;have tt:Paired (m5 h1) (as.map Value.ref) (kvs.map cF):=uq g pr;have N:∀a o,gQ as kvs a=some o->s.heap.objs.size<=a:=λa o e=>by obtain⟨j,p,O,_,_⟩:=iG e;exact le_of_lt (Z.above a (mem_of_getElem? O))
 have i:∀a o,gQ as kvs a=some o->H a=none:=λa o e=>I.hok.fresh (N a o e);have B:aH H (oG (gQ as kvs) H):=λb o e=>by cases z:gQ as kvs b with|none=>rw[dw z];exact e|some f=>rw[i b f z]at e;cases e
 have e0:Ext F H (oG (gQ as kvs) F) (oG (gQ as kvs) H):=by
  refine⟨B,λb o e=>?_,λb o e=>?_,λb n n'=>?_⟩;.cases z:gQ as kvs b with|none=>rw[dw z];exact e|some f=>have n0:=i b f z;rw[sm b o e]at n0;cases n0
  .cases z:gQ as kvs b with|none=>rw[dw z]at e ⊢;exact sm b o e|some f=>rw[my z]at e ⊢;exact e
  .cases z:gQ as kvs b with|none=>rw[dw z]at n';exact absurd n n'|some f=>rw[i b f z];rfl
 have rs:aF X.K (oG (gQ as kvs) F) (as.map V.ref) (kvs.map cF):=uO g λj b p h1 h2=>my (uY Z.rise h1 h2);have vv:=j9 as;have af:∀b∈as,b<h1.objs.size:=λb hb=>Z.there hb;have JS:(as.map Value.ref).length=kvs.length:=by rw[length_map];exact g
 refine wpAny_bind (wpAny_newList ?_ (by rw[JS,sizeLine_eq];omega));generalize Zi:(h1.push {cls:=.type "list",data:=.seq (as.map Value.ref).toArray}:Heap)=G;have U:G.get? h1.objs.size=some (seqObj "list" (as.map Value.ref).toArray 0):=by rw[<-Zi];exact get?_push_size _ rfl
 have rC:∀b o,h1.get? b=some o->G.get? b=some o:=λb o e=>by rw[<-Zi];exact fJ e
 have E:∀b o,h1.get? b=some o->b≠h1.objs.size:=λb o e=>ne_of_lt (lt_size e);show wpAny _ _ _ _ _ {s with heap:=G,toks:=tk};refine wpAny_bind (wpAny_holding (wpAny_call_entry slot_list_sort ⟨_,U,rfl⟩ entry_list_sort ?body (args_list_sort _)));case body=>
  refine G6 (s:={s with heap:=G,toks:=tk}) (κ:=tuples' (Value.type "int"!=Value.type "tuple")) U so (by omega) tt Bj J (λh' W C hC h2=>?_) (λh' W u v d e hd he C hC=>?_) λh' cc p W p1 p2 e=>?_;.exact tR (s:={s with heap:=h',toks:=tk}) (m6 (λb o z=>W b o (E b o z) (rC b o z)) tt) h2 hC
  .have Y:∀b o,h1.get? b=some o->h'.get? b=some o:=λb o z=>W b o (E b o z) (rC b o z);exact Ac (s:={s with heap:=h',toks:=tk}) (gZ Y hd) (gZ Y he) hC
  . refine⟨_,rfl,wpAny_pure ⟨_,rfl,?_⟩⟩;have Y:∀b o,h1.get? b=some o->h'.get? b=some o:=λb o z=>W b o (E b o z) (rC b o z);have hL:gQ as kvs h1.objs.size=none:=by cases z:gQ as kvs h1.objs.size with|none=>rfl|some o=>obtain⟨j,p,O,_,_⟩:=iG z;exact absurd (af _ (mem_of_getElem? O)) (lt_irrefl _)
    have ag:upd (oG (gQ as kvs) H) h1.objs.size (.lst (pick .non p (as.map V.ref)))=oG (λb=>if b=h1.objs.size then some (.lst (pick .non p (as.map V.ref)))else gQ as kvs b) H:=by
     funext b;unfold upd oG;by_cases z:b=h1.objs.size;.rw[if_pos z];simp only[if_pos z]
     .rw[if_neg z];simp only[if_neg z]
    have I':=NP (t':=tk) (h':=h') (nw:=λb=>if b=h1.objs.size then some (.lst (pick .non p (as.map V.ref)))else gQ as kvs b) I (λb o z=>Y b o (kp b o z)) (λa o z=>by
     by_cases y:a=h1.objs.size;.rw[y];exact hsz
     .simp only[if_neg y]at z;exact N a o z) (λa o z=>by
     by_cases y:a=h1.objs.size;.simp only[if_pos y]at z;cases z;subst y;exact⟨by rw[gU p1,JS,sizeLine_eq];omega,pick .none p (as.map Value.ref),cc,wJ vv,e⟩
     .simp only[if_neg y]at z;obtain⟨j,p',O,e2,rfl⟩:=iG z;obtain⟨am,e3,t,u,e4⟩:=pr j a O;rw[e2]at e3;cases e3;exact⟨by rw[sizeLine_eq];simp,[Value.int p'.1 t,Value.int p'.2 u],.cons ⟨t,rfl⟩ (.cons ⟨u,rfl⟩ .nil),⟨_,Y _ _ e4,rfl,0,rfl⟩⟩);rw[<-ag]at I';refine⟨.ref h1.objs.size,_,I',rfl,?_⟩;have ah:aF X.K (oG (gQ as kvs) F) (pick .non p (as.map V.ref)) (nQ (kvs.map cF)):=by rw[<-p2];exact wB rs
    refine uL e0.sub ah (by rw[dw hL];exact I.hok.fresh hsz) λv F2 G x rn=>k v F2 G ⟨e0.hs.trans x.hs,e0.fs.trans x.fs,x.sub,λc n n'=>?_⟩ ?_
    . by_cases e:oG (gQ as kvs) F c=none;.have:=x.gr c e n';cases z:H c with|none=>rfl|some o=>rw[B c o z]at this;exact this
      .exact e0.gr c n e
    obtain⟨b,xs,q1,q2,q3,q4,q5⟩:=rn;refine⟨b,xs,q1,q2,q3,q4,?_⟩;cases z:H b with|none=>rfl|some o=>rw[B b o z]at q5;cases q5
theorem xJ{o:Expr}{to:TE}{f g:Pos}(ho:PE X o to)(j:attributeBase o "items" X.env (eval o X.env)=eval o X.env:=by rfl)(l:(f.endLine==g.line)=true:=by rfl):PE X (.Call (.Attribute o "items" f) [] [] g) (λσ H Q=>to σ H λx m=>IW x [] m Q):=by intro i s σ H Q I h;refine wpAny_Call_method0_late j l (bT (ho i s σ H _ I h) λv s1⟨x,m,I1,r1,q1⟩=>?_);obtain⟨q,u,kvs,rfl,_,y,k⟩:=id q1;cases r1;obtain⟨ho,hz,z,vs,r,n,es,ep,p,t,A⟩:=(show bz X.prog X.w m s1.heap q (.dh u (.dK (kvs.map qG)))from I1.hok q _ y);refine⟨"dict","dict.items",PySem.F.plainAttrs_dict,PySem.F.slot_dict_items,PySem.F.type_dict_items,⟨n,p,t.1⟩,λb e=>?_,Calls.callWith_builtin rfl (PySem.evalArgs_none (IV i s1 σ m (.ref q) [] _ [] Q I1 rfl .nil q1))⟩;cases e;exact⟨n,p,t.2.1⟩
theorem LK{x:Str}{U f j:Pos}{o:Expr}(W:x="sorted")(hc:X.calm=true)(Y:Gl X x)(Z:X.mg x=none)(p:(f.endLine==j.line)=true)(ha:SX X c o pa)(s:attributeBase o "items" X.env (eval o X.env)=eval o X.env:=by rfl):SX X c (.Call (.Name x U) [.Call (.Attribute o "items" f) [] [] j] [] pos) (.blt .JK [pa]):=by
 subst W;obtain⟨ta,h1,h3⟩:=ha.cH;refine⟨fu (gb (T5 hc) Y Z boot_sorted (cu (xJ h1 s p) dY)) ?_,λi h=>by cases h⟩;rintro σ H Q⟨F,ρ,r,C,g,e,k⟩;have e:((cH (isVar pa) (HH.ev c pa) ρ).bind λx ρ=>lift (blt .JK [x]) ρ)=.ok r C:=e;obtain⟨d,ac,e1,u⟩:=aj e;have zz:=aC u;clear u;obtain⟨u,e3⟩:=zz;subst e3;refine h3 g e1 λv J y st pv=>?_;obtain⟨kvs,rfl⟩:∃kvs,d=.dq (.k kvs):=by cases d with
  |dq m=>cases m with|k kvs=>exact⟨kvs,rfl⟩|t kvs=>cases u
  |_=>cases u
 obtain⟨so,he⟩:=aU (show(if kvs.length<=16777216/\kvs.Pairwise (λa b=>a.1<b.1)then some (R.own (kvs.map cF))else none)=some r from u);subst he;obtain⟨q,L,rfl,M⟩:=pv.dq st.gs.sub;refine⟨q,L,kvs,rfl,rfl,M,λl A=>⟨l,q,L,kvs,rfl,aJ,aH.bO A q _ M,so,J,λb o e=>aH.bO A b o (st.gs.sub b o e),λw E G B rn=>?_⟩⟩;have sm:aH y (upd y l (.ext (iv l q))):=aH.bO A;have x3:Ext J y E G:=⟨sm.trans B.hs,B.fs,B.sub,λb n n'=>by
  have:=B.gr b n n';by_cases N:b=l;.subst N;rw[A];rfl
  .rw[aA N]at this;exact this⟩;have I:bY X.K E G y w (.own (kvs.map cF)):=by obtain⟨b,xs,q1,q2,q3,q4,O⟩:=rn;refine⟨b,xs,q1,q2,q3,q4,?_⟩;cases z:y b with|none=>rfl|some o=>rw[sm b o z]at O;cases O
 exact k w E G (st.trans (x3.stp st.gs)) (.later st (I.mC st.gs))
end
end HH
end
section
namespace HH
open PySem L2 PySem.Spec PyProof.Rows
variable{o:Option V}{rows:List (List D)}
section
variable{K:PySem.W.Frag}{F F' F1 H H' H1 F0 H0:Hp}{ρ ρ' ρ1 ρ0:List Sl}{σ σ' σ1 σ0:L2.St}{x:Nat}{q:Addr}{as:List Addr}{rows oh:List (List D)}
noncomputable def FZ:Sl->Bool|.aW=>true|.hold _=>true|_=>false
theorem gw{s:Sl}{i:Nat}{b:Addr}(g:FZ s=true)(h:aQ (ρ.set x s) (σ.set x o) i b):aQ ρ σ i b/\i≠x:=by
 obtain⟨⟨t,j,e,a⟩,f⟩:=h;by_cases c:x=i
 . subst c;rw[List.getElem?_set]at e;rw[if_pos rfl]at e;split at e;.cases e;cases s<;>first|(cases a;done)|(cases g;done)
   .cases e
 .rw[getElem?_set_ne c]at e f;exact⟨⟨⟨t,j,e,a⟩,f⟩,λz=>c z.symm⟩
theorem GS.Ce{s:Sl}(f:FZ s=true)(g:GS K F ρ σ H):GS K F (ρ.set x s) (σ.set x o) H:=by
 refine⟨g.sub,by simp[g.len],λi b d e=>?_,λi t k e h=>?_,λi j a h1 l=>g.dis i j a (gw f h1).1 (gw f l).1⟩
 . by_cases c:x=i
   . subst c;rw[List.getElem?_set,if_pos rfl]at e;split at e;.cases e;cases f
     .cases e
   .rw[getElem?_set_ne c]at e ⊢;exact g.val i b d e
 . by_cases c:x=i
   . subst c;rw[List.getElem?_set,if_pos rfl]at e;split at e;.cases e;cases s<;>first|(cases h;done)|(cases f;done)
     .cases e
   .rw[getElem?_set_ne c]at e ⊢;exact g.own i t k e h
theorem az.Ce{s:Sl}{o:Option V}(a:FZ s=true)(t:az K F ρ σ H F1 ρ1 σ1 H1)(f:∀s0,ρ[x]?=some s0->uH s0=false):az K F ρ σ H F1 (ρ1.set x s) (σ1.set x o) H1:=by
 refine⟨t.gs.Ce a,t.cW,t.ye,t.keep,λb⟨i,h⟩=>t.vV b ⟨i,(gw a h).1⟩,by simp[t.len],λi g e l=>?_⟩;have c:x≠i:=by rintro rfl;rw[f _ e]at l;cases l
 obtain⟨j,s2,k,m⟩:=t.lk i g e l;exact⟨by rw[getElem?_set_ne c];exact j,s2,by rw[getElem?_set_ne c];exact k,m⟩
theorem az.free{i:Nat}{s1:Sl}(t:az K F ρ σ H F1 ρ1 σ1 H1)(h:ρ1[i]?=some s1)(a:uH s1=false):∀s0,ρ[i]?=some s0->uH s0=false:=λs0 e=>by cases z:uH s0 with|false=>rfl|true=>obtain⟨_,s2,b,c⟩:=t.lk i s0 e z;rw[h]at b;cases b;rw[c.uH z]at a;cases a
structure QG(F:Hp)(ρ:List Sl)(σ:L2.St)(H:Hp)(a:Addr)(xs:List V):Prop where kp:Kp ρ σ H a (.lst xs)fr:F a=none
theorem QG.stp{a:Addr}{xs:List V}(h:QG F ρ σ H a xs)(s:az K F ρ σ H F' ρ' σ' H'):QG F' ρ' σ' H' a xs:=by refine⟨h.kp.stp s,?_⟩;cases z:F' a with|none=>rfl|some o=>
   rcases s.ye a h.fr (by rw[z];simp)with y|y;.exact absurd y h.kp.2
   .rw[h.kp.1]at y;cases y
structure Nw(K:PySem.W.Frag)(x:Nat)(q:Addr)(as:List Addr)(F:Hp)(ρ:List Sl)(σ:L2.St)(H:Hp)(rows:List (List D)):Prop where
 slot:ρ[x]?=some (.hold rows)val:σ[x]?=some (some (.ref q))out:QG F ρ σ H q (as.map V.ref)nd:(q::as).Nodup
 len:as.length=rows.length
 row:∀(k:Nat)(a:Addr)(ds:List D),as[k]?=some a->rows[k]?=some ds->Wt K F ρ σ H a ds
theorem Nw.stp(w:Nw K x q as F ρ σ H rows)(s:az K F ρ σ H F' ρ' σ' H'):Nw K x q as F' ρ' σ' H' rows:=by obtain⟨b,s2,c,e⟩:=s.lk x _ w.slot rfl;cases(show s2=.hold rows from e);exact⟨c,b.trans w.val,w.out.stp s,w.nd,w.len,λk a f h1 g=>(w.row k a f h1 g).stp s⟩
structure NB(K:PySem.W.Frag)(x:Nat)(q:Addr)(as:List Addr)(F0:Hp)(ρ0:List Sl)(σ0:L2.St)(H0:Hp)(F:Hp)(ρ:List Sl)(σ:L2.St)(H:Hp)(rows:List (List D)):Prop where
 stp:az K F0 ρ0 σ0 H0 F ρ σ H
 fresh:∀b,b∈q::as->Own ρ0 σ0 b\/H0 b=none
 free:∀s0,ρ0[x]?=some s0->uH s0=false
 nw:Nw K x q as F ρ σ H rows
theorem NB.step(b:NB K x q as F0 ρ0 σ0 H0 F ρ σ H rows)(s:az K F ρ σ H F' ρ' σ' H'):NB K x q as F0 ρ0 σ0 H0 F' ρ' σ' H' rows:=⟨b.stp.trans s,b.fresh,b.free,b.nw.stp s⟩
theorem Bp{s:Sl}{a:Addr}{b:HO}(c:FZ s=true)(h:Kp ρ σ H a b):Kp (ρ.set x s) (σ.set x o) H a b:=⟨h.1,λ⟨i,z⟩=>h.2 ⟨i,(gw c z).1⟩⟩
theorem K5{s:Sl}{a:Addr}{b:List D}(c:FZ s=true)(h:Wt K F ρ σ H a b):Wt K F (ρ.set x s) (σ.set x o) H a b:=by obtain⟨⟨xs,h1,e⟩,f⟩:=h;exact⟨⟨xs,Bp c h1,e⟩,f⟩
theorem az.adp{Da:Addr}{o:HO}(s:az K F ρ σ H F1 ρ1 σ1 H1)(h:Own ρ σ Da\/H Da=none)(j:F1 Da=none)(ho:¬ Own ρ1 σ1 Da):az K F ρ σ H F1 ρ1 σ1 (upd H1 Da o):=by
 refine⟨⟨λb u e=>?_,s.gs.len,s.gs.val,λi t c e f=>?_,s.gs.dis⟩,s.cW,s.ye,λb u e n=>?_,s.vV,s.len,s.lk⟩
 . have:b≠Da:=by rintro rfl;rw[j]at e;cases e
   rw[aA this];exact s.gs.sub b u e
 . obtain⟨a,xs,g,k,l,m⟩:=s.gs.own i t c e f;have:a≠Da:=by rintro rfl;exact ho ⟨i,⟨t,c,e,f⟩,g⟩
   exact⟨a,xs,g,by rw[aA this];exact k,l,m⟩
 . have:b≠Da:=by
    rintro rfl;rcases h with h|h;.exact n h
    .rw[h]at e;cases e
   rw[aA this];exact s.keep b u e n
theorem NB.mut{r:Nat}{a:Addr}{row e:List D}{ys:List V}(b:NB K x q as F0 ρ0 σ0 H0 F ρ σ H rows)(g:as[r]?=some a)(hr:rows[r]?=some row)(n:aF K F ys e):NB K x q as F0 ρ0 σ0 H0 F (ρ.set x (.hold (rows.set r e))) σ (upd H a (.lst ys)) (rows.set r e):=by
 have w:=b.nw.row r a row g hr;obtain⟨⟨xs,l,r1⟩,f1⟩:=w;have p:x<ρ.length:=(eG b.nw.slot).1;have sx:σ.set x (some (.ref q))=σ:=by have:=b.nw.val;obtain⟨h1,f⟩:=eG this;rw[<-f];simp
 have mem:a∈q::as:=mem_cons_of_mem _ (mem_of_getElem? g);have s1:=(b.stp.adp (o:=.lst ys) (b.fresh a mem) f1 l.2).Ce (x:=x) (s:=.hold (rows.set r e)) (o:=some (.ref q)) rfl b.free;rw[sx]at s1;have t:q≠a:=by have:=(nodup_cons.mp b.nw.nd).1;rintro rfl;exact this (mem_of_getElem? g)
 have own:∀{c:Addr},¬ Own ρ σ c->¬ Own (ρ.set x (.hold (rows.set r e))) σ c:=λ{c}h⟨i,z⟩=>h ⟨i,by have:=gw (x:=x) (s:=.hold (rows.set r e)) (o:=some (.ref q)) (σ:=σ) (ρ:=ρ) rfl (b:=c) (i:=i) (by rw[sx];exact z);exact this.1⟩;refine⟨s1,b.fresh,b.free,⟨getElem?_set_self p,b.nw.val,⟨⟨by rw[aA t];exact b.nw.out.kp.1,own b.nw.out.kp.2⟩,b.nw.out.fr⟩,b.nw.nd,by simp[b.nw.len],λk c u h1 f=>?_⟩⟩;by_cases j:k=r;.subst j;rw[g]at h1;cases h1;have v:k<rows.length:=(eG hr).1;rw[getElem?_set_self v]at f;cases f;exact⟨⟨ys,⟨aJ,own l.2⟩,n⟩,f1⟩
 . rw[getElem?_set_ne (λz=>j z.symm)]at f;obtain⟨⟨y,m,A⟩,f2⟩:=b.nw.row k c u h1 f;have nc:c≠a:=by rintro rfl;have nd:=(nodup_cons.mp b.nw.nd).2;obtain⟨E,B⟩:=eG h1;obtain⟨l2,C⟩:=eG g;exact j ((List.getElem_inj nd).mp (B.trans C.symm))
   exact⟨⟨y,⟨by rw[aA nc];exact m.1,own m.2⟩,A⟩,f2⟩
noncomputable def Fz(F H:Hp)(bs:List Addr):Hp:=λb=>if b∈bs then H b else F b
theorem sS{G:Hp}:∀{as:List Addr}{rows:List (List D)},as.length=rows.length->(∀(k:Nat)(a:Addr)(c:List D),as[k]?=some a->rows[k]?=some c->Rep K G (.ref a) (.lst c))->aF K G (as.map V.ref) (rows.map D.lst)|[],[],_,_=>.nil|a::as,c::rows,h,k=>.cons (k 0 a c rfl rfl) (sS (by simpa using h) λj b es h1 e=>k (j+1) b es (by simpa using h1) (by simpa using e))|[],_::_,h,_=>by simp at h|_::_,[],h,_=>by simp at h
theorem Nw.Od(w:Nw K x q as F ρ σ H rows){b:Addr}(hb:b∈q::as):F b=none/\¬ Own ρ σ b:=by
 rcases mem_cons.mp hb with rfl|hb;.exact⟨w.out.fr,w.out.kp.2⟩
 . obtain⟨k,a⟩:=List.getElem?_of_mem hb;have c:k<rows.length:=by rw[<-w.len];exact(eG a).1
   obtain⟨⟨xs,e,_⟩,f1⟩:=w.row k b rows[k] a (by simp[c]);exact⟨f1,e.2⟩
theorem Nw.fz(w:Nw K x q as F ρ σ H rows)(sm:aH F H):aH F (Fz F H (q::as))/\aH (Fz F H (q::as)) H/\Rep K (Fz F H (q::as)) (.ref q) (.lst (rows.map D.lst)):=by
 have s1:aH F (Fz F H (q::as)):=λb o e=>by unfold Fz;rw[if_neg λc=>by rw[(w.Od c).1]at e;cases e];exact e
 refine⟨s1,λb o e=>?_,?_⟩
 . unfold Fz at e;split at e;.exact e
   .exact sm b o e
 .rw[Rep];refine⟨q,as.map V.ref,rfl,fP.of (by unfold Fz;rw[if_pos mem_cons_self];exact w.out.kp.1),sS w.len λk a f h1 g=>?_⟩;obtain⟨⟨xs,h,r1⟩,f1⟩:=w.row k a f h1 g;rw[Rep];exact⟨a,xs,rfl,fP.of (by unfold Fz;rw[if_pos (mem_cons_of_mem _ (mem_of_getElem? h1))];exact h.1),r1.mono s1⟩
theorem NB.dh(b:NB K x q as F0 ρ0 σ0 H0 F ρ σ H rows):az K F0 ρ0 σ0 H0 (Fz F H (q::as)) (ρ.set x (.val false (.lst (rows.map D.lst)))) σ H:=by
 obtain⟨s1,s2,w⟩:=b.nw.fz b.stp.gs.sub;have g:=b.stp.gs;have s:x<ρ.length:=(eG b.nw.slot).1;have k:∀{j:Nat}{c:Addr},aQ (ρ.set x (.val false (.lst (rows.map D.lst)))) σ j c->aQ ρ σ j c/\x≠j:=λ{j c}⟨⟨t,r,e,m⟩,e1⟩=>by
  by_cases f:x=j;.subst f;rw[getElem?_set_self s]at e;cases e;cases m
  .rw[getElem?_set_ne f]at e;exact⟨⟨⟨t,r,e,m⟩,e1⟩,f⟩
 refine⟨⟨s2,by simp[g.len],λi y d e=>?_,λi t r e m=>?_,λi j c h1 p=>g.dis i j c (k h1).1 (k p).1⟩,b.stp.cW.trans s1,λc n u=>?_,b.stp.keep,λc⟨j,h⟩=>b.stp.vV c ⟨j,(k h).1⟩,by simp[b.stp.len],λi t e l=>?_⟩
 . by_cases f:x=i;.subst f;rw[getElem?_set_self s]at e;cases e;exact⟨_,b.nw.val,w⟩
   .rw[getElem?_set_ne f]at e;obtain⟨v,h1,p⟩:=g.val i y d e;exact⟨v,h1,p.mono s1⟩
 . by_cases f:x=i;.subst f;rw[getElem?_set_self s]at e;cases e;cases m
   .rw[getElem?_set_ne f]at e;obtain⟨a,o,h1,p,z,A⟩:=g.own i t r e m;refine⟨a,o,h1,p,?_,A.mono s1⟩;unfold Fz;rw[if_neg λB=>(b.nw.Od B).2 ⟨i,⟨t,r,e,m⟩,h1⟩];exact z
 . by_cases hc:c∈q::as;.exact(b.fresh c hc).imp id jN
   . have:Fz F H (q::as) c=F c:=by unfold Fz;rw[if_neg hc]
     rw[this]at u;exact b.stp.ye c n u
 . have c:x≠i:=by rintro rfl;rw[b.free _ e]at l;cases l
   obtain⟨C,s3,E,G⟩:=b.stp.lk i t e l;exact⟨C,s3,by rw[getElem?_set_ne c];exact E,G⟩
end
inductive Sq(K:PySem.W.Frag)(x:Nat)(f:List Sl->Res Fl)(E:Ends)(σ:L2.St)(H:Hp):Prop where|mk(F0:Hp)(ρ0:List Sl)(σ0:L2.St)(H0 F:Hp)(ρ:List Sl)(q:Addr)(as:List Addr)(rows:List (List D))(fl:Fl)(ρ':List Sl)(b:NB K x q as F0 ρ0 σ0 H0 F ρ σ H rows)(e:f ρ=.ok fl ρ')(k:∀F' σ' H',az K F0 ρ0 σ0 H0 F' ρ' σ' H'->aH F F'->((∀r,fl≠.ret r)->∃oh,NB K x q as F0 ρ0 σ0 H0 F' ρ' σ' H' oh)->Hc K E F' ρ' σ' H' ρ0 σ0 H0 fl)
inductive Xn(K:PySem.W.Frag)(x:Nat)(f:List Sl->Res Fl)(E:Ends)(σ:L2.St)(H:Hp):Prop where|mk(F0:Hp)(ρ0:List Sl)(σ0:L2.St)(H0 F:Hp)(ρ:List Sl)(q:Addr)(as:List Addr)(rows:List (List D))(fl:Fl)(ρ':List Sl)(b:NB K x q as F0 ρ0 σ0 H0 F ρ σ H rows)(e:f ρ=.ok fl ρ')(k:∀F' σ' H',az K F0 ρ0 σ0 H0 F' ρ' σ' H'->Hc K E F' ρ' σ' H' ρ0 σ0 H0 fl)
structure Yx(X:Cx)(c:Call)(n x:Nat)(st:Stmt)(s:S):Prop where p:PS X st (Sq X.K x (ex c n s))
structure Vx(X:Cx)(c:Call)(n x:Nat)(st:List Stmt)(s:List S):Prop where p:wu X st (Sq X.K x (iu c n s))
structure ZJ(X:Cx)(c:Call)(n x:Nat)(st:List Stmt)(s:List S):Prop where p:wu X st (Xn X.K x (iu c n s))
section
variable{X:Cx}{c:Call}{n x:Nat}{e a b d tg iter:Expr}{p pa pb pd:P}{pos:Pos}{body:List Stmt}{ss:List S}{st:Stmt}{s:S}{sts:List Stmt}
theorem o9:Vx X c n x [] []:=⟨mQ Bh λD σ H⟨f,ρ0,σ0,H0,F,ρ,q,as,rows,fl,ρ',nb,e,k⟩=>by rw[xs0]at e;cases e;exact k F σ H nb.stp (.refl _) λ_=>⟨rows,nb⟩⟩
theorem qj(h1:Yx X c n x st s)(w:Vx X c n x sts ss):Vx X c n x (st::sts) (s::ss):=by refine⟨mQ (mJ h1.p w.p) ?_⟩;rintro D σ H⟨h,f,g,i,F,ρ,q,as,rows,fl,t,l,e,k⟩;rw[R4]at e;obtain⟨f1,j,m,e⟩:=aj e;cases f1 with|next=>refine⟨h,f,g,i,F,ρ,q,as,rows,.next,j,l,m,λF1 y I s1 sm nn=>?_⟩;obtain⟨A,B⟩:=nn (λr z=>by cases z);exact⟨h,f,g,i,F1,j,q,as,A,fl,t,B,e,λC u E s2 G v=>k C u E s2 (sm.trans G) v⟩|brk=>cases e;exact⟨h,f,g,i,F,ρ,q,as,rows,.brk,_,l,m,k⟩|cont=>cases e;exact⟨h,f,g,i,F,ρ,q,as,rows,.cont,_,l,m,k⟩|ret r=>cases e;exact⟨h,f,g,i,F,ρ,q,as,rows,.ret r,_,l,m,k⟩
theorem Ip(h1:Yx X c n x st s)(w:ZJ X c n x sts ss):ZJ X c n x (st::sts) (s::ss):=by refine⟨mQ (mJ h1.p w.p) ?_⟩;rintro D σ H⟨j,g,h,l,F,ρ,q,as,rows,fl,v,t,e,k⟩;rw[R4]at e;obtain⟨f1,m,u,e⟩:=aj e;cases f1 with|next=>refine⟨j,g,h,l,F,ρ,q,as,rows,.next,m,t,u,λF1 f i s1 sm nn=>?_⟩;obtain⟨y,A⟩:=nn (λr z=>by cases z);exact⟨j,g,h,l,F1,m,q,as,y,fl,v,A,e,k⟩|brk=>cases e;exact⟨j,g,h,l,F,ρ,q,as,rows,.brk,_,t,u,λF1 f i s1 _ _=>k F1 f i s1⟩|cont=>cases e;exact⟨j,g,h,l,F,ρ,q,as,rows,.cont,_,t,u,λF1 f i s1 _ _=>k F1 f i s1⟩|ret r=>cases e;exact⟨j,g,h,l,F,ρ,q,as,rows,.ret r,_,t,u,λF1 f i s1 _ _=>k F1 f i s1⟩
theorem Ng(h:SB X c n sts ss):ZJ X c n x sts (.dh x::ss):=by refine⟨mQ h ?_⟩;rintro D σ H⟨B,l,m,C,F,ρ,q,as,rows,fl,f,i,e,k⟩;rw[R4]at e;obtain⟨f1,u,j,e⟩:=aj e;rw[HH.X23,i.nw.slot]at j;cases j;have t:=i.dh;refine⟨_,_,fl,f,t.gs,e,λw g y s=>?_⟩;have z:=k w g y (t.trans s);cases fl with|next=>exact z|brk=>exact z|cont=>exact z|ret r=>exact λv A=>z v (A.later t)
theorem Ul{r u:List Stmt}{v w:List S}(hc:ST X c e p)(z:Vx X c n x r v)(A:Vx X c n x u w):Yx X c n x (.If e r u pos) (.ifs p v w):=by refine⟨dM (Pb hc z.p A.p) ?_⟩;rintro D σ H⟨B,j,l,C,F,ρ,q,as,rows,fl,i,y,e,k⟩;rw[HH.ZM]at e;obtain⟨t,g,E,e⟩:=aj e;refine⟨F,ρ,t,g,y.stp.gs,E,λF1 G s1=>?_⟩;have go:∀{f:List Sl->Res Fl},f g=.ok fl i->Sq X.K x f D σ G:=λ{f}h=>⟨B,j,l,C,F1,g,q,as,rows,fl,i,y.step s1,h,λI m J s2 sm nn=>k I m J s2 (s1.cW.trans sm) nn⟩;cases t with|true=>rw[if_pos rfl]at e;exact go e|false=>rw[if_neg Bool.false_ne_true]at e;exact go e
theorem Ji{ρ:List Sl}(h:iV ρ x=some rows):ρ[x]?=some (.hold rows):=by
 unfold iV at h;split at h;.rename_i z;cases h;exact z
 .cases h
def WalkN(K:PySem.W.Frag)(J:It)(i:List D)(F1:Hp):Prop:=∀(k:Nat)(h f:Hp),aH F1 h->aH h f->(∀d,i[k]?=some d->J.go k f/\∀x j,J.PN k f x j->∃g,Ext h f g j/\Rep K g x d)/\(i.length<=k->J.stop k f)
inductive ab9(K:PySem.W.Frag)(f:Ev)(σ:L2.St)(H:Hp)(R:It->Hp->Prop):Prop where|mk(F:Hp)(ρ:List Sl)(r:HH.R)(ρ1:List Sl)(ds:List D)(g:GS K F ρ σ H)(e:f ρ=.ok r ρ1)(e2:items r.d=some ds)(k:∀J F1 H1,az K F ρ σ H F1 ρ1 σ H1->WalkN K J ds F1->R J H1)
structure SIN(X:Cx)(c:Call)(tg e:Expr)(p:P):Prop where p:PI X tg e (ab9 X.K (HH.ev c p))
theorem KN(h:SX X c e p):SIN X c tg e p:=by refine⟨qQ (yG h.ev) ?_⟩;rintro σ H R⟨F,ρ,r,m,w,g,e,f,k⟩;refine⟨F,ρ,r,m,g,e,λv y z s t=>?_⟩;obtain⟨A,s2,_,i⟩:=s.dh t;cases hd:r.d with|tup es=>rw[hd]at i f;cases f;rw[Rep]at i;obtain⟨a,xs,rfl,h1,q⟩:=i;exact⟨a,rfl,.inr ⟨⟨xs,aH.iD s2.gs.sub h1⟩,k _ _ _ s2 λk F3 u j l=>Ck (aH.iD l (aH.iD j h1)) (q.mono j) l k⟩⟩|lst es=>rw[hd]at i f;cases f;rw[Rep]at i;obtain⟨a,xs,rfl,h1,q⟩:=i;exact⟨a,rfl,.inl ⟨⟨xs,s2.gs.sub.seq h1⟩,k _ _ _ s2 λk F3 u j l=>pM (l.seq (j.seq h1)) (q.mono j) l k⟩⟩|_=>rw[hd]at f;cases f
theorem DN{K:PySem.W.Frag}{F1:Hp}(i j:Int):WalkN K (VB i (j-i).toNat) ((List.range (j-i).toNat).map λ(k:Nat)=>D.int (i+(k:Int))) F1:=by
 refine λk g u _ sm=>⟨λd hd=>?_,λh=>?_⟩;.rw[getElem?_map]at hd;obtain⟨m,l,q⟩:=map_some hd;obtain⟨h1,f⟩:=eG l;rw[List.getElem_range]at f;subst f;subst q;rw[length_range]at h1;refine⟨h1,?_⟩;rintro x v⟨r,t⟩;subst r;subst t;exact⟨g,.refl sm,bN _⟩
 .rw[length_map,length_range]at h;exact h
theorem Il{x:Str}{q:Pos}(t:x="range")(u:Gl X x)(w:X.mg x=none)(y:SX X c a pa)(hs:starEach [a] X.env=[(false,eval a X.env)]:=by rfl):SIN X c tg (.Call (.Name x q) [a] [] pos) (.yc (.con (.int 0)) pa):=by
 subst t;obtain⟨O,h1,z⟩:=y.cH;refine⟨qQ (sZ u w (cu h1 dY hs) hs) ?_⟩;rintro σ H R⟨F,ρ,r,A,Q,g,l,B,k⟩;rw[HH.E19]at l;obtain⟨U,C,E,f⟩:=aj l;have G:=aC f;clear f;obtain⟨f,I⟩:=G;subst I;obtain⟨W,J,L,h⟩:=aj E;cases h;obtain⟨i,f1,f⟩:=bV f;obtain⟨j,f2,f⟩:=bV f;obtain⟨⟨b1,b2,b3,b4⟩,f⟩:=aU f;have f1:i=0:=by cases f1;rfl
 subst f1;subst f;cases B;cases cJ f2;refine z g L λv m M s N=>⟨j,by rw[N.int],by omega,by omega,?_⟩;have:=DN (K:=X.K) (F1:=m) 0 j;rw[sub_zero]at this;refine k _ m M s ?_;rw[sub_zero];exact this
theorem Am{g:TG}{is:List Nat}{one:Bool}(hp:PassesOwn (model X.prog X.w) X.A X.env X.xe)(hc:X.calm=true)(hi:SIN X c tg iter p)(hg:PG X tg g)(ag:J8 X.K (λρ d=>cP ρ is one d) g)(hb:Vx X c n x body ss)(hs:∀x,foldedSetIterable iter X.env x=pure x:=by intro _;rfl):Yx X c n x (.For tg iter body [] pos) (.Em p is one ss):=by
 refine⟨dM (Hh hp hc hi.p hg hb.p hs) ?_⟩;rintro D σ H⟨F0,E,G,H0,F,ρ,q,as,rows,fl,Q,nb,e,k⟩;rw[HH.X22]at e;obtain⟨r,U,e1,e⟩:=aj e;obtain⟨j,am,e9,e2⟩:=aj e;have zz:=aC e9;clear e9;obtain⟨e9,ah⟩:=zz;subst ah;refine⟨F,ρ,r,U,j,nb.stp.gs,e1,e9,λJ F1 H1 s1 w=>?_⟩;refine⟨λi m t Hi=>∃C f O,NB X.K x q as F0 E G H0 C f t Hi O/\aH F1 C/\m=j.length-i/\i<=j.length/\iw is one (iu c n ss) (j.drop i) f=.ok fl Q,⟨_,F1,U,rows,nb.step s1,.refl _,rfl,n8,e2⟩,?_⟩;rintro i m t Hi⟨C,f,O,W,I,rfl,ap,l⟩;obtain⟨w1,w2⟩:=w i C Hi I W.stp.gs.sub;by_cases u:i<j.length
 . right;have hd:j[i]?=some j[i]:=by simp[u]
   obtain⟨go,step⟩:=w1 _ hd;refine⟨go,λY Z=>∃m',m'<j.length-i/\∃C f O,NB X.K x q as F0 E G H0 C f Y Z O/\aH F1 C/\m'=j.length-(i+1)/\i+1<=j.length/\iw is one (iu c n ss) (j.drop (i+1)) f=.ok fl Q,λY Z z=>z,λy Z yy=>?_⟩;obtain⟨F2,ext,rx⟩:=step y Z yy;have t2:=ext.stp W.stp.gs;rw[drop_eq_getElem_cons u,zN]at l;cases hbd:cP f is one j[i]with|none=>rw[hbd]at l;cases l|some ac=>rw[hbd]at l;obtain⟨ae,L,eb,l⟩:=aj l;refine ag y _ F2 f ac t Z _ t2.gs rx hbd λar sb=>?_;have t3:=t2.trans sb;refine⟨F0,E,G,H0,F2,ac,q,as,O,ae,L,W.step t3,eb,λF4 af H4 s4 ai M=>?_⟩;have B:aH F1 F4:=I.trans (ext.fs.trans ai);cases ae with|next=>obtain⟨JV,N⟩:=M (λr z=>by cases z);exact⟨_,by omega,F4,L,JV,N,B,rfl,u,l⟩|cont=>obtain⟨JV,N⟩:=M (λr z=>by cases z);exact⟨_,by omega,F4,L,JV,N,B,rfl,u,l⟩|brk=>cases l;exact k F4 af H4 s4 (s1.cW.trans B) λ_=>M (λr z=>by cases z)|ret r=>cases l;exact λv rr=>k F4 af H4 s4 (s1.cW.trans B) (λh=>(h r rfl).elim) v rr
 . left;have al:j.drop i=[]:=by rw[drop_eq_nil_iff];omega
   rw[al,HS]at l;cases l;exact⟨w2 (by omega),k C t Hi W.stp (s1.cW.trans I) λ_=>⟨O,W⟩⟩
end
section
variable{X:Cx}{c:Call}{n:Nat}{e a b d i j:Expr}{p pa pb pd pi pj:P}{pos:Pos}
theorem K1{ρ f:List Sl}{x:Nat}{o:Option (List (List D))}{fl:Fl}(h:CJ ρ x o=.ok fl f):∃rows,o=some rows/\fl=.next/\f=ρ.set x (.hold rows):=by cases o with|none=>cases h|some rows=>cases h;exact⟨rows,rfl,rfl,rfl⟩
section
variable{K:PySem.W.Frag}{F H F0 H0:Hp}{ρ ρ0:List Sl}{σ σ0:L2.St}{x:Nat}{q:Addr}{as:List Addr}{rows oh:List (List D)}
theorem NB.hold(f:NB K x q as F0 ρ0 σ0 H0 F ρ σ H rows)(h:iV ρ x=some oh):oh=rows:=by have:=Ji h;rw[f.nw.slot]at this;cases this;rfl
theorem NB.at{k:Int}{r:Nat}{row:List D}(f:NB K x q as F0 ρ0 σ0 H0 F ρ σ H rows)(h1:HH.iW rows.length k=some r)(h:rows[r]?=some row):∃a ys,as[r]?=some a/\Gx (as.map V.ref) k=some (.ref a)/\H a=some (.lst ys)/\aF K F ys row:=by
 have g:r<as.length:=by rw[f.nw.len];exact(eG h).1
 obtain⟨⟨ys,l,r1⟩,_⟩:=f.nw.row r as[r] row (by simp[g]) h;refine⟨as[r],ys,by simp[g],?_,l.1,r1⟩;unfold Gx;rw[length_map,f.nw.len];rw[show L2.iW rows.length k=some r from h1];simp[g]
theorem NB.uM{g:D}{row:List D}(l:NB K x q as F0 ρ0 σ0 H0 F ρ σ H rows)(h:HH.uM ρ x g=some row):∃k a,(∃r:Nat,as[r]?=some a)/\Gx (as.map V.ref) k=some (.ref a)/\g=.int k/\∃ys,H a=some (.lst ys)/\aF K F ys row:=by unfold HH.uM at h;obtain⟨f,h1,h⟩:=bV h;cases l.hold h1;obtain⟨k,m,h⟩:=bV h;obtain⟨r,s,t⟩:=bV h;obtain⟨a,ys,u,v,w,y⟩:=l.at s t;exact⟨k,a,⟨r,u⟩,v,cJ m,ys,w,y⟩
end
theorem Cy{l:List (List D)}{k:Int}{f:List D->Option (List D)}(h:jt rows k f=some l):∃r row g,HH.iW rows.length k=some r/\rows[r]?=some row/\f row=some g/\l=rows.set r g:=by unfold jt at h;obtain⟨r,h1,h⟩:=bV h;obtain⟨row,m,h⟩:=bV h;obtain⟨g,q,h⟩:=map_some h;exact⟨r,row,g,h1,m,q,h.symm⟩
theorem FT{x:Str}{k:Nat}{u f h g:Pos}(hN:X.N[k]?=some x)(hv:vQ X.env.scope x)(hi:SX X c i pi)(he:SX X c e p)(I:vC i:=by intro _ _;rfl)(l:(h.endLine==g.line)=true:=by rfl)(hs:starEach [e] X.env=(false,eval e X.env)::starEach [] X.env:=by rfl)(s:attributeBase (.Subscript (.Name x u) i f) "append" X.env (eval (.Subscript (.Name x u) i f) X.env)=eval (.Subscript (.Name x u) i f) X.env:=by rfl)(w:((backTo g (starEach [e] X.env)).all (λx=>!x.1)&&(backToKw g (keywordEach [] X.env)).all (λx=>x.1.isSome)&&decide ([e].length+([]:List Keyword).length+(if([]:List Keyword).isEmpty then 0 else 1)<30))=true:=by rfl)(J:swapsWith (.Call (.Attribute (.Subscript (.Name x u) i f) "append" h) [e] [] g) none pos.line X.env=pure false:=by rfl)(hd:(x==("__debug__":Str))=false:=by decide)(L:(x==("__classdict__":Str))=false:=by decide):Yx X c n k (.Expr (.Call (.Attribute (.Subscript (.Name x u) i f) "append" h) [e] [] g) pos) (.JP k pi p):=by obtain⟨ti,M,O⟩:=hi.cH;refine⟨dM (vg (Jr plainAttrs_list PySem.F.slot_list_append PySem.F.type_list_append mZ (Pz Ah (eX hN hv hd L) M I) (cu he.ev dY hs) s w l hs) J) ?_⟩;rintro E σ H⟨F0,al,am,H0,F,ρ,q,as,rows,fl,ap,Q,e,kk⟩;rw[HH.X21]at e;obtain⟨dk,U,e2,e⟩:=aj e;obtain⟨ah,ai,C,e⟩:=aj e;have zz:=aC C;clear C;obtain⟨C,W⟩:=zz;subst W;obtain⟨r,Y,e3,e⟩:=aj e;obtain⟨rs,y,rfl,rfl⟩:=K1 e;refine⟨.ref q,Q.nw.val,O Q.stp.gs e2 λvi F1 H1 s1 pi=>?_⟩;have G:=Q.step s1;obtain⟨k0,a,g1,g2,g0,ys,g3,g4⟩:=G.uM C;rw[g0]at pi;refine⟨q,_,k0,_,rfl,pi.int,fP.of G.nw.out.kp.1,g2,.inl ⟨rfl,ys,fP.of g3⟩,F1,U,r,Y,G.stp.gs,e3,λv F2 H2 s2 rr=>?_⟩;obtain⟨F3,s3,_,rp⟩:=s2.dh rr;have t:=G.step s3;obtain⟨Z,e5,y⟩:=bV y;cases t.hold e5;obtain⟨k1,e6,y⟩:=bV y;obtain⟨m,row,jR,f1,f2,f3,rfl⟩:=Cy y;obtain⟨ac,rfl⟩:=aU f3;have:=cJ e6;rw[g0]at this;cases this;obtain⟨a',ae,af,z,ag,A⟩:=t.at f1 f2;rw[g2]at z;cases z;have B:=t.mut af f2 (A.append (.cons rp .nil));exact⟨a,ae,v,rfl,rfl,ag,by rw[A.length];exact ac,kk F3 σ _ B.stp (s1.cW.trans s3.cW) λ_=>⟨_,B⟩⟩
end
section
variable{K:PySem.W.Frag}{F H F1 H1:Hp}{ρ ρ1:List Sl}{σ σ1:L2.St}
theorem az.since{b:Addr}(s:az K F ρ σ H F1 ρ1 σ1 H1)(h:H1 b=none):Own ρ σ b\/H b=none:=by
 by_cases ho:Own ρ σ b;.exact .inl ho
 .right;cases e:H b with|none=>rfl|some o=>rw[s.keep b o e ho]at h;cases h
theorem NB.mk'{x:Nat}{q:Addr}{as:List Addr}{s1:Sl}(s:az K F ρ σ H F1 ρ1 σ1 H1)(e:ρ1[x]?=some s1)(g:uH s1=false)(h:QG F1 ρ1 σ1 H1 q (as.map V.ref))(nd:(q::as).Nodup)(len:as.length=rows.length)(row:∀(k:Nat)(a:Addr)(c:List D),as[k]?=some a->rows[k]?=some c->Wt K F1 ρ1 σ1 H1 a c)(fr:∀b,b∈q::as->Own ρ σ b\/H b=none):NB K x q as F ρ σ H F1 (ρ1.set x (.hold rows)) (σ1.set x (some (.ref q))) H1 rows:=by
 have hi:x<ρ1.length:=(eG e).1;have f:x<σ1.length:=by rw[<-s.gs.len];exact hi
 exact⟨s.Ce rfl (s.free e g),fr,s.free e g,⟨getElem?_set_self hi,getElem?_set_self f,⟨Bp rfl h.kp,h.fr⟩,nd,len,λk a c h1 i=>K5 rfl (row k a c h1 i)⟩⟩
end
theorem Ih{K:PySem.W.Frag}{F H:Hp}{ρ e l:List Sl}{σ:L2.St}{ul:List Sl->List Sl}{ti:TI}{is:List Nat}{one:Bool}{c:Call}{el:Ev}{g:TG}{Q:VK}{f:List D}{m n:Nat}(hm:σ.length=m)(ax:nP K m is one g)(ay:∀R:It->Hp->Prop,(∀J F1 Y,Walk K F ρ σ H ul J f F1 e Y->R J Y)->ti σ H R)(bi:f.length<=lim)(e2:gf is one el f [] (e++replicate n .aW)=.ok rows l)(k:∀ q as F' H',az K F ρ σ H F' (ul (l.take e.length)) σ H'->QG F' (ul (l.take e.length)) σ H' q (as.map V.ref)->(q::as).Nodup->as.length=rows.length->(∀(k:Nat)(a:Addr)(f:List D),as[k]?=some a->rows[k]?=some f->Wt K F' (ul (l.take e.length)) σ H' a f)->(∀b,b∈q::as->Own ρ σ b\/H b=none)->Q (.ref q) H'):sV n ti g (HY K (vU c none)) (Bv K el) σ H Q:=by
 refine ay _ λJ F1 Y w Da Cv=>?_;have aE:e.length=σ.length:=w.gs.len;have gm:=w.gs.more (n:=n) (τ:=replicate n none) (by simp);have fD:F1 Da=none:=by cases q:F1 Da with|none=>rfl|some o=>rw[w.gs.sub Da o q]at Cv;cases Cv
 have nO:¬ Own (e++replicate n .aW) (σ++replicate n none) Da:=λ⟨i,⟨t,dt,q1,q2⟩,q3⟩=>by obtain⟨a,ys,z1,z2,_⟩:=gm.own i t dt q1 q2;rw[q3]at z1;cases z1;rw[Cv]at z2;cases z2
 refine⟨λi mm ys j N=>∃O u B as,az K F1 (e++replicate n .aW) (σ++replicate n none) Y O u j N/\j.take m=σ/\ys=as.map V.ref/\N Da=some (.lst ys)/\O Da=none/\¬ Own u j Da/\(Da::as).Nodup/\as.length=B.length/\(∀(k:Nat)(a:Addr)(f:List D),as[k]?=some a->B[k]?=some f->Wt K O u j N a f/\(Own (e++replicate n .aW) (σ++replicate n none) a\/Y a=none))/\B.length<=i/\mm=f.length-i/\i<=f.length/\gf is one el (f.drop i) B u=.ok rows l,⟨_,F1,_,[],[],(az.refl gm).Gd Cv fD nO,by rw[List.take_append_of_le_length (by omega),List.take_of_length_le (by omega)],rfl,aJ,fD,nO,by simp,rfl,λk a f h=>by simp at h,n8,rfl,n8,e2⟩,?_⟩;rintro i mm ys j N⟨O,u,B,as,si,ap,ac,hD,hF,hO,ae,C,I,bm,rfl,bn,G⟩;refine⟨hD,?_⟩;have stay:∀{F2 H2:Hp}{af:List Sl}{L:L2.St},az K O u j N F2 af L H2->H2 Da=some (.lst ys)/\F2 Da=none/\¬ Own af L Da:=λ{F2 H2 af L}s=>by have:=(QG.stp (xs:=ys) ⟨⟨hD,hO⟩,hF⟩ s);exact⟨this.kp.1,this.fr,this.kp.2⟩
 obtain⟨s1,s2⟩:=w.src n i O u j N si;by_cases ag:i<f.length
 . right;have hd:f[i]?=some f[i]:=by simp[ag]
   obtain⟨go,step⟩:=s1 _ hd;refine⟨go,λx H2 y=>?_⟩;obtain⟨F2,ext,rx⟩:=step x H2 y;have t2:=ext.stp si.gs;rw[drop_eq_getElem_cons ag,G9]at G;cases hbd:cP u is one f[i]with|none=>rw[hbd]at G;cases G|some X=>rw[hbd]at G;obtain⟨re,ah,ee,G⟩:=aj G;cases re with|val _=>cases G|own ai=>
     replace G:gf is one el (f.drop (i+1)) (B++[ai]) ah=.ok rows l:=G;refine ax x _ F2 u X j H2 _ t2.gs rx hbd λL sb aI=>?_;have t3:=t2.trans sb;refine⟨F2,X,true,X,t3.gs,by rw[vU],λF4 H4 s4=>?_⟩;have t4:=t3.trans s4;refine(show Bv K el L H4 _ from⟨F4,X,.own ai,ah,t4.gs,ee,λv F5 H5 s5 rr=>?_⟩);have t6:=t4.trans s5;obtain⟨y1,y2,y3⟩:=stay t6;obtain⟨z1,z2,z3⟩:=stay t4;have al:ys.length<sizeLine:=by have U:lim=sizeLine:=rfl;rw[ac,length_map];omega
     obtain⟨A,xs,rfl,a1,a2,a3,a4,a5⟩:=rr;have ar:A≠Da:=by
      rintro rfl;rcases a5 with z|z;.exact z3 z
      .rw[z1]at z;cases z
     have nA:A∉as:=λhA=>by
      obtain⟨M,E⟩:=List.getElem?_of_mem hA;have am:M<B.length:=by rw[<-C];exact(eG E).1
      obtain⟨⟨zs,Z,_⟩,_⟩:=(I M A B[M] E (by simp[am])).1.stp t4;rcases a5 with z|z;.exact Z.2 z
      .rw[Z.1]at z;cases z
     have fA:Own (e++replicate n .aW) (σ++replicate n none) A\/Y A=none:=by
      have t:=si.trans t4;rcases a5 with z|z;.exact t.vV A z
      .exact t.since z
     refine⟨y1,al,_,by omega,F5,ah,B++[ai],as++[A],(si.trans t6).Gd Cv y2 y3,aI.trans ap,by rw[ac];simp,aJ,y2,y3,?_,by simp[C],λM a0 aS h1 U=>?_,by simp;omega,rfl,ag,G⟩
     . rw[<-cons_append,nodup_append];refine⟨ae,by simp,λp hp r hr=>?_⟩;simp at hr;subst hr;rcases mem_cons.mp hp with rfl|hp;.exact λz=>ar z.symm
       .rintro rfl;exact nA hp
     . by_cases E:M<as.length
       . rw[getElem?_append_left E]at h1;rw[getElem?_append_left (by omega)]at U;obtain⟨w0,f0⟩:=I M a0 aS h1 U;obtain⟨⟨zs,Z,r1⟩,g1⟩:=w0.stp t6;have na:a0≠Da:=by rintro rfl;exact(nodup_cons.mp ae).1 (mem_of_getElem? h1)
         exact⟨⟨⟨zs,⟨by rw[aA na];exact Z.1,Z.2⟩,r1⟩,g1⟩,f0⟩
       . rw[getElem?_append_right (by omega)]at h1;rw[getElem?_append_right (by omega)]at U;have:M-as.length=0:=by have:=(eG h1).1;simp at this;exact this
         rw[this]at h1;rw[<-C,this]at U;cases h1;cases U;exact⟨⟨⟨xs,⟨by rw[aA ar];exact a1,a4⟩,a3⟩,a2⟩,fA⟩
 . left;have aT:f.drop i=[]:=by rw[drop_eq_nil_iff];omega
   rw[aT,Gw]at G;cases G;refine⟨s2 (by omega),?_⟩;have hst:j.take e.length=σ:=by rw[aE,hm];exact ap
   obtain⟨l1,l2⟩:=az.less (m:=e.length) rfl w.gs (by simp) si;rw[hst]at l1;obtain⟨z1,z2⟩:=w.fin _ _ _ _ l1--the outer list:with nothing in it,it is like any new one
   have a8:=si.Gd (o:=.lst []) Cv hF hO;obtain⟨av,Wo⟩:=az.less (m:=e.length) rfl w.gs (by simp) a8;rw[hst]at av;obtain⟨bo,a9⟩:=w.fin _ _ _ _ av;have rr:cR K O l j (upd N Da (.lst [])) (e++replicate n .aW) (σ++replicate n none) Y (.ref Da) (.own []):=⟨Da,[],rfl,aJ,hF,.nil,hO,.inr Cv⟩;have Qc:=Wo _ _ rr;rw[hst]at Qc;obtain⟨_,_,q0,_,q3,_,q5,q6⟩:=a9 _ _ Qc;cases q0;have aw:∀(k:Nat)(a:Addr)(f:List D),as[k]?=some a->rows[k]?=some f->Wt K O (ul (l.take e.length)) σ N a f/\(Own ρ σ a\/H a=none):=λk a f h1 U=>by obtain⟨⟨⟨xs,Z,r1⟩,f1⟩,f2⟩:=I k a f h1 U;have rr:cR K O l j N (e++replicate n .aW) (σ++replicate n none) Y (.ref a) (.own f):=⟨a,xs,rfl,Z.1,f1,r1,Z.2,f2⟩;have Qc:=l2 _ _ rr;rw[hst]at Qc;obtain⟨a',ba,q0,q2,q3,q4,q5,q6⟩:=z2 _ _ Qc;cases q0;exact⟨⟨⟨ba,⟨q2,q5⟩,q4⟩,q3⟩,q6⟩
   refine k Da as O N z1 ⟨⟨by rw[hD,ac],q5⟩,q3⟩ ae C (λk a f h1 U=>(aw k a f h1 U).1) λb hb=>?_;rcases mem_cons.mp hb with rfl|hb;.exact q6
   . obtain⟨M,E⟩:=List.getElem?_of_mem hb;have am:M<rows.length:=by rw[<-C];exact(eG E).1
     exact(aw M b rows[M] E (by simp[am])).2
section
variable{X:Cx}{c:Call}{nn n:Nat}{tg iter elt:Expr}{ps pe:P}{pos:Pos}{sts:List Stmt}{ss:List S}{scope:Scope}{N':List Str}
theorem K9{i:Nat}{x:Str}{b f:Pos}{g:TG}{is:List Nat}{one:Bool}(hc:X.calm=true)(A:X.N.Nodup)(m:X.N[i]?=some x)(B:Loc X.env.scope x)(ok:fK X scope N' n)(hi:SI X c tg iter ps)(E:∀cl C s₀ H₀ ex,PG (sy X scope N' cl C s₀ H₀ ex) tg g)(r:nP X.K X.N.length is one g)(ht:∀cl C s₀ H₀ ex,SQ (sy X scope N' cl C s₀ H₀ ex) c [] none)(he:∀cl C s₀ H₀ ex,SX (sy X scope N' cl C s₀ H₀ ex) c elt pe)(G:ZJ X c nn i sts ss)(t:swapsWith (.ListComp elt [⟨tg,iter,[],0⟩] scope pos) (some (.Name x b)) f.line X.env=pure true:=by rfl)(hs:∀x,foldedSetIterable iter X.env x=pure x:=by intro _;rfl)(J:X.fn x=true\/X.env.scope.names.lookup x=some .local:=by first|exact .inl rfl|exact .inr rfl|assumption):SB X c nn (.Assign [.Name x b] (.ListComp elt [⟨tg,iter,[],0⟩] scope pos) f::sts) (.JN i ps n is one pe::ss):=by
 have h0:=Al (tt:=HY X.K (vU c none)) (te:=Bv X.K (HH.ev c pe)) hc A m B ok hi E ht (λcl C s₀ H₀ ex=>(he cl C s₀ H₀ ex).ev) t hs J;refine λj s σ H D I q=>mJ h0 G.p j s σ H D I ?_;have L:σ.length=X.N.length:=I.len;obtain⟨F,ρ,fl,u,M,e,O⟩:=q;rw[R4]at e;obtain⟨f1,Q,a,e⟩:=aj e;rw[HH.X20]at a;obtain⟨U,w,W,a⟩:=aj a;split at a;.rename_i k;obtain⟨rows,Y,Z,a⟩:=aj a;obtain⟨ac,z,l,a⟩:=aj a;cases a;have zz:=aC l;clear l;obtain⟨l,_⟩:=zz;obtain⟨s1,h1,h2,rfl⟩:=qW l;refine(show sV n (tIt X.K (isVar ps) (HH.ev c ps)) g (HY X.K (vU c none)) (Bv X.K (HH.ev c pe)) σ H (λv H1=>jy i v σ H1 (Xn X.K i (iu c nn ss) D))from Ih (c:=c) (ul:=bj ρ (isVar ps)) L r (λR h=>⟨F,ρ,U,w,M,W,h⟩) k Z λq as F' H' s wq nd len row fr=>?_);exact⟨F,ρ,σ,H,F',_,q,as,rows,fl,u,NB.mk' s h1 h2 wq nd len row fr,e,λF2 y H2 s2=>O F2 y H2 s2⟩
 .cases a
end
end HH
end
section
namespace HH
open PySem L2 PySem.Spec PyProof.Rows PySem.Calls PySem.W
variable{i:Nat}{x:Str}
section
variable{K:PySem.W.Frag}{F F1 H H1:Hp}{ρ ρ1 ρ2:List Sl}{σ σ1:L2.St}
theorem GS.adt{x:Nat}{kvs f:List (Int×D)}{a:Addr}{w:HO}(g:GS K F ρ σ H)(e:ρ[x]?=some (.di kvs))(p:σ[x]?=some (some (.ref a)))(r:jV K F w (.v f)):az K F ρ σ H F (ρ.set x (.di f)) σ (upd H a w):=by
 have hi:x<ρ.length:=(eG e).1;have y:aQ ρ σ x a:=⟨⟨_,_,e,rfl⟩,p⟩;obtain⟨L,M,h1,N,z,O⟩:=g.own x _ _ e rfl;rw[p]at h1;cases h1;have h:∀{j:Nat}{c:Addr},aQ (ρ.set x (.di f)) σ j c->aQ ρ σ j c:=λ{j c}⟨⟨t,dt,m,s⟩,q3⟩=>by
  by_cases b:j=x;.subst b;exact⟨⟨_,_,e,rfl⟩,q3⟩
  .rw[eV b]at m;exact⟨⟨t,dt,m,s⟩,q3⟩
 refine⟨⟨λc o q=>?_,by simp[g.len],λj B d q=>?_,λj t dt q u=>?_,λj k c m s=>g.dis j k c (h m) (h s)⟩,.refl _,λc n C=>absurd n C,λc o q n=>?_,λc⟨j,q⟩=>.inl ⟨j,h q⟩,by simp,λj t q l=>⟨rfl,?_⟩⟩
 . have:c≠a:=by rintro rfl;rw[z]at q;cases q
   rw[aA this];exact g.sub c o q
 . by_cases b:j=x;.subst b;rw[getElem?_set_self hi]at q;cases q
   .rw[eV b]at q;exact g.val j B d q
 . by_cases b:j=x;.subst b;rw[getElem?_set_self hi]at q;cases q;cases u;exact⟨a,_,p,aJ,z,r⟩
   . rw[eV b]at q;obtain⟨c,E,A,G,I,J⟩:=g.own j t dt q u;have:c≠a:=by rintro rfl;exact b (g.dis j x c ⟨⟨t,dt,q,u⟩,A⟩ y)
     exact⟨c,E,A,by rw[aA this];exact G,I,J⟩
 . have:c≠a:=by rintro rfl;exact n ⟨x,y⟩
   rw[aA this];exact q
 . by_cases b:j=x;.subst b;rw[e]at q;cases q;cases l
   .exact⟨t,by rw[eV b];exact q,.refl t⟩
theorem GS.newV{kvs:List (Int×D)}{a:Addr}{A:HO}{s0:Sl}(g:GS K F ρ σ H)(e:ρ[i]?=some s0)(y:uH s0=false)(r:jV K F A (.v kvs))(s:H a=none):az K F ρ σ H F (ρ.set i (.di kvs)) (σ.set i (some (.ref a))) (upd H a A):=by
 have hi:i<ρ.length:=(eG e).1;have u:i<σ.length:=by rw[<-g.len];exact hi
 have B:F a=none:=by cases q:F a with|none=>rfl|some o=>rw[g.sub a o q]at s;cases s
 have f:∀{j:Nat}{c:Addr},j≠i->aQ (ρ.set i (.di kvs)) (σ.set i (some (.ref a))) j c->aQ ρ σ j c:=λ{j c}b⟨⟨t,ds,e1,e2⟩,e3⟩=>by rw[eV b]at e1 e3;exact⟨⟨t,ds,e1,e2⟩,e3⟩
 have h:∀{c:Addr},aQ (ρ.set i (.di kvs)) (σ.set i (some (.ref a))) i c->c=a:=λ{c}⟨_,e3⟩=>by rw[getElem?_set_self u]at e3;cases e3;rfl
 have no:∀{j:Nat},¬ aQ ρ σ j a:=λ{j}⟨⟨t,ds,e1,e2⟩,e3⟩=>by obtain⟨c,o,m,p,_⟩:=g.own j t ds e1 e2;rw[e3]at m;cases m;rw[s]at p;cases p
 refine⟨⟨λc o q=>?_,by simp[g.len],λj E d q=>?_,λj t dt q C=>?_,λj k c m p=>?_⟩,.refl _,λc n G=>absurd n G,λc o q n=>?_,λc⟨j,q⟩=>?_,by simp,λj t q l=>?_⟩
 . have:c≠a:=by rintro rfl;rw[B]at q;cases q
   rw[aA this];exact g.sub c o q
 . by_cases b:j=i;.subst b;rw[getElem?_set_self hi]at q;cases q
   .rw[eV b]at q ⊢;exact g.val j E d q
 . by_cases b:j=i;.subst b;rw[getElem?_set_self hi]at q;cases q;cases C;exact⟨a,_,getElem?_set_self u,aJ,B,r⟩
   . rw[eV b]at q ⊢;obtain⟨c,o,I,z,J,L⟩:=g.own j t dt q C;have:c≠a:=by rintro rfl;rw[s]at z;cases z
     exact⟨c,o,I,by rw[aA this];exact z,J,L⟩
 . by_cases b:j=i
   . by_cases w:k=i;.rw[b,w]
     .subst b;rw[h m]at p;exact absurd (f w p) no
   . by_cases w:k=i;.subst w;rw[h p]at m;exact absurd (f b m) no
     .exact g.dis j k c (f b m) (f w p)
 . have:c≠a:=by rintro rfl;rw[s]at q;cases q
   rw[aA this];exact q
 . by_cases b:j=i;.subst b;rw[h q];exact .inr s
   .exact .inl ⟨j,f b q⟩
 . have b:j≠i:=by rintro rfl;rw[e]at q;cases q;rw[y]at l;cases l
   exact⟨by rw[eV b],t,by rw[eV b];exact q,.refl t⟩
end
section
variable{X:Cx}{c:Call}{n:Nat}{a b e:Expr}{pa pb p:P}{pos:Pos}
theorem Ao{f m:Pos}(o:X.N.Nodup)(hi:X.N[i]?=some x)(r:Loc X.env.scope x)(hs:swapsWith (.Dict [] [] m) (some (.Name x f)) pos.line X.env=pure false:=by rfl)(s:X.fn x=true\/X.env.scope.names.lookup x=some .local:=by first|exact .inl rfl|exact .inr rfl|assumption):SS X c n (.Assign [.Name x f] (.Dict [] [] m) pos) (.Eo i):=by
 refine dM (zM o hi r vX hs s) ?_;rintro D σ H⟨F,ρ,fl,h,g,e,k⟩;rw[HH.X24]at e;have go:∀s0,ρ[i]?=some s0->uH s0=false->fl=.next->h=ρ.set i (.di [])->∀a,H a=none->D.nx (σ.set i (some (.ref a))) (upd H a (.dK [])):=λs0 q t j l a u=>by subst j l;exact k F _ _ (g.newV (kvs:=[]) q t (KR.oc .nil) u)
 split at e;.rename_i q;cases e;exact go _ q rfl rfl rfl
 .rename_i q;cases e;exact go _ q rfl rfl rfl
 .rename_i q;cases e;exact go _ q rfl rfl rfl
 .cases e
theorem vp{w f:Pos}{pk:P}(hu:X.A.units+8<cLine)(C:X.N[i]?=some x)(E:vQ X.env.scope x)(G:SX X c a pk)(he:SX X c e p)(hs:swapsWith e (some (.Subscript (.Name x w) a f)) pos.line X.env=pure false:=by rfl)(hd:(x==("__debug__":Str))=false:=by decide)(m:(x==("__classdict__":Str))=false:=by decide):SS X c n (.Assign [.Subscript (.Name x w) a f] e pos) (.gD i pk p):=by
 obtain⟨ta,h1,I⟩:=G.cH;refine dM (Aw (by omega) (eX C E hd m) h1 he.ev hs) ?_;rintro D σ H⟨F,ρ,fl,J,g,e,k⟩;rw[HH.X25]at e;obtain⟨r,o,L,l⟩:=aj e;clear e;refine⟨F,ρ,r,o,g,L,λv F1 H1 s1 M=>?_⟩;obtain⟨F2,s2,_,O⟩:=s1.dh M;split at l
 . rename_i Q U;obtain⟨kd,W,Y,h⟩:=aj l;clear l;obtain⟨s,o0,t,w2,w3,w4⟩:=s2.gs.own i _ _ U rfl;refine⟨.ref s,t,I s2.gs Y λy F3 Z s3 py=>?_⟩;split at h
   . rename_i kvs j q;split at h;.rename_i hl;cases h;obtain⟨a1,o1,z,y2,y3,y4⟩:=s3.gs.own i _ _ q rfl;rw[t]at z;cases z;obtain⟨es,rfl,B⟩:=KR.QQ y4;have u:=B.put (k:=j) (O.mono s3.cW);refine⟨s,upd Z s (.dK (putK es (Sum.inl j:Key) v)),rfl,?_,k F3 σ _ ((s2.trans s3).trans (s3.gs.adt q t u.oc))⟩;rw[py.int];exact .inl ⟨es,Sum.inl j,y2,rfl,by rw[B.len,sizeLine_eq];exact hl,rfl⟩
     .cases h
   .cases h
 .cases l
theorem zu{y:Pos}{pk:P}(hu:X.A.units+8<cLine)(z:X.N[i]?=some x)(B:vQ X.env.scope x)(C:SX X c a pk)(hs:Ke a)(hd:(x==("__debug__":Str))=false:=by decide)(l:(x==("__classdict__":Str))=false:=by decide):SX X c (.Subscript (.Name x y) a pos) (.PX i pk):=by
 obtain⟨ta,h1,E⟩:=C.cH;refine⟨fu (KQ (by omega) (eX z B hd l) h1 hs) ?_,λi h=>by cases h⟩;rintro σ H Q⟨F,ρ,r,G,g,e,k⟩;rw[HH.E23]at e;split at e
 . rename_i I q;obtain⟨kd,J,L,f⟩:=aj e;clear e;obtain⟨m,o0,o,w2,w3,w4⟩:=g.own i _ _ q rfl;refine⟨.ref m,o,E g L λv F1 M s1 s=>?_⟩;split at f;.rename_i kvs O;obtain⟨t,U⟩:=aC f;clear f;subst U;obtain⟨j,W,Y⟩:=bV t;clear t;obtain⟨d,Z,e6⟩:=map_some Y;subst e6;rw[cJ W]at s;obtain⟨a1,o1,u,y2,y3,y4⟩:=s1.gs.own i _ _ O rfl;rw[o]at u;cases u;obtain⟨es,rfl,kr⟩:=KR.QQ y4;obtain⟨w,g1,g2⟩:=kr.get Z;rw[s.int];exact⟨m,w,rfl,.inl ⟨es,Sum.inl j,.inl y2,rfl,g1.symm⟩,k w F1 M s1 (show Rep X.K F1 _ _ from g2)⟩
   .cases f
 .cases e
theorem QV{G:Pos}{pk:P}{neg:Bool}{op:CmpOp}(t:(op=.In/\neg=false)\/(op=.NotIn/\neg=true))(hu:X.A.units+8<cLine)(w:X.N[i]?=some x)(z:vQ X.env.scope x)(J:SX X c a pk)(hd:(x==("__debug__":Str))=false:=by decide)(m:(x==("__classdict__":Str))=false:=by decide):PC X op a (.Name x G) (Bv X.K (HH.ev c (.P0 i pk neg))):=by
 obtain⟨L,h1,M⟩:=J.cH;have l:∀{σ:L2.St}{H:Hp}{Q:VK},Bv X.K (HH.ev c (.P0 i pk neg)) σ H Q->L σ H λy u=>Q7 i σ u λx B=>∃a o,x=.ref a/\m8 B a y o/\Q (.bl (if neg then !o.isSome else o.isSome)) B:=λ{σ H Q}⟨F,ρ,r,ρ',g,e,k⟩=>by
  rw[HH.E24]at e;obtain⟨kd,O,U,q⟩:=aj e;clear e;refine M g U λv F1 u s1 C=>?_;split at q;.rename_i kvs W;obtain⟨Y,Z⟩:=aC q;clear q;subst Z;obtain⟨j,e4,e5⟩:=map_some Y;subst e5;rw[cJ e4]at C;obtain⟨E,o1,y1,y2,y3,y4⟩:=s1.gs.own i _ _ W rfl;obtain⟨es,rfl,kr⟩:=KR.QQ y4;rw[C.int];refine⟨.ref E,y1,E,_,rfl,.inl ⟨es,Sum.inl j,.inl y2,rfl,rfl⟩,?_⟩;rw[kr.has j];exact k _ F1 u s1 (show Rep X.K F1 _ _ from jT _)
  .cases q
 rcases t with⟨rfl,rfl⟩|⟨rfl,rfl⟩;.exact λf s σ H Q I h=>Rc (by omega) h1 (eX w z hd m) f s σ H Q I (l h)
 .exact λf s σ H Q I h=>Ei (by omega) h1 (eX w z hd m) f s σ H Q I (l h)
end
theorem nM{P:Program}{w:World}:∀{ks:List Int}{es:List (Key×V)}{vs:List (Key×Value)}{a:List Value},es.map (·.1)=ks.map (Sum.inl:Int->Key)->KV es vs->a.length=vs.length->(∀(j:Nat)(v:Value),a[j]?=some v->∃(k:Key)(x:Value),vs[j]?=some (k,x)/\(aV P w).is k v=true)->IntsAre a ks
 |[],es,_,a,he,r,h,_=>by cases es with
   |nil=>cases r;cases a with|nil=>exact .nil|cons _ _=>simp at h
   |cons _ _=>simp at he
 |i::ks,es,_,a,he,r,h,k=>by cases es with|nil=>simp at he|cons p es=>cases r with|@cons _ q _ _ r t=>rw[map_cons,map_cons]at he;cases a with|nil=>simp at h|cons v a=>
         obtain⟨f,x,c,g⟩:=k 0 v rfl;simp at c;have l:f=Sum.inl i:=by have z:=r.1;rw[c]at z;rw[<-(List.cons.inj he).1];exact z.symm
         subst l;obtain⟨m,tk,b,rfl⟩|⟨_,_,b,_⟩:=bA (show nY (Sum.inl i) v=true from g);.cases b;exact .cons _ tk (nM (List.cons.inj he).2 t (by simpa using h) λj v e=>k (j+1) v (by simpa using e))
         .cases b
section
variable{X:Cx}{c:Call}{n:Nat}{a b e:Expr}{pa pb p:P}{pos:Pos}
theorem Yi(hc:X.calm=true):fG X (.type "list") (O3 X.K λx=>blt .Wn [x]):=by rintro t s σ H xs us Q I r⟨x,A,F,d,B,sm,C,he,k⟩;cases d with|dv ks Y=>
   obtain⟨E,he⟩:=aU (show(if ks.length<=16777216 then some (R.own (ks.map D.int))else none)=some B from he);subst he;obtain⟨q,G,g,rfl,J,rs,L⟩:=C.dv sm;subst A;obtain⟨u,rfl,M⟩:=r.one;cases M;obtain⟨ho,hz,N,vs,y,l⟩:=(show bz X.prog X.w H s.heap q (.dh G (.dK (ent ks g)))from I.hok q _ J);obtain⟨ep,l⟩:=l.dictAt;have z:=p6 (ks:=ks) (vs:=g) (by rw[rs.length];exact L);have m:vs.length=ks.length:=by rw[<-Paired.length y];have:=congrArg List.length z;simpa using this
   refine kdl_call (kdl_dict (knd:=aV X.prog X.w) (kvs:=vs) (ep:=ep) N) (I.ok.hd hc) l (by rw[m,sizeLine_eq];omega) λh' tk h O kp U f=>?_;have W:IntsAre h.toList ks:=nM (P:=X.prog) (w:=X.w) z y (by rw[length_toList];exact f.1) λj v e=>f.2 j v (by rw[<-Array.getElem?_toList];exact e);refine⟨.ref s.heap.objs.size,_,I.laid (t':=tk) (o:=.lst (ks.map V.int)) (h':=h') kp (cO) ⟨by rw[length_map,sizeLine_eq];omega,h.toList,O,lU W,by rw[Array.toArray_toList];exact U⟩,rfl,?_⟩;exact uL sm (tL ks) (I.hok.fresh (cO)) k|_=>cases he
theorem Io{f:Pos}(g:x="list")(hc:X.calm=true)(j:Gl X x)(k:X.mg x=none)(l:SX X c a pa)(hs:starEach [a] X.env=(false,eval a X.env)::starEach [] X.env:=by rfl):SX X c (.Call (.Name x f) [a] [] pos) (.blt .Wn [pa]):=by subst g;exact qO (λh=>nG (Yi hc) j k (by decide+kernel) h (he:=hs)) l (λρ=>rfl) rfl hs
theorem M8{neg:Bool}{op:CmpOp}(f:(op=.In/\neg=false)\/(op=.NotIn/\neg=true))(J:X.A.units+8<cLine):fW X (compareOp op) (rD X.K (wD neg)):=by rintro m s σ H x y v u Q I h t⟨F,d,e,r,sm,w,z,he,k⟩;cases d with
 |int j=>cases e with|dv ks L=>
     cases he;obtain⟨q,B,vs,rfl,C,rs,E⟩:=z.dv sm;have G:=KR.zip rs E;rw[w.int]at h;obtain rfl:u=Value.ref q:=t;have g:m8 H q (.int j) (je (ent ks vs) (Sum.inl j:Key)):=.inl ⟨_,Sum.inl j,.inr ⟨B,C⟩,rfl,rfl⟩;have o:(je (ent ks vs) (Sum.inl j:Key)).isSome=ks.contains j:=by rw[G.has j];congr 1;rw[List.map_fst_zip (by omega)]
     rcases f with⟨rfl,rfl⟩|⟨rfl,rfl⟩;.refine W4 (by omega) I g h λs3 l=>⟨.bl (je (ent ks vs) (Sum.inl j:Key)).isSome,H,l,rfl,?_⟩;rw[o];exact bY.cV sm (jT _) k
     .refine Cp (by omega) I g h λs3 l=>⟨.bl (!(je (ent ks vs) (Sum.inl j:Key)).isSome),H,l,rfl,?_⟩;rw[o];exact bY.cV sm (jT _) k|_=>cases he
 |_=>cases he
end
end HH
end
section
namespace PySem
section
variable{prog:Program}{w:World}{A:Around}{E:Value->Shared->Prop}{s:Shared}
theorem uf{Q:List Value->Shared->Prop}{I l:Addr}{items:Array Value}(t:A.handled=none)(f:s.heap.IsRevIter I l ((items.size:Int)-1))(n:s.heap.IsList l items)(k:l≠I)(g:items.size<=2^24)(u:∀h' tk c,(∀b o,b≠I->s.heap.get? b=some o->h'.get? b=some o)->s.heap.objs.size<h'.objs.size->ItemsOf (λi v=>items[items.size-1-i]?=some v) c items.size->Q c.toList {s with heap:=h',toks:=tk}):
 wpAny (model prog w) A (collect (.ref I)) Q E s:=by have h:I<s.heap.objs.size:=let⟨_,ho,_⟩:=f;lt_size ho;have m:l<s.heap.objs.size:=let⟨_,ho,_⟩:=n;lt_size ho;unfold collect;refine wpAny_bind (wpAny_runValue (codeAny_builtin F.entry_proto_collect ?_));rw[Around.under_plainId F.plain_proto_collect _];show wpAny _ A.in1 (newList []>>=λl=>again (.builtin "list.__iadd__" ⟨[l,.ref I],[]⟩)) _ _ s;refine wpAny_bind (wpAny_newObj_type ?_);refine wpAny_pure ⟨plainId_quiet F.plain_list_iadd _,codeAny_builtin F.entry_list_iadd ?_⟩;rw[Around.under_plainId F.plain_list_iadd _];show wpAny _ A.in1 (listExtendWith (.ref s.heap.objs.size) (.ref I) (.ref s.heap.objs.size)) _ _ _;refine lN (A:=A) (R:=λr p=>match r with
  |.ok (.ret v)=>wpAny (model prog w) A (match v with
   |.ref a=>do let o<-load a match o.data with|.seq xs _=>pure xs.toList|_=>unsupported "internal:collect"
   |_=>unsupported "internal:collect") Q E p|.ok _=>False|.error e=>E e p) (s:={s with heap:=s.heap.push {cls:=.type "list",data:=.seq #[]}}) t (f.at λo e=>fJ e) (n.at λo e=>fJ e) k g s.heap.objs.size (Ne.symm (ne_of_lt h)) (Ne.symm (ne_of_lt m)) _ 0 (get?_push_size _ rfl) λh' tk c z x q j=>?_;refine wpAny_bind (wpAny_load q ?_);exact wpAny_pure (u h' tk c (λb o y e=>x b o (ne_of_lt (lt_size e)) y (fJ e)) (lt_size q) j)
end
theorem jm(I l:Addr)(items:Array Value)(i:l≠I)(hsz:items.size<=2^24):Meets (Builtin.«tuple.__new__» ⟨[.type "tuple",.ref I],[]⟩) (λA R s=>A.handled=none/\s.heap.IsRevIter I l ((items.size:Int)-1)/\s.heap.IsList l items/\∀(h':Heap)(tk:Nat),(∀b o,b≠I->s.heap.get? b=some o->h'.get? b=some o)->s.heap.objs.size<h'.objs.size->∀a:Array Value,a=items.reverse->R (.ok (.ret (.ref h'.objs.size))) {s with heap:=h'.push {cls:=.type "tuple",data:=.seq a},toks:=tk}):=.of_wp λprog w A R s h=>by
  obtain⟨q,f,r,h⟩:=h;have p:=sub_tuple_self;have k:=init_tuple_lookup;have t:=madeHere_tuple;have u:Shared.TypeIs s (.ref I) "list_reverseiterator":=f.typeIs;obtain⟨o,ho,hc,hd⟩:=id f;obtain⟨B,g,d,tk,os⟩:=s;wp_walk using AutoSeq1.wpAny_loadPart' ho,wpAny_typeOf u,uf (A:=A.in1) q f r i hsz;intro h' m a x n c;show wpAny _ _ (tupleExact a.toList.toArray>>=λv=>ret v) _ _ _;have e:a.toList.toArray=a:=by simp
  have y:a=items.reverse:=by refine Array.ext (by rw[c.1,Array.size_reverse]) λj h1 C=>?_;have:=c.2 j _ (Array.getElem?_eq_getElem h1);rw[Array.getElem_reverse];have z:=Array.getElem?_eq_some_iff.mp this;exact z.2.symm
  rw[e];unfold tupleExact;refine wpAny_bind (wpAny_newObj_type ?_ (by show a.size<=sizeLine;rw[c.1,sizeLine_eq];omega));exact wpAny_pure ⟨_,rfl,h h' m x n a y⟩
section
variable{prog:Program}{w:World}{A:Around}{E:Value->Shared->Prop}{s:Shared}
theorem oM{I l:Addr}{items:Array Value}{Q:Value->Shared->Prop}(g:A.handled=none)(a:s.heap.IsRevIter I l ((items.size:Int)-1))(i:s.heap.IsList l items)(c:l≠I)(hsz:items.size<=2^24)(h:∀(h':Heap)(tk:Nat),(∀b o,b≠I->s.heap.get? b=some o->h'.get? b=some o)->s.heap.objs.size<h'.objs.size->Q (.ref h'.objs.size) {s with heap:=h'.push {cls:=.type "tuple",data:=.seq items.reverse},toks:=tk}):wpAny (model prog w) A (call (.type "tuple") [.ref I]) Q E s:=callType_new F.called_tuple (by decide) (F.typeCall_tuple_1 _) (F.newCall_tuple_1 _) (λobj=>F.args_object_init_2 obj _) F.entry_tuple_new (jm I l items c hsz) ⟨g,a,i,λh' tk j f k e=>by subst e;exact⟨⟨_,get?_push_size _ rfl,rfl⟩,h h' tk j f⟩⟩
end
end PySem
namespace L2
open PySem PySem.Spec PyProof.Rows
section
variable{X:Cx}{pins:List (Addr×Obj)}{σ:St}{H:Hp}{s:Shared}{E:Value->Shared->Prop}
theorem zm{a:Expr}{z:TE}{p pos C g:Pos}(hc:X.calm=true)(G:Gl X "tuple")(J:X.mg "tuple"=none)(L:Gl X "reversed")(M:X.mg "reversed"=none)(N:PE X a z)(hs:starEach [a] X.env=[(false,eval a X.env)]:=by rfl)(i:starEach [.Call (.Name "reversed" p) [a] [] pos] X.env=[(false,eval (.Call (.Name "reversed" p) [a] [] pos) X.env)]:=by rfl):PE X (.Call (.Name "tuple" C) [.Call (.Name "reversed" p) [a] [] pos] [] g) (λσ H Q=>z σ H λx f=>∃ad xs,x=.ref ad/\fP X.K f ad xs/\∀l,f l=none->Q (.ref l) (upd f l (.tup xs.reverse))):=by
 intro pins s σ H Q I h;refine Call_ (iy I G J xF (PyProof.Rows.callWith_type1 ?_ i rfl));rw[i];show wpAny _ _ (spliced ((false,eval (.Call (.Name "reversed" p) [a] [] pos) X.env)::[])) _ _ _;refine Calls.spliced_cons (Call_ (iy I L M qD (PyProof.Rows.callWith_type1 (bT ((cu N dY hs) pos pins s σ H (λvs f=>match vs with|[x]=>∃ad xs,x=.ref ad/\fP X.K f ad xs/\∀l,f l=none->Q (.ref l) (upd f l (.tup xs.reverse))|_=>False) I h) ?_) hs rfl)));rintro us s1⟨vs,f,m,r1,n⟩;obtain⟨ad,xs,O,q,t⟩:∃ad xs,fP X.K f ad xs/\(∀l,f l=none->Q (.ref l) (upd f l (.tup xs.reverse)))/\vs=[.ref ad]:=by cases vs with|nil=>cases n|cons x r=>cases r with|nil=>obtain⟨ad,xs,rfl,q,U⟩:=n;exact⟨ad,xs,q,U,rfl⟩|cons _ _=>cases n
 subst t;obtain⟨u,rfl,W⟩:=r1.one;cases W;obtain⟨c,A,v,hz⟩:=m.list O;have hsz:c.toArray.size=xs.length:=by rw[size_toArray,<-A.length]
 refine call_reversed_list v.isList (Calls.spliced_nil ?_);have w:ad≠s1.heap.objs.size:=ne_of_lt (let⟨_,ho,_⟩:=v.isList;lt_size ho);have y:(s1.heap.push (revObj ad ((c.toArray.size:Int)-1))).IsList ad c.toArray:=v.isList.at λo e=>fJ e;refine oM (m.ok.hd hc) (I:=s1.heap.objs.size) (l:=ad) (items:=c.toArray) ⟨_,get?_push_size _ rfl,rfl,rfl⟩ y w (by rw[hsz];exact le_trans hz (by decide)) λh' tk B j=>?_;have k:(s1.heap.push (revObj ad ((c.toArray.size:Int)-1))).objs.size=s1.heap.objs.size+1:=size_push ..;dsimp only at B j ⊢;rw[k]at j;have Y:c.toArray.reverse=c.reverse.toArray:=by simp
 rw[Y];refine⟨.ref h'.objs.size,_,m.laid (t':=tk) (o:=.tup xs.reverse) (h':=h'.push {cls:=.type "tuple",data:=.seq c.reverse.toArray}) (λb o e=>fJ (B b o (ne_of_lt (lt_size e)) (fJ e))) (by omega) ?_,rfl,q _ (m.hok.fresh (by omega))⟩;exact⟨by rw[List.length_reverse];exact hz,_,A.reverse,IsTup.new _ _⟩
end
end L2
namespace HH
open PySem L2 PySem.Spec PyProof.Rows
section
variable{X:Cx}{c:Call}{a:Expr}{pa:P}{pos:Pos}
theorem zK{x y:Str}{j n b:Pos}(o:y="tuple")(p:x="reversed")(hc:X.calm=true)(q:Gl X y)(t:X.mg y=none)(u:Gl X x)(w:X.mg x=none)(z:SX X c a pa)(hs:starEach [a] X.env=[(false,eval a X.env)]:=by rfl)(m:starEach [.Call (.Name x j) [a] [] pos] X.env=[(false,eval (.Call (.Name x j) [a] [] pos) X.env)]:=by rfl):SX X c (.Call (.Name y n) [.Call (.Name x j) [a] [] pos] [] b) (.blt .rvT [pa]):=by subst p o;obtain⟨Y,h1,A⟩:=z.cH;refine⟨fu (zm hc q t u w h1 hs m) ?_,λi h=>by cases h⟩;rintro σ H Q⟨F,ρ,r,B,g,e,k⟩;rw[HH.E16]at e;obtain⟨d,C,E,f⟩:=aj e;have G:=aC f;clear f;obtain⟨f,I⟩:=G;subst I;cases d with|lst Z=>cases f;refine A g E ?_;rintro v F' H' s J;obtain⟨ad,xs,rfl,L,rs⟩:=J.lst s.gs.sub;exact⟨ad,xs,rfl,L,λl M=>zx s.gs.sub (aF.rev rs) M λv N O U W=>k v N O (s.trans (U.stp s.gs)) (.later s (W.mC s.gs))⟩|_=>cases f
end
end HH
end
section
namespace L2
open PySem PySem.Spec PyProof.Rows PySem.Calls
section
variable{X:Cx}
theorem Hw:Xg X (WD X.K):=by
 intro a s σ H x y v u Q I g k h;obtain⟨p,xs,i,z,rfl,rfl,l,he,q⟩:=h;cases g;obtain⟨t,rfl⟩:=k;obtain⟨b,r,e,hz⟩:=I.list l;obtain⟨j,h1,m,C,n,o⟩:=uV he;obtain⟨w,f,A⟩:=r.get m;have B:=r.length;have E:=pD;have fin:EP X a σ Q w s:=⟨z,H,I,A,q⟩;by_cases h0:0<=i
 . have c:i.toNat=j:=by rw[seqIndex_of h0 o]at h1;exact Option.some.inj h1
   exact wpAny_getItem_list e.isList h0 (by omega) (by rw[c];simpa using f) fin
 . have c:(i+(b.toArray.size:Int)).toNat=j:=by rw[seqIndex_neg (by omega) n]at h1;rw[size_toArray,<-B];exact Option.some.inj h1
   exact wpAny_getItem_list_neg e.isList (by omega) (by rw[size_toArray]<;>omega) (by omega) (by rw[c];simpa using f) fin
end
end L2
namespace HH
open PySem L2 PySem.Spec PyProof.Rows PySem.Calls PySem.W
section
variable{X:Cx}{c:Call}{n:Nat}{a b e:Expr}{pa pb p:P}{pos:Pos}
set_option maxHeartbeats 800000 in
theorem BJ{k e:Int}{t1 t2 p1 p2 p3}:SX X c (.Dict [some (.Constant (.int k) t1 p1)] [.Constant (.int e) t2 p2] p3) (.zU k e):=by
 refine⟨?_,λi h=>by cases h⟩;intro f s σ H Q I h;obtain⟨F,ρ,r,x,g,m,y⟩:=h;rw[HH.E25]at m;cases m;have A:nC [] [((Sum.inl k:Key),V.int e)]=ent [k] [.int e]:=rfl;have B:=LR (X:=X) (pos:=p3) (JD (uF (i:=k) (j:=t1) (pos:=p1)) (uF (i:=e) (j:=t2) (pos:=p2)) Lf) rfl rfl (by simp) (by simp);refine bT (B f s σ H (λv C=>∃q,v=.ref q/\H q=none/\C=upd H q (Ar [k] [.int e])) I ?_) λu s1⟨v,H1,I1,r1,q,e1,hn,e2⟩=>?_;.intro q E;refine⟨aJ,[(Sum.inl k,.int e)],rfl,by simp,q,rfl,E,?_⟩;rw[Bl,A];rfl
 subst e1 e2;obtain⟨o,t⟩:=Inv.Ga I1 (a:=q) (kvs:=ent [k] [.int e]) aJ;rw[Bl]at t;have G:F q=none:=by cases z:F q with|none=>rfl|some o=>rw[g.sub q o z]at hn;cases hn
 have sm:aH F (upd F q (.dh o (Ar [k] [.int e]))):=aH.bO G;refine⟨.ref q,_,t,r1,y _ (upd F q (.dh o (Ar [k] [.int e]))) _ (Ext.stp g ⟨aH.bO hn,sm,λb o e=>?_,λb n w=>?_⟩) ?_⟩
 . by_cases l:b=q;.subst l;rw[aJ]at e ⊢;exact e
   .rw[aA l]at e ⊢;exact g.sub b o e
 . by_cases l:b=q;.subst l;exact jN hn
   .rw[aA l]at w;exact absurd n w
 .show Rep X.K _ _ (.dv [k] [.int e]);rw[Rep];exact⟨q,o,[.int e],rfl,aJ,.cons (bN _) .nil,rfl⟩
theorem Lw{x:Str}{k:Nat}{px o:Pos}{op:Operator}{sub:Bool}(ho:Oh X op (Vr λi j=>if sub then i-j else i+j))(hN:X.N[k]?=some x)(hv:vQ X.env.scope x)(hi:SX X c b pb)(he:SX X c e p)(ha:∀A iv f,augStore b A iv f=(do holding [f,A,iv] (setItem A iv f);release [f,A,iv] [];pure .next):=by intros;rfl)(hd:(x==("__debug__":Str))=false:=by decide)(E:(x==("__classdict__":Str))=false:=by decide):SS X c n (.AugAssign (.Subscript (.Name x px) b o) op e pos) (.JM k pb sub p):=by
 obtain⟨ti,G,I⟩:=hi.cH;obtain⟨te,J,L⟩:=he.cH;refine dM (Ko (eX hN hv hd E) G Hw J ho set_list ha) ?_;rintro D σ H⟨F,ρ,fl,ac,g,e,kk⟩;rw[HH.X16]at e;obtain⟨x0,ae,r,Z⟩:=aj e;clear e;obtain⟨e0,zW⟩:=aC r;clear r;subst zW;obtain⟨dk,M,e1,eB⟩:=aj Z;clear Z;obtain⟨l,af,h,eC⟩:=aj eB;clear eB;obtain⟨B,O⟩:=aC h;clear h;subst O;obtain⟨ra,ag,s,eD⟩:=aj eC;clear eC;obtain⟨e3,Q⟩:=aC s;clear s;subst Q;obtain⟨db,ah,e4,t⟩:=aj eD;clear eD;obtain⟨U,R4,m,_⟩:=vh g e0;refine⟨.ref U,m,I g e1 λvi F1 H1 s1 pi=>?_⟩;split at t
 . rename_i u v bb ds kz q;split at t
   . rename_i j hj;cases t;obtain⟨C,f3,f5⟩:=bV e3;have W:C=kz:=by cases f3;rfl
     subst W;have h:pk M k=some (.lst l):=by
      unfold BW at B;split at B;.rename_i z;cases B;exact z
      .cases B
     obtain⟨o',y,po⟩:=s1.gs.pk h;rw[m]at y;cases y;obtain⟨ad,xs,hr,hL,rs⟩:=po.lst s1.gs.sub;cases hr;obtain⟨j0,h1,h2⟩:=HF f5;obtain⟨w,h3,h4⟩:=rs.get h2;have Y:Gx xs C=some w:=by unfold Gx;rw[rs.length,h1];exact h3
     have hw:w=.int u:=by rw[Rep]at h4;exact h4
     subst hw;refine⟨U,xs,C,.int u,rfl,pi.int,hL,Y,L s1.gs e4 λvb F2 H2 s2 pb=>⟨u,v,rfl,pb.int,?_⟩⟩;obtain⟨ai,zs,z1,z2,z3,z4⟩:=s2.gs.qi k _ ds q rfl;rw[m]at z1;cases z1;refine⟨U,zs,C,j,rfl,pi.int,z2,by rw[z4.length];exact hj,?_⟩;exact kk F2 σ _ ((s1.trans s2).trans (s2.gs.mut q m (z4.set (bN _) j)))
   .cases t
 .cases t
end
section
variable{X:Cx}{c:Call}{n:Nat}{a b e:Expr}{pa pb p:P}{pos:Pos}
theorem MP{neg:Bool}{o:Op}{op:CmpOp}(h:(op=.In/\neg=false)\/(op=.NotIn/\neg=true))(j:rM o=wD neg)(l:X.A.units+8<cLine)(m:SX X c a pa)(y:SX X c b pb)(B:behindInMarks op b=false):ST X c (.Compare a [op] [b] pos) (.bin o pa pb):=by obtain⟨C,E,h1,G,I⟩:=m.ie y;refine sY (Bs (M8 h l) h1 G B) λσ H Q q=>qm (t:=Rf (rD X.K (wD neg)) C E) (λQ z=>?_) q;obtain⟨F,ρ,r,J,g,e,k⟩:=z;rw[HH.E3]at e;obtain⟨i,L,M,f⟩:=aj e;have N:=aC f;clear f;obtain⟨f,O⟩:=N;subst O;rw[j]at f;refine I g M λv u U H' s W Y=>⟨U,i.1,i.2,r,s.gs.sub,W,Y,f,λw Z H2 x rn=>?_⟩;exact k w Z H2 (s.trans (x.stp s.gs)) (.later s (rn.mC s.gs))
theorem QW(f:X.A.units+8<cLine)(g:SX X c a pa)(h:SX X c b pb)(i:behindInMarks .In b=false):ST X c (.Compare a [.In] [b] pos) (.bin .din pa pb):=MP (.inl ⟨rfl,rfl⟩) rfl f g h i
theorem Sv{i:Nat}{x:Str}{h:Pos}{pk:P}{neg:Bool}{op:CmpOp}(f:(op=.In/\neg=false)\/(op=.NotIn/\neg=true))(j:X.A.units+8<cLine)(k:X.N[i]?=some x)(l:vQ X.env.scope x)(m:SX X c a pk)(o:behindInMarks op (.Name x h)=false)(hd:(x==("__debug__":Str))=false:=by decide)(g:(x==("__classdict__":Str))=false:=by decide):ST X c (.Compare a [op] [.Name x h] pos) (.P0 i pk neg):=sY (Tj (QV f j k l m hd g) o) λσ H Q q=>qm (λ_ z=>z) q
end
end HH
end
section
namespace L2
open PySem PySem.Spec PyProof.Rows
end L2
namespace HH
open PySem L2 PySem.Spec PyProof.Rows
section
variable{X:Cx}{c:Call}{n:Nat}{e a b:Expr}{p pa pb:P}{pos:Pos}
def NT(X:Cx)(id:String)(r:List V->Hp->VK->Prop):Prop:=∀(f:List (Addr×Obj))(s:Shared)(σ:L2.St)(H:Hp)(xs:List V)(us:List Value)(tk:Nat)(Q:VK),L2.Inv X f σ H s->Vals xs us->r xs H Q->wpAny (model X.prog X.w) X.A (call (.builtin id) us [("default",.int 0 tk)]) (EP X f σ Q) X.xe s
theorem Fp{x:Str}{id:String}{r:List V->Hp->VK->Prop}{t:TA}{j kp g:Pos}{ck}(hc:NT X id r)(k:Gl X x)(l:X.mg x=none)(m:bootBuiltins x=some (.builtin id))(o:PA X [e] t)(q:x≠"__name__":=by decide)(i:(x==("__debug__":Str))=false:=by decide)(he:backTo pos (starEach [e] X.env)=(false,eval e X.env)::backTo pos (starEach [] X.env):=by rfl)(hpl:(backTo pos (starEach [e] X.env)).any (·.1)=false:=by rfl)(hall:(backToKw pos (keywordEach [⟨some "default",.Constant (.int 0) ck g,kp⟩] X.env)).all (·.1.isSome)=true:=by rfl)(hkw:(backToKw pos (keywordEach [⟨some "default",.Constant (.int 0) ck g,kp⟩] X.env)).any (·.1.isNone)=false:=by rfl):PE X (.Call (.Name x j) [e] [⟨some "default",.Constant (.int 0) ck g,kp⟩] pos) (WW r t):=by intro f s σ H Q I h;refine wpAny_Call_Name_kw (iy I k l m (callWith_kw (bT (o pos f s σ H _ I h) ?_) he hpl hall hkw) q i);rintro us s1⟨vs,u,v,r1,w⟩;exact kws_cons (wpAny_Constant_int (kws_nil (hc f _ σ u vs us _ Q (v.tok _) r1 w)))
theorem Rq(hc:X.calm=true):NT X "max" (O3 X.K λx=>blt .Ek [x]):=by
 rintro l s σ H xs us w Q I r⟨x,y,F,d,z,sm,A,he,k⟩;obtain⟨ns,B,he⟩:=map_some (show((items d).bind λm=>m.mapM gF).map _=some z from he);subst he;obtain⟨m,C,E⟩:=bV B;obtain⟨p,ys,rfl,G,rs⟩:=A.items sm C;rw[mF E]at rs;have J:=ik rs;subst y;obtain⟨u,rfl,L⟩:=r.one;cases L;refine Ed (walked I hc G λit us o Sx h W h0 M kp=>?_);subst J;have f:us.toArray.size=ns.length:=by rw[size_toArray,<-h.length,length_map]
 refine⟨it,_,_,_,_,Sx,_,rfl,W,h0,M,CmpOf.ints_gt (λi=>ns.getD i 0) (λi v e=>lV h e),λg v h' tk q j=>?_,λg h' tk j=>?_⟩
 . rw[f]at q g;obtain⟨t,rfl⟩:=lV h q;obtain⟨i,hi⟩:∃i,ns.max?=some i:=by cases e:ns.max? with|none=>rw[List.max?_eq_none_iff]at e;rw[e]at g;cases g|some i=>exact⟨i,rfl⟩
   rw[hi]at k;rw[Ib hi];exact⟨.int _,H,kp h' tk j,⟨t,rfl⟩,bY.cV sm (bN _) k⟩
 .rw[f]at g;have e:ns=[]:=List.eq_nil_of_length_eq_zero g;subst e;exact⟨.int 0,H,kp h' tk j,⟨_,rfl⟩,bY.cV sm (bN _) k⟩
theorem Bd{x:Str}{g kp f:Pos}{ck}(i:x="max")(hc:X.calm=true)(j:Gl X x)(k:X.mg x=none)(l:SX X c a pa)(hs:starEach [a] X.env=(false,eval a X.env)::starEach [] X.env:=by rfl)(he:backTo pos (starEach [a] X.env)=(false,eval a X.env)::backTo pos (starEach [] X.env):=by rfl)(hpl:(backTo pos (starEach [a] X.env)).any (·.1)=false:=by rfl)(hall:(backToKw pos (keywordEach [⟨some "default",.Constant (.int 0) ck f,kp⟩] X.env)).all (·.1.isSome)=true:=by rfl)(hkw:(backToKw pos (keywordEach [⟨some "default",.Constant (.int 0) ck f,kp⟩] X.env)).any (·.1.isNone)=false:=by rfl):SX X c (.Call (.Name x g) [a] [⟨some "default",.Constant (.int 0) ck f,kp⟩] pos) (.blt .Ek [pa]):=by subst i;exact qO (λh=>Fp (Rq hc) j k boot_max h (he:=he) (hpl:=hpl) (hall:=hall) (hkw:=hkw)) l (λρ=>rfl) rfl hs
end
end HH
end
section
namespace HH
open PySem PySem.W PyProof.Rows PySem.Calls L2 PySem.Spec
section
variable{M:Model}{A:Around}{E:Value->Shared->Prop}{s:Shared}{κ:SortKind}{ok:Keyed->Prop}{K:Keyed->Int}
theorem SR.N8{x0 ys b:Array Keyed}{st a:SortSt}(h:SR κ ok K x0 ys [] 0 st)(c:pg ys b 0)(x:Sx κ ok st b a):SR κ ok K x0 b [] 0 a:=⟨x.kind,x.arr,x.fail,by rw[x.pend];exact h.pend,c.perm.trans h.perm,x.ok,rfl,n8⟩
theorem Gq(R:Rk M A E s κ ok K){x0:Array Keyed}{Q:Unit->SortSt->Prop}{st:SortSt}(h:SR κ ok K x0 x0 [] 0 st)(L:x0.size<64)(h1:1<=x0.size)(q:∀ys a,arrOf a=ys->failedOf a=none->ys.toList.Perm x0.toList->Seg K ys 0 ys.size->Q () a):wpS M A E s sortRuns' Q st:=by
 rw[sortRuns'_eq];refine wpS_bind (wpS_get ?_);dsimp only;simp only[h.arr];have v:minRun' x0.size x0.size 0=x0.size:=by obtain⟨f,w⟩:∃f,x0.size=f+1:=⟨x0.size-1,by omega⟩;rw[w,minRun'_succ,if_pos (by omega),Nat.add_zero]
 rw[v];refine wpS_bind (wpS_mono (wpS_forRange (I:=λx c a=>(c=(none,0)/\SR κ ok K x0 x0 [] 0 a/\x=0)\/∃ys,c=(none,x0.size)/\SR κ ok K x0 ys [(0,x0.size,0)] x0.size a) (Q:=λc a=>∃ys,c=(none,x0.size)/\SR κ ok K x0 ys [(0,x0.size,0)] x0.size a) ?_ ?_ (.inl ⟨rfl,h,rfl⟩)) ?_)
 . rintro x c r _ C(⟨rfl,k,rfl⟩|⟨ys,rfl,k⟩)
   . dsimp only;rw[if_neg (by omega)];refine wpS_bind (Hz R k.sx (lo:=0) (n:=x0.size-0) (by omega) (by omega) λl i m ch t m1 N sg=>?_);have u:=k.N8 ch t;have G:l.size=x0.size:=ch.size;dsimp only;have fin:∀(j:Array Keyed)(b:SortSt)(n:Nat),SR κ ok K x0 j [] 0 b->Seg K j 0 (0+n)->n=x0.size->SR κ ok K x0 j [(0,x0.size,0)] x0.size (setPending b ((pendingOf b).push (0,n,0))):=λj b n g p e=>by
      have H:j.size=x0.size:=by have:=g.perm.length_eq;simpa using this
      have:=g.Ob (n:=n) (by omega) (by omega) p;subst e;simpa using this
     have B:∀(j:Array Keyed)(b:SortSt),SR κ ok K x0 j [] 0 b->(pendingOf b).back?=none:=λj b g=>by have:pendingOf b=#[]:=Array.toList_inj.mp g.pend;rw[this];rfl
     by_cases c2:m<x0.size;.rw[if_pos c2];refine wpS_bind (wpS_lift (wpAny_rule ⟨rfl,?_⟩));refine wpS_bind (Te R t (lo:=0) (n:=min (x0.size-0) x0.size) (by omega) (by omega) sg λj b y z p=>?_);simp only[Bool.not_true,false_eq_true,if_false];have g:=k.N8 (ch.trans y) z;refine wpS_bind (wpS_get ?_);rw[B j b g];dsimp only;refine wpS_bind (wpS_modify (wpS_pure (.inr ⟨j,by simp,fin j b _ g p (by omega)⟩)))
     .rw[if_neg c2];refine wpS_bind (wpS_get ?_);rw[B l i u];dsimp only;refine wpS_bind (wpS_modify (wpS_pure (.inr ⟨l,by simp;omega,fin l i m u sg (by omega)⟩)))
   .dsimp only;rw[if_pos (cO)];exact wpS_pure ⟨ys,rfl,k⟩
 . rintro c r(⟨rfl,k,e⟩|⟨ys,rfl,k⟩);.omega
   .exact⟨ys,rfl,k⟩
 . rintro c r⟨ys,rfl,k⟩;dsimp only;refine wpS_bind (wpS_mono (wpS_forRange (I:=λx c a=>c=(none,())/\SR κ ok K x0 ys [(0,x0.size,0)] x0.size a) (Q:=λc a=>c=(none,())/\SR κ ok K x0 ys [(0,x0.size,0)] x0.size a) ?_ (λ_ _ h=>h) ⟨rfl,k⟩) ?_)
   . rintro x c i _ C⟨rfl,o⟩;refine wpS_bind (wpS_get ?_);try dsimp only
     have J:(pendingOf i).size<=1:=by rw[<-length_toList,o.pend];simp
     rw[if_pos J];exact wpS_pure ⟨rfl,o⟩
   . rintro c i⟨rfl,o⟩;dsimp only;have hz:ys.size=x0.size:=by have:=o.perm.length_eq;simpa using this
     refine wpS_pure (q ys i o.arr o.fail o.perm ?_);rw[hz];have:=o.rns;obtain⟨_,_,sg,_⟩:=this;simpa using sg
end
section
variable{prog:Program}{w:World}{A:Around}{E:Value->Shared->Prop}{s:Shared}{vs:List Value}{κ:SortKind}{P:Value->D->Prop}{ds:List D}
theorem Gs{a:Addr}{n:Nat}{O:PySem.Fin->Shared->Prop}(ho:s.heap.get? a=some (seqObj "list" vs.toArray n))(so:sortable ds=true)(hz:vs.length<64)(I:Paired P vs ds)(fn:∀u d e,P u d->P u e->cC d=cC e)(m:∀h',(∀b o,b≠a->s.heap.get? b=some o->h'.get? b=some o)->∀C:SortKind->Shared->Prop,C κ {s with heap:=h'}->2<=vs.length->wpAny (model prog w) A (keyKind' vs.toArray) C (λ_ _=>False) {s with heap:=h'})(hl:∀h',(∀b o,b≠a->s.heap.get? b=some o->h'.get? b=some o)->∀u v d e,P u d->P v e->∀C:Bool->Shared->Prop,C (aZ (cC d) (cC e)) {s with heap:=h'}->wpAny (model prog w) A (keyLt' κ u v) C (λ_ _=>False) {s with heap:=h'})(h:∀h' c p,(∀b o,b≠a->s.heap.get? b=some o->h'.get? b=some o)->p.Perm (List.range vs.length)->pick .non p ds=nQ ds->h'.get? a=some (seqObj "list" (pick .none p vs).toArray c)->O (.done (.ret .none)) {s with heap:=h'}):wpAny (model prog w) A (Builtin.«list.sort» ⟨[.ref a],[]⟩) O E s:=by
 have ha:a<s.heap.objs.size:=lt_size ho;have Zg:vs.length=ds.length:=Paired.length I;obtain⟨r,z⟩:∃r,(s.heap.update a (Obj.mapSeq λ_=>(#[]:Array Value))).get? a=some (seqObj "list" #[] r):=⟨_,get?_update_seq ho λ_=>#[]⟩;rw[list_sort_plain];refine wpAny_bind (listItems_at ho rfl ?_);refine wpAny_bind (listUpdate_at ho rfl ?_ (by rw[size_toArray,sizeLine_eq];omega) (n8));refine wpAny_bind (seqEpoch_at z rfl ?_);refine wpAny_bind (wpAny_newTuple ?_ (by show vs.length<=_;rw[sizeLine_eq];omega));refine wpAny_bind (wpAny_newList ?_ (n8));refine wpAny_holding ?_;generalize hH:(((s.heap.update a (Obj.mapSeq λ_=>(#[]:Array Value))).push {cls:=.type "tuple",data:=.seq vs.toArray}).push {cls:=.type "list",data:=.seq #[]}:Heap)=g;have B:g.get? a=some (seqObj "list" #[] r):=by rw[<-hH];exact fJ (fJ z)
 have keep:∀b o,b≠a->s.heap.get? b=some o->g.get? b=some o:=λb o J e=>by rw[<-hH];exact fJ (fJ ((get?_update_other _ _ (Ne.symm J)).trans e))
 have fin:∀p:List Nat,p.Perm (List.range vs.length)->pick .non p ds=nQ ds->O (.done (.ret .none)) {s with heap:=g.update a (Obj.mapSeq λ_=>toArray (pick .none p vs))}:=by intro p h1 f;obtain⟨c2,M⟩:∃c2,(g.update a (Obj.mapSeq λ_=>toArray (pick Value.none p vs))).get? a=some (seqObj "list" (pick Value.none p vs).toArray c2):=⟨_,get?_update_seq B λ_=>toArray (pick Value.none p vs)⟩;exact h _ c2 p (λb o J e=>(get?_update_other _ _ (Ne.symm J)).trans (keep b o J e)) h1 f M
 show wpAny (model prog w) A _ O E {s with heap:=g};dsimp only;by_cases f:vs.toArray.size<2
 . rw[if_pos f,if_pos f];refine wpAny_bind (wpAny_pure ?_);rw[StateT.run_pure];refine wpAny_bind (wpAny_pure ?_);dsimp only;have eo:(arrOf (SortSt.mk' general' (vs.toArray.zip vs.toArray) #[] 7 none)).map (·.2)=toArray (pick Value.none (List.range vs.length) vs):=by rw[fZ];apply Array.toList_inj.mp;show((vs.toArray.zip vs.toArray).map (·.2)).toList=vs;simp[List.map_snd_zip]
   rw[eo];refine wpAny_bind (seqEpoch_at B rfl ?_);refine wpAny_bind (listUpdate_at B rfl ?_ (n8) (by rw[size_toArray,gU (.refl _),sizeLine_eq];omega));simp only[bne_self_eq_false,false_eq_true,if_false];refine wpAny_pure (fin _ (.refl _) ?_);rw[Zg,fZ];refine jD so (.refl _) ?_;match ds,(show ds.length<2 by simp at f;omega)with|[],_=>exact .nil|[_],_=>exact List.pairwise_singleton ..|_::_::_,f=>simp at f;omega
 . rw[if_neg f,if_neg f];have N:2<=vs.length:=by simpa using f
   refine wpAny_bind (m g keep _ ?_ N|>λq=>wpAny_mono q (λ_ _ x=>x) λ_ _ x=>x.elim);have Zh:(vs.toArray.zip vs.toArray).toList=(List.range vs.length).map λi=>(vs.getD i Value.none,vs.getD i Value.none):=by
    refine ext_getElem (by simp) λi h1 f=>?_;have:i<vs.length:=by simpa using f
    simp[this]
   have U:∀x∈(vs.toArray.zip vs.toArray).toList,∃d,d∈ds/\P x.1 d:=λx hx=>by rw[Zh]at hx;obtain⟨i,hi,rfl⟩:=mem_map.mp hx;have:=eO I i (List.mem_range.mp hi);exact⟨_,this.2,this.1⟩
   have R:Rk (model prog w) A E {s with heap:=g} κ (λx=>∃d,d∈ds/\P x.1 d) (Ws P ds):=⟨by rintro x y Q st⟨d,d1,d2⟩⟨e,r,L⟩W hq;rw[nJ fn d1 d2,nJ fn r L,uA d1]at hq;rw[lt'_eq];refine wpS_bind (wpS_get ?_);rw[W];refine wpS_bind (wpS_lift (wpAny_attempt (wpAny_mono (hl g keep x.1 y.1 d e d2 L (λb X=>X={s with heap:=g}/\b=aZ (cC d) (cC e)) ⟨rfl,rfl⟩) ?_ λ_ _ h=>h.elim)));rintro b X⟨rfl,rfl⟩;exact⟨rfl,wpS_pure hq⟩⟩;have run:=Gq R (x0:=vs.toArray.zip vs.toArray) (st:=SortSt.mk' κ (vs.toArray.zip vs.toArray) #[] 7 none) (Q:=λ_ l=>∃p:List Nat,p.Perm (List.range vs.length)/\pick .non p ds=nQ ds/\(arrOf l).map (·.2)=(pick Value.none p vs).toArray/\failedOf l=none) ⟨rfl,rfl,rfl,rfl,.refl _,U,rfl,n8⟩ (by simp;omega) (by simp;omega) λys l r L e3 e4=>by
     rw[Zh]at e3;obtain⟨p,t,G⟩:=DP e3 rfl;have hpl:p.length=vs.length:=by rw[t.length_eq,length_range]
     have ac:ys.size=vs.length:=by rw[<-length_toList,<-G,length_map,hpl]
     refine⟨p,t,jD so ?_ ?_,?_,L⟩;.have:=t.map λi=>ds.getD i .non;rw[Zg]at this;exact this.trans (.of_eq (fZ D.non ds))
     . rw[List.pairwise_iff_getElem];intro i j hi Y ae;simp only[pick,length_map]at hi Y;have sg:=e4 i j (n8) (by omega) (by omega);have at':∀k(m:k<p.length),it ys k=(vs.getD p[k] .none,vs.getD p[k] .none):=λk m=>by rw[Bb,<-G];simp[m]
       have inn:∀k(m:k<p.length),p[k]<vs.length:=λk m=>List.mem_range.mp (t.mem_iff.mp (getElem_mem m));rw[at' i hi,at' j Y]at sg;have a1:=eO I p[i] (inn i hi);have Z:=eO I p[j] (inn j Y);rw[nJ fn a1.2 a1.1,nJ fn Z.2 Z.1]at sg;simp only[pick,List.getElem_map,kO,not_eq_true'];rw[<-uA Z.2,decide_eq_false_iff_not];omega
     .apply Array.toList_inj.mp;rw[r,Array.toList_map,<-G,map_map];rfl
   refine wpAny_bind (wpAny_mono run ?_ λ_ _ e=>e);rintro⟨⟨⟩,l⟩X⟨rfl,p,t,G,H,hf⟩;dsimp only;rw[H];refine wpAny_bind (seqEpoch_at B rfl ?_);refine wpAny_bind (listUpdate_at B rfl ?_ (n8) (by rw[size_toArray,gU t,sizeLine_eq];omega));rw[hf];simp only[bne_self_eq_false,false_eq_true,if_false];exact wpAny_pure (fin _ t G)
end
end HH
end
section
namespace HH
open PySem L2 PySem.Spec PyProof.Rows PySem.Calls PySem.W
def abN(X:Cx):List V->Hp->VK->Prop:=λxs H Q=>∃l q c kvs,xs=[.ref l]/\H l=some (.ext (iv l q))/\H q=some (.dh c (.dK (map qG kvs)))/\kvs.length<64/\∃F,aH F H/\∀v b a,Ext F H b a->bY X.K b a H v (.own (nQ (kvs.map cF)))->Q v a
section
variable{X:Cx}{c:Call}{a:Expr}{pa:P}{pos:Pos}
theorem Tq(hc:X.calm=true):fG X (.builtin "sorted") (abN X):=by
 rintro ag s σ H xs us Q I r⟨l,q,ob,kvs,hx,hl,hq,ah,F,sm,k⟩;subst hx;have so:sortable (kvs.map cF)=true:=by
  have:(kvs.map cF).all uz=true:=by rw[all_eq_true];intro x hx;obtain⟨p,_,rfl⟩:=mem_map.mp hx;rfl
  simp only[sortable,length_map,this,Bool.or_true,Bool.and_true,decide_eq_true_eq];omega
 obtain⟨u,rfl,rx⟩:=r.one;cases rx;obtain⟨JR,_,_⟩:=(show bz X.prog X.w H s.heap l (.ext (iv l q))from I.hok l _ hl);obtain⟨ho,hz,hS,vs,rv,dd⟩:=(show bz X.prog X.w H s.heap q (.dh ob (.dK (kvs.map qG)))from I.hok q _ hq);have G:vs.length=kvs.length:=by rw[<-Paired.length rv,length_map]
 obtain⟨f,es,ep,d1,d2,d3,d4⟩:=dd;have dat:s.heap.DictAt (aV X.prog X.w) q vs ep:=⟨f,es,d1,d2,d3,d4⟩;refine Calls.call_function_entry kind_sorted plain_sorted entry_sorted (args_sorted1 _) ?_;unfold Builtin.«sorted»;refine wpAny_bind (m:=checkCount "sorted" 1 1 _) (wpAny_pure ?_);refine wpAny_bind (nT (A:=X.A.in1) (I.ok.hd hc) JR dat (by rw[G,sizeLine_eq];omega) λh1 tk as kp hsz J W=>?_);have hsz:=le_of_lt hsz;have g:as.length=kvs.length:=J.trans G;have pr:=pQ rv J W.pairs;have tt:Paired (m5 h1) (as.map Value.ref) (kvs.map cF):=uq g pr;have L:∀a o,gQ as kvs a=some o->s.heap.objs.size<=a:=λa o e=>by obtain⟨j,p,M,_,_⟩:=iG e;exact le_of_lt (W.above a (mem_of_getElem? M))
 have h:∀a o,gQ as kvs a=some o->H a=none:=λa o e=>I.hok.fresh (L a o e);have i:aH H (oG (gQ as kvs) H):=λb o e=>by cases z:gQ as kvs b with|none=>rw[dw z];exact e|some f=>rw[h b f z]at e;cases e
 have Y:Ext F H (oG (gQ as kvs) F) (oG (gQ as kvs) H):=by
  refine⟨i,λb o e=>?_,λb o e=>?_,λb n Z=>?_⟩;.cases z:gQ as kvs b with|none=>rw[dw z];exact e|some f=>have n0:=h b f z;rw[sm b o e]at n0;cases n0
  .cases z:gQ as kvs b with|none=>rw[dw z]at e ⊢;exact sm b o e|some f=>rw[my z]at e ⊢;exact e
  .cases z:gQ as kvs b with|none=>rw[dw z]at Z;exact absurd n Z|some f=>rw[h b f z];rfl
 have rs:aF X.K (oG (gQ as kvs) F) (as.map V.ref) (kvs.map cF):=uO g λj b p h1 h2=>my (uY W.rise h1 h2);have vv:=j9 as;have ac:∀b∈as,b<h1.objs.size:=λb hb=>W.there hb;have JS:(as.map Value.ref).length=kvs.length:=by rw[length_map];exact g
 refine wpAny_bind (wpAny_newList ?_ (by rw[JS,sizeLine_eq];omega));generalize Zi:(h1.push {cls:=.type "list",data:=.seq (as.map Value.ref).toArray}:Heap)=E;have N:E.get? h1.objs.size=some (seqObj "list" (as.map Value.ref).toArray 0):=by rw[<-Zi];exact get?_push_size _ rfl
 have rC:∀b o,h1.get? b=some o->E.get? b=some o:=λb o e=>by rw[<-Zi];exact fJ e
 have B:∀b o,h1.get? b=some o->b≠h1.objs.size:=λb o e=>ne_of_lt (lt_size e);show wpAny _ _ _ _ _ {s with heap:=E,toks:=tk};refine wpAny_bind (wpAny_holding (wpAny_call_entry slot_list_sort ⟨_,N,rfl⟩ entry_list_sort ?body (args_list_sort _)));case body=>
  refine Gs (s:={s with heap:=E,toks:=tk}) (κ:=tuples' (Value.type "int"!=Value.type "tuple")) N so (by omega) tt Bj (λh' O C hC h2=>?_) (λh' O u v d e hd he C hC=>?_) λh' cc p O p1 p2 e=>?_;.exact tR (s:={s with heap:=h',toks:=tk}) (m6 (λb o z=>O b o (B b o z) (rC b o z)) tt) h2 hC
  .have U:∀b o,h1.get? b=some o->h'.get? b=some o:=λb o z=>O b o (B b o z) (rC b o z);exact Ac (s:={s with heap:=h',toks:=tk}) (gZ U hd) (gZ U he) hC
  . refine⟨_,rfl,wpAny_pure ⟨_,rfl,?_⟩⟩;have U:∀b o,h1.get? b=some o->h'.get? b=some o:=λb o z=>O b o (B b o z) (rC b o z);have hL:gQ as kvs h1.objs.size=none:=by cases z:gQ as kvs h1.objs.size with|none=>rfl|some o=>obtain⟨j,p,M,_,_⟩:=iG z;exact absurd (ac _ (mem_of_getElem? M)) (lt_irrefl _)
    have ae:upd (oG (gQ as kvs) H) h1.objs.size (.lst (pick .non p (as.map V.ref)))=oG (λb=>if b=h1.objs.size then some (.lst (pick .non p (as.map V.ref)))else gQ as kvs b) H:=by
     funext b;unfold upd oG;by_cases z:b=h1.objs.size;.rw[if_pos z];simp only[if_pos z]
     .rw[if_neg z];simp only[if_neg z]
    have I':=NP (t':=tk) (h':=h') (nw:=λb=>if b=h1.objs.size then some (.lst (pick .non p (as.map V.ref)))else gQ as kvs b) I (λb o z=>U b o (kp b o z)) (λa o z=>by
     by_cases y:a=h1.objs.size;.rw[y];exact hsz
     .simp only[if_neg y]at z;exact L a o z) (λa o z=>by
     by_cases y:a=h1.objs.size;.simp only[if_pos y]at z;cases z;subst y;exact⟨by rw[gU p1,JS,sizeLine_eq];omega,pick .none p (as.map Value.ref),cc,wJ vv,e⟩
     .simp only[if_neg y]at z;obtain⟨j,p',M,e2,rfl⟩:=iG z;obtain⟨ai,e3,t,u,e4⟩:=pr j a M;rw[e2]at e3;cases e3;exact⟨by rw[sizeLine_eq];simp,[Value.int p'.1 t,Value.int p'.2 u],.cons ⟨t,rfl⟩ (.cons ⟨u,rfl⟩ .nil),⟨_,U _ _ e4,rfl,0,rfl⟩⟩);rw[<-ae]at I';refine⟨.ref h1.objs.size,_,I',rfl,?_⟩;have af:aF X.K (oG (gQ as kvs) F) (pick .non p (as.map V.ref)) (nQ (kvs.map cF)):=by rw[<-p2];exact wB rs
    refine uL Y.sub af (by rw[dw hL];exact I.hok.fresh hsz) λv F2 E x rn=>k v F2 E ⟨Y.hs.trans x.hs,Y.fs.trans x.fs,x.sub,λc n Z=>?_⟩ ?_
    . by_cases e:oG (gQ as kvs) F c=none;.have:=x.gr c e Z;cases z:H c with|none=>rfl|some o=>rw[i c o z]at this;exact this
      .exact Y.gr c n e
    obtain⟨b,xs,q1,q2,q3,q4,q5⟩:=rn;refine⟨b,xs,q1,q2,q3,q4,?_⟩;cases z:H b with|none=>rfl|some o=>rw[i b o z]at q5;cases q5
theorem Kv{x:Str}{U f j:Pos}{o:Expr}(W:x="sorted")(hc:X.calm=true)(Y:Gl X x)(Z:X.mg x=none)(p:(f.endLine==j.line)=true)(ha:SX X c o pa)(s:attributeBase o "items" X.env (eval o X.env)=eval o X.env:=by rfl):SX X c (.Call (.Name x U) [.Call (.Attribute o "items" f) [] [] j] [] pos) (.blt .JL [pa]):=by
 subst W;obtain⟨ta,h1,h3⟩:=ha.cH;refine⟨fu (gb (Tq hc) Y Z boot_sorted (cu (xJ h1 s p) dY)) ?_,λi h=>by cases h⟩;rintro σ H Q⟨F,ρ,r,C,g,e,k⟩;have e:((cH (isVar pa) (HH.ev c pa) ρ).bind λx ρ=>lift (blt .JL [x]) ρ)=.ok r C:=e;obtain⟨d,ac,e1,u⟩:=aj e;have zz:=aC u;clear u;obtain⟨u,e3⟩:=zz;subst e3;refine h3 g e1 λv J y st pv=>?_;obtain⟨kvs,rfl⟩:∃kvs,d=.dq (.k kvs):=by cases d with
  |dq m=>cases m with|k kvs=>exact⟨kvs,rfl⟩|t kvs=>cases u
  |_=>cases u
 obtain⟨so,he⟩:=aU (show(if kvs.length<64 then some (R.own (nQ (kvs.map cF)))else none)=some r from u);subst he;obtain⟨q,L,rfl,M⟩:=pv.dq st.gs.sub;refine⟨q,L,kvs,rfl,rfl,M,λl A=>⟨l,q,L,kvs,rfl,aJ,aH.bO A q _ M,so,J,λb o e=>aH.bO A b o (st.gs.sub b o e),λw E G B rn=>?_⟩⟩;have sm:aH y (upd y l (.ext (iv l q))):=aH.bO A;have x3:Ext J y E G:=⟨sm.trans B.hs,B.fs,B.sub,λb n n'=>by
  have:=B.gr b n n';by_cases N:b=l;.subst N;rw[A];rfl
  .rw[aA N]at this;exact this⟩;have I:bY X.K E G y w (.own (nQ (kvs.map cF))):=by obtain⟨b,xs,q1,q2,q3,q4,O⟩:=rn;refine⟨b,xs,q1,q2,q3,q4,?_⟩;cases z:y b with|none=>rfl|some o=>rw[sm b o z]at O;cases O
 exact k w E G (st.trans (x3.stp st.gs)) (.later st (I.mC st.gs))
end
end HH
end
noncomputable section
set_option maxHeartbeats 4000000
namespace T
open PySem L2 PySem.Spec PyProof.Rows HH
local macro_rules|`(term|⇑$n)=>`(P.con (.int $n))
local macro_rules|`(term|↑$n)=>`(P.var $n)
local macro_rules|`(tactic|ac_rfl)=>`(tactic|first|exact Or.inl rfl|exact Or.inr (Or.inl rfl))
set_option hygiene false
local macro_rules|`(term|↥($a,$b,$d))=>`(mY Pg w K mg base Fy (k+1) f fd $a (Mm K $b (λargs=>enter c n $d args)))
local macro_rules|`(term|↥($a,$b,$d,0))=>`(aX Pg w K mg base k c $a $b $d)
set_option hygiene true
local macro_rules|`(term|⇑($x))=>`(λ_ _ _ _ _=>$x)
local macro_rules|`(term|nofun)=>`(⟨rfl,rfl,rfl,by decide+kernel,rfl,by decide+kernel,by decide+kernel⟩)
local macro_rules|`(tactic|exists$e)=>`(tactic|with_reducible refine$e)
local macro_rules|`(tactic|lia)=>`(tactic|with_reducible refine aP ?_ ?_)
set_option hygiene false
local macro_rules|`(tactic|exists$i,$e)=>`(tactic|((with_reducible refine j5 (i:=$i) ?_ ?_ ?_ ?_ ?_ ?_);exact nd;exact rfl;exact oi;rotate_left;rfl;exact oi;exact$e))
local macro_rules|`(tactic|exists$i,$e,0)=>`(tactic|((with_reducible refine Lj (i:=$i) ?_ ?_ ?_ ?_ ?_ ?_ ?_ ?_ ?_);exact PassesOwn.never;exact hc;exact nd;exact rfl;exact oi;exact$e;rotate_left;(· intro _;rfl);exact oi))
local macro_rules|`(tactic|exists$a,$b,0,0)=>`(tactic|(refine W8 $a $b rfl rfl λcdv A outer s H E hr=>?_;have nd:=($b).nd))
local macro_rules|`(tactic|exists(),$e)=>`(tactic|((with_reducible refine Ub ?_);exact$e))
set_option hygiene true
local macro_rules|`(term|‹$l›)=>`((show(($l):List Str).Nodup by decide+kernel))
theorem hc:true=true:=rfl
theorem oi{b:Type}{a:b}{p:Prop}:a=a\/p:=.inl rfl
theorem bu{X:Cx}{c:Call}{a:Expr}{es:List Expr}{b:P}{ps:List P}(e:SX X c a b)(hr:SG X c es ps)(h:nst a=true):SG X c (a::es) (b::ps):=M4 e hr (iQ h)
theorem bM{X:Cx}{c:Call}{a:Expr}{es:List Expr}{b:P}{ps:List P}(e:SX X c a b)(hr:SA X c es ps)(h:nst a=true):SA X c (a::es) (b::ps):=An e hr (iQ h)
variable{Pg:Program}{w:World}{K:PySem.W.Frag}{mg:Str->Option Value}{base:Heap}{f:Addr}{fd:FuncData}{k n:Nat}{c:Call}{cl:Nat->Addr}
noncomputable def top(i:Nat):Stmt:=PySem.Challenge.pw_hourhaul_k34_whole_bends_of_changed_nets.main.body.getD i (.Pass ⟨0,0,0,0⟩)
abbrev s0:Stmt:=top 6
noncomputable def b0:List S:=[.asg 2 (.idx (.idx ↑0 ⇑1) (.idx ↑1 ⇑0)),.ret (.Nm (.idx ↑1 ⇑1) (.tup [.idx ↑2 ⇑0,.idx ↑2 ⇑1]) (.tup [.idx ↑2 ⇑1,.idx ↑2 ⇑0]))]
def f0:Fd:=⟨2,3,b0⟩
theorem sc0:aL ["net","step","way"] ["net","step"] (aB s0):=nofun
include cl in
theorem d0(a:jc K "step_places" "step_places" s0 f fd):↥(["net","step"],2,f0):=by
 exists a,sc0,0,0;refine aP ?_ ?_;.exists 2,ao (ao (sv 0) aa) (ao (sv 1) aa)
 lia;.exists(),pU (nj (ao (sv 1) aa)) (bf (bM (ao (sv 2) aa) (bM (ao (sv 2) aa) aG rfl) rfl)) (bf (bM (ao (sv 2) aa) (bM (ao (sv 2) aa) aG rfl) rfl))
 exact au
abbrev s1:Stmt:=top 7
noncomputable def b1:List S:=[.asg 2 (.idx (.idx (.idx ↑0 ⇑1) (.idx ↑1 ⇑0)) ⇑3),.ret (.Nm (.idx ↑1 ⇑1) ↑2 (.neg ↑2))]
def f1:Fd:=⟨2,3,b1⟩
theorem sc1:aL ["net","step","hours"] ["net","step"] (aB s1):=nofun
include cl in
theorem d1(a:jc K "step_hours" "step_hours" s1 f fd):↥(["net","step"],2,f1):=by
 exists a,sc1,0,0;refine aP ?_ ?_;.exists 2,ao (ao (ao (sv 0) aa) (ao (sv 1) aa)) aa
 lia;.exists(),pU (nj (ao (sv 1) aa)) (sv 2) (Je (sv 2))
 exact au
abbrev s2:Stmt:=top 8
noncomputable def b2:List S:=[.asg 3 (.idx ↑1 (.idx ↑2 ⇑0)),.ret (.Nm (.idx ↑2 ⇑1) (.bin .sub (.idx (.idx (.idx ↑0 ⇑1) (.idx ↑2 ⇑0)) ⇑2) ↑3) ↑3)]
def f2:Fd:=⟨3,4,b2⟩
theorem sc2:aL ["net","stream","step","loads"] ["net","stream","step"] (aB s2):=nofun
include cl in
theorem d2(a:jc K "step_room" "step_room" s2 f fd):↥(["net","stream","step"],3,f2):=by
 exists a,sc2,0,0;refine aP ?_ ?_;.exists 3,ao (sv 1) (ao (sv 2) aa)
 lia;.exists(),pU (nj (ao (sv 2) aa)) (aq cX (ao (ao (ao (sv 0) aa) (ao (sv 2) aa)) aa) (sv 3)) (sv 3)
 exact au
abbrev s3:Stmt:=top 9
noncomputable def b3:List S:=[.ret (.blt .sum [.comp ↑1 1 [2] true none (.call 1 [↑0,↑2])])]
def f3:Fd:=⟨2,2,b3⟩
theorem sc3:aL ["net","steps"] ["net","steps"] (aB s3):=nofun
include cl in
theorem d3(a:jc K "steps_hours" "steps_hours" s3 f fd)(jZ:mg "sum"=none)(b:↥(1,"step_hours",2,0)):↥(["net","steps"],2,f3):=by
 exists a,sc3,0,0;refine aP ?_ ?_;.exists(),uC rfl hc (by rfl) jZ (dI (N':=["net","steps","step"]) hc (yj rfl (by rfl)) (cg (sv 1)) ⇑(aM (i:=2) ‹["net","steps","step"]› rfl (Or.inl rfl) (Or.inr rfl)) (dj (cO)) ⇑(cI) ⇑((dN b hr (bu (sv 0) (bu (sv 2) aD rfl) rfl))))
 exact au
abbrev s4:Stmt:=top 10
noncomputable def b4:List S:=[.JN 2 (.yc ⇑0 (.idx ↑0 ⇑0)) 1 [5] true (.lst []),.Em (.yc ⇑0 (.blt .len [.idx ↑0 ⇑1])) [3] true [.Em (.tup [.tup [↑3,.con (.bl true)],.tup [↑3,.con (.bl false)]]) [4] true [.ifs (.cmp .gt (.call 2 [↑0,↑1,↑4]) ⇑0) [.JP 2 (.idx (.call 0 [↑0,↑4]) ⇑0) ↑4] []]],.dh 2,.ret ↑2]
def f4:Fd:=⟨2,5,b4⟩
theorem sc4:aL ["net","stream","steps","number","step"] ["net","stream"] (aB s4):=nofun
include cl in
theorem d4(a:jc K "open_steps" "open_steps" s4 f fd)(dZ:mg "len"=none)(cZ:mg "range"=none)(b:↥(0,"step_places",2,0))(e:↥(2,"step_room",3,0)):↥(["net","stream"],2,f4):=by exists a,sc4,0,0;exact(by(refine K9 (i:=2) (N':=["net","stream","steps","number","step","place"]) (g:=jy 5) ?_ ?_ ?_ ?_ ?_ ?_ ?_ ?_ ?_ ?_ ?_ ?_ ?_ ?_);exact hc;exact nd;exact rfl;exact oi;exact yj rfl (by rfl);exact vq rfl (by rfl) cZ (ao (sv 0) aa);exact ⇑(aM (i:=5) ‹["net","stream","steps","number","step","place"]› rfl (Or.inl rfl) (Or.inr rfl));exact dj (cO);exact ⇑(cI);exact ⇑((dB aG));(· exists Ip ?_ ?_;(· exists Am (g:=jy 3) ?_ ?_ ?_ ?_ ?_ ?_ ?_;exact PassesOwn.never;exact hc;(· exists Il ?_ ?_ ?_ ?_ ?_;exact rfl;rfl;exact cZ;exact j6 rfl (by rfl) dZ (ao (sv 0) aa);rfl);exact aM (i:=3) nd rfl oi oi;(· rw[mW];exact uB 3);(· exists qj ?_ ?_;(· exists Am (g:=jy 4) ?_ ?_ ?_ ?_ ?_ ?_ ?_;exact PassesOwn.never;exact hc;exact KN (bf (bM (bf (bM (sv 3) (bM gq aG rfl) rfl)) (bM (bf (bM (sv 3) (bM gq aG rfl) rfl)) aG rfl) rfl));exact aM (i:=4) nd rfl oi oi;(· rw[mW];exact uB 4);(· exists qj ?_ ?_;(· exists Ul ?_ ?_ ?_;exact cN j8 (dN e hr (bu (sv 0) (bu (sv 1) (bu (sv 4) aD rfl) rfl) rfl)) aa (cG _);(· exists qj ?_ ?_;(· exists FT (k:=2) ?_ ?_ ?_ ?_ ?_ ?_ ?_ ?_ ?_ ?_ ?_ ?_;exact rfl;(· first|exact Or.inl rfl|exact Or.inr (Or.inl rfl));exact ao (dN b hr (bu (sv 0) (bu (sv 4) aD rfl) rfl)) aa;exact sv 4;(· intro _ _;rfl);rfl;rfl;rfl;rfl;rfl;rfl;rfl);exact o9);exact o9);exact o9);(· intro _;rfl));exact o9);(· intro _;rfl));(· exists Ng ?_;(· lia;(· exists(),sv 2);exact au)));rfl;(· intro _;rfl);exact oi)
abbrev s5:Stmt:=top 11
noncomputable def b5:List S:=[.asg 3 (.call 4 [↑0,↑1]),.Eo 4,.jQ (.blt .keys [↑2]) [5] true [.gD 4 ↑5 (.tup [.bin .Ej ↑2 ↑5,⇑0,.con .non])],.asg 6 (.blt .Wn [↑2]),.whl (.cmp .gt (.blt .len [↑6]) ⇑0) [.Eo 7,.jQ ↑6 [5] true [.jQ (.idx ↑3 ↑5) [8] true [.asg 9 (.idx (.call 0 [↑0,↑8]) ⇑1),.asg 10 (.tup [.bin .add (.idx (.PX 4 ↑5) ⇑0) (.call 1 [↑0,↑8]),.bin .add (.idx (.PX 4 ↑5) ⇑1) ⇑1]),.ifs (.or (.P0 4 ↑9 true) (.cmp .lt ↑10 (.slice (.PX 4 ↑9) (.con .non) ⇑2))) [.gD 4 ↑9 (.bin .add ↑10 (.tup [↑8])),.gD 7 ↑9 (.con (.bl true))] []]],.asg 6 (.blt .Wn [.vw 7])],.ret ↑4]
def f5:Fd:=⟨3,11,b5⟩
theorem sc5:aL ["net","stream","begun","steps","come","place","row","changed","step","to","found"] ["net","stream","begun"] (aB s5):=nofun
include cl in
theorem d5(a:jc K "shortest_come" "shortest_come" s5 f fd)(dZ:mg "len"=none)(gO:mg "list"=none)(b:↥(4,"open_steps",2,0))(e:↥(1,"step_hours",2,0))(g:↥(0,"step_places",2,0)):↥(["net","stream","begun"],3,f5):=by
 exists a,sc5,0,0;refine aP ?_ ?_;.exists 3,dN b hr (bu (sv 0) (bu (sv 1) aD rfl) rfl)
 lia;.exact(Ao (i:=4) nd rfl oi (by rfl) (Or.inl rfl))
 lia;.exists 5,KC (sv 2),0;(· lia;exact vp (i:=4) (bB hr) rfl (by ac_rfl) (sv 5) (bf (bM (vm (bB hr) (sv 2) (sv 5) (λ_ _=>rfl)) (bM aa (bM Hj aG rfl) rfl) rfl)) (by rfl);exact au)
 lia;.exists 6,Io rfl hc (by rfl) gO (sv 2)
 lia;.exact(yI PassesOwn.never (cN j8 (j6 rfl (by rfl) dZ (sv 6)) aa (cG _)) (by lia;exact Ao (i:=7) nd rfl oi (by rfl) (Or.inl rfl);(· lia;(· exists 5,cg (sv 6),0;(· lia;(· exists 8,cg (ao (sv 3) (sv 5)),0;(· lia;(· exists 9,ao (dN g hr (bu (sv 0) (bu (sv 8) aD rfl) rfl)) aa);(· lia;(· exists 10,bf (bM (aq aK (ao (zu (i:=4) (bB hr) rfl (by ac_rfl) (sv 5) (λ_ _=>rfl)) aa) (dN e hr (bu (sv 0) (bu (sv 8) aD rfl) rfl))) (bM (aq aK (ao (zu (i:=4) (bB hr) rfl (by ac_rfl) (sv 5) (λ_ _=>rfl)) aa) aa) aG rfl) rfl));(· lia;(· exists dW ?_ ?_ ?_;exact SW.st (Oa (Sv (i:=4) (Or.inr ⟨rfl,rfl⟩) (bB hr) rfl (by ac_rfl) (sv 9) (by with_unfolding_all rfl)) (Gg (cN (zR (bB hr)) (sv 10) (lL (zu (i:=4) (bB hr) rfl (by ac_rfl) (sv 9) (λ_ _=>rfl)) o7 (pq aa)) (cG _))));(· lia;exact vp (i:=4) (bB hr) rfl (by ac_rfl) (sv 9) (aq aK (sv 10) (bf (bM (sv 8) aG rfl))) (by rfl);(· lia;exact vp (i:=7) (bB hr) rfl (by ac_rfl) (sv 9) gq (by rfl);exact au));exact au);exact au))));exact au));(· lia;(· exists 6,Io rfl hc (by rfl) gO (Iz (i:=7) rfl (by ac_rfl)));exact au))))
 lia;.exists(),sv 4
 exact au
abbrev s6:Stmt:=top 12
noncomputable def b6:List S:=[.asg 3 (.lst []),.asg 4 ↑2,.whl (.cmp .Nk (.idx (.bin .Ej ↑1 ↑4) ⇑2) (.con .non)) [.asg 5 (.idx (.bin .Ej ↑1 ↑4) ⇑2),.app 3 ↑5,.asg 4 (.idx (.call 0 [↑0,↑5]) ⇑0)],.ret (.blt .rvT [↑3])]
def f6:Fd:=⟨3,6,b6⟩
theorem sc6:aL ["net","come","place","steps","here","step"] ["net","come","place"] (aB s6):=nofun
include cl in
theorem d6(a:jc K "steps_to" "steps_to" s6 f fd)(kY:mg "reversed"=none)(bW:mg "tuple"=none)(b:↥(0,"step_places",2,0)):↥(["net","come","place"],3,f6):=by
 exists a,sc6,0,0;refine aP ?_ ?_;.exists 3,dB aG
 lia;.exists 4,sv 2
 lia;.exact(yI PassesOwn.never (cN Mi (ao (vm (bB hr) (sv 1) (sv 4) (λ_ _=>rfl)) aa) Hj (cG _)) (by lia;(· exists 5,ao (vm (bB hr) (sv 1) (sv 4) (λ_ _=>rfl)) aa);(· lia;exact fB (k:=3) rfl (by ac_rfl) (sv 5);(· lia;(· exists 4,ao (dN b hr (bu (sv 0) (bu (sv 5) aD rfl) rfl)) aa);exact au))))
 lia;.exists(),zK rfl rfl hc (by rfl) bW (by rfl) kY (sv 3)
 exact au
abbrev s7:Stmt:=top 13
noncomputable def b7:List S:=[.asg 3 (.blt .list [↑0]),.jQ ↑1 [4,5] false [.JM 3 ↑4 false (.Nm ↑5 ↑2 (.neg ↑2))],.ret ↑3]
def f7:Fd:=⟨3,6,b7⟩
theorem sc7:aL ["stream","steps","loads","changed","number","forth"] ["stream","steps","loads"] (aB s7):=nofun
include cl in
theorem d7(a:jc K "stream_with" "stream_with" s7 f fd)(gO:mg "list"=none):↥(["stream","steps","loads"],3,f7):=by
 exists a,sc7,0,0;refine aP ?_ ?_;.exists 3,Ls rfl (by rfl) gO (sv 0)
 lia;.exact(qP PassesOwn.never hc (cg (sv 1)) (iB hc (bD (aM (i:=4) nd rfl oi oi) (bD (aM (i:=5) nd rfl oi oi) fM))) (uI rfl (gH _ _ (gH _ _ oX 5) 4)) (by lia;exact Lw (k:=3) (sub:=false) Lp rfl (by ac_rfl) (sv 4) (pU (nj (sv 5)) (sv 2) (Je (sv 2)));exact au))
 lia;.exists(),sv 3
 exact au
abbrev s8:Stmt:=top 14
noncomputable def b8:List S:=[.asg 1 (.bin .sub (.idx ↑0 ⇑0) ⇑1),.asg 2 (.bin .mul (.lst [⇑0]) (.blt .len [.idx ↑0 ⇑1])),.asg 3 (.lst []),.asg 4 (.call 5 [↑0,↑2,.zU 0 0]),.whl (.bin .din ↑1 ↑4) [.asg 5 (.call 6 [↑0,↑4,↑1]),.asg 6 (.blt .JH [.comp ↑5 1 [7] true none (.call 2 [↑0,↑2,↑7])]),.app 3 (.tup [↑5,↑6]),.asg 2 (.call 7 [↑2,↑5,↑6]),.asg 4 (.call 5 [↑0,↑2,.zU 0 0])],.ret ↑3]
def f8:Fd:=⟨1,7,b8⟩
theorem sc8:aL ["net","end","stream","chains","come","steps","loads"] ["net"] (aB s8):=nofun
include cl in
theorem d8(b:jc K "chains_to_end" "chains_to_end" s8 f fd)(dZ:mg "len"=none)(iY:mg "min"=none)(a:↥(5,"shortest_come",3,0))(e:↥(2,"step_room",3,0))(g:↥(6,"steps_to",3,0))(h:↥(7,"stream_with",3,0)):↥(["net"],1,f8):=by
 exists b,sc8,0,0;refine aP ?_ ?_;.exists 1,aq cX (ao (sv 0) aa) aa
 lia;.exists j5 (i:=2) ?_ ?_ ?_ ?_ ?_ ?_;exact nd;exact rfl;exact Or.inr rfl;rotate_left;rfl;exact oi;exact aq cY (dB (bM aa aG rfl)) (j6 rfl (by rfl) dZ (ao (sv 0) aa))
 lia;.exists 3,dB aG
 lia;.exists 4,dN a hr (bu (sv 0) (bu (sv 2) (bu BJ aD rfl) rfl) rfl)
 lia;.exact(yI PassesOwn.never (QW (bB hr) (sv 1) (sv 4) (by with_unfolding_all rfl)) (by lia;(· exists 5,dN g hr (bu (sv 0) (bu (sv 4) (bu (sv 1) aD rfl) rfl) rfl));(· lia;(· exists 6,Li rfl hc (by rfl) iY (dI (N':=["net","end","stream","chains","come","steps","loads","step"]) hc (yj rfl (by rfl)) (cg (sv 5)) ⇑(aM (i:=7) ‹["net","end","stream","chains","come","steps","loads","step"]› rfl (Or.inl rfl) (Or.inr rfl)) (dj (cO)) ⇑(cI) ⇑((dN e hr (bu (sv 0) (bu (sv 2) (bu (sv 7) aD rfl) rfl) rfl)))));(· lia;exact fB (k:=3) rfl (by ac_rfl) (bf (bM (sv 5) (bM (sv 6) aG rfl) rfl));(· lia;(· exists j5 (i:=2) ?_ ?_ ?_ ?_ ?_ ?_;exact nd;exact rfl;exact Or.inr rfl;rotate_left;rfl;exact oi;exact dN h hr (bu (sv 2) (bu (sv 5) (bu (sv 6) aD rfl) rfl) rfl));(· lia;(· exists 4,dN a hr (bu (sv 0) (bu (sv 2) (bu BJ aD rfl) rfl) rfl));exact au))))))
 lia;.exists(),sv 3
 exact au
abbrev s9:Stmt:=top 15
noncomputable def b9:List S:=[.asg 2 (.lst []),.asg 3 ↑1,.jQ ↑0 [4,5] false [.asg 6 (.blt .min2 [↑3,↑5]),.app 2 (.tup [↑4,↑6]),.aug 3 true ↑6],.ifs (.cmp .gt ↑3 ⇑0) [.bad] [],.ret ↑2]
def f9:Fd:=⟨2,7,b9⟩
theorem sc9:aL ["pairs","rate","cut","left","first","loads","taken"] ["pairs","rate"] (aB s9):=nofun
include cl in
theorem d9(a:jc K "cut_to_rate" "cut_to_rate" s9 f fd)(iY:mg "min"=none):↥(["pairs","rate"],2,f9):=by
 exists a,sc9,0,0;refine aP ?_ ?_;.exists 2,dB aG
 lia;.exists 3,sv 1
 lia;.exact(qP PassesOwn.never hc (cg (sv 0)) (iB hc (bD (aM (i:=4) nd rfl oi oi) (bD (aM (i:=5) nd rfl oi oi) fM))) (uI rfl (gH _ _ (gH _ _ oX 5) 4)) (by lia;(· exists 6,uE rfl hc (by rfl) iY (bM (sv 3) (bM (sv 5) aG rfl) rfl));(· lia;exact fB (k:=2) rfl (by ac_rfl) (bf (bM (sv 4) (bM (sv 6) aG rfl) rfl));(· lia;exact TF (i:=3) (sub:=true) KH nd rfl oi (sv 6) (Or.inl rfl);exact au))))
 lia;.exists dW ?_ ?_ ?_;exact cN j8 (sv 3) aa (cG _);(· lia;exact yr;exact au);exact au
 lia;.exists(),sv 2
 exact au
abbrev rH:Stmt:=top 17
noncomputable def b10:List S:=[.El 1 false,.jQ (.call 8 [↑0]) [2,3] false [.asg 4 (.call 3 [↑0,↑2]),.dput 1 ↑4 (.bin .add (.Uv 1 ↑4 ⇑0) ↑3)],.ret (.blt .JK [.vw 1])]
def f10:Fd:=⟨1,5,b10⟩
theorem abV:aL ["net","bends","steps","loads","length"] ["net"] (aB rH):=nofun
include cl in
theorem d10(a:jc K "bends_of" "bends_of" rH f fd)(il:mg "sorted"=none)(b:↥(8,"chains_to_end",1,0))(e:↥(3,"steps_hours",2,0)):↥(["net"],1,f10):=by
 exists a,abV,0,0;refine aP ?_ ?_;.exact(Cd (i:=1) nd rfl oi (by rfl) (Or.inl rfl))
 lia;.exact(qP PassesOwn.never hc (cg (dN b hr (bu (sv 0) aD rfl))) (iB hc (bD (aM (i:=2) nd rfl oi oi) (bD (aM (i:=3) nd rfl oi oi) fM))) (uI rfl (gH _ _ (gH _ _ oX 3) 2)) (by lia;(· exists 4,dN e hr (bu (sv 0) (bu (sv 2) aD rfl) rfl));(· lia;exact Bg (i:=1) (bB hr) rfl (by ac_rfl) (sv 4) (aq aK (FW (i:=1) (bB hr) rfl (by ac_rfl) (sv 4) aa ⟨rfl,rfl,rfl,rfl⟩) (sv 3)) (by rfl);exact au)))
 lia;.exists(),LK rfl hc (by rfl) il rfl (Iz (i:=1) rfl (by ac_rfl))
 exact au
abbrev ZZ:Stmt:=top 18
noncomputable def b11:List S:=[.ret (.blt .sum [.comp (.call 9 [.call 10 [↑0],↑1]) 2 [2,3] false none (.bin .mul ↑2 ↑3)])]
def f11:Fd:=⟨2,2,b11⟩
theorem abE:aL ["net","rate"] ["net","rate"] (aB ZZ):=nofun
include cl in
theorem d11(a:jc K "least_hours" "least_hours" ZZ f fd)(jZ:mg "sum"=none)(b:↥(10,"bends_of",1,0))(e:↥(9,"cut_to_rate",2,0)):↥(["net","rate"],2,f11):=by
 exists a,abE,0,0;refine aP ?_ ?_;.exists(),uC rfl hc (by rfl) jZ (dI (N':=["net","rate","length","loads"]) hc (yj rfl (by rfl)) (cg (dN e hr (bu (dN b hr (bu (sv 0) aD rfl)) (bu (sv 1) aD rfl) rfl))) ⇑(iB hc (bD (aM (i:=2) ‹["net","rate","length","loads"]› rfl (Or.inl rfl) (Or.inr rfl)) (bD (aM (i:=3) ‹["net","rate","length","loads"]› rfl (Or.inl rfl) (Or.inr rfl)) fM))) (mH rfl (dF (show 2<=2 by decide) (dF (show 2<=3 by decide) lq))) ⇑(cI) ⇑((aq cY (sv 2) (sv 3))))
 exact au
abbrev s12:Stmt:=top 20
noncomputable def b12:List S:=[.ifs (.not (.chain .le .lt ⇑0 ↑1 (.blt .len [.idx ↑0 ⇑1]))) [.bad] [],.ret (.idx (.idx ↑0 ⇑1) ↑1)]
def f12:Fd:=⟨2,2,b12⟩
theorem abr:aL ["net","number"] ["net","number"] (aB s12):=nofun
include cl in
theorem d12(a:jc K "known_way" "known_way" s12 f fd)(dZ:mg "len"=none):↥(["net","number"],2,f12):=by
 exists a,abr,0,0;refine aP ?_ ?_;.exists dW ?_ ?_ ?_;exact uP (xf uZ (zR (bB hr)) aa (sv 1) (j6 rfl (by rfl) dZ (ao (sv 0) aa)));(· lia;exact yr;exact au);exact au
 lia;.exists(),ao (ao (sv 0) aa) (sv 1)
 exact au
abbrev s13:Stmt:=top 21
noncomputable def b13:List S:=[.asg 3 (.call 12 [↑0,↑1]),.asg 4 (.tup [.idx ↑3 ⇑0,.idx ↑3 ⇑1,↑2,.idx ↑3 ⇑3]),.ret (.tup [.idx ↑0 ⇑0,.bin .add (.bin .add (.slice (.idx ↑0 ⇑1) (.con .non) ↑1) (.tup [↑4])) (.slice (.idx ↑0 ⇑1) (.bin .add ↑1 ⇑1) (.con .non))])]
def Z4:Fd:=⟨3,5,b13⟩
theorem adm:aL ["net","number","room","way","changed"] ["net","number","room"] (aB s13):=nofun
include cl in
theorem d13(a:jc K "with_room" "with_room" s13 f fd)(b:↥(12,"known_way",2,0)):↥(["net","number","room"],3,Z4):=by
 exists a,adm,0,0;refine aP ?_ ?_;.exists 3,dN b hr (bu (sv 0) (bu (sv 1) aD rfl) rfl)
 lia;.exists 4,bf (bM (ao (sv 3) aa) (bM (ao (sv 3) aa) (bM (sv 2) (bM (ao (sv 3) aa) aG rfl) rfl) rfl) rfl)
 lia;.exists(),bf (bM (ao (sv 0) aa) (bM (aq aK (aq aK (lL (ao (sv 0) aa) o7 (pq (sv 1))) (bf (bM (sv 4) aG rfl))) (lL (ao (sv 0) aa) (pq (aq aK (sv 1) aa)) o7)) aG rfl) rfl)
 exact au
abbrev s14:Stmt:=top 22
noncomputable def b14:List S:=[.asg 1 (.bin .sub (.idx ↑0 ⇑0) ⇑1),.asg 2 (.comp (.idx ↑0 ⇑1) 1 [3] true none (.tup [.bin .sub ↑1 (.idx ↑3 ⇑1),.bin .sub ↑1 (.idx ↑3 ⇑0),.idx ↑3 ⇑2,.idx ↑3 ⇑3])),.ret (.tup [.idx ↑0 ⇑0,.blt .tuple [↑2]])]
def f14:Fd:=⟨1,3,b14⟩
theorem abT:aL ["net","end","ways"] ["net"] (aB s14):=nofun
include cl in
theorem d14(a:jc K "turned_net" "turned_net" s14 f fd)(bW:mg "tuple"=none):↥(["net"],1,f14):=by
 exists a,abT,0,0;refine aP ?_ ?_;.exists j5 (i:=1) ?_ ?_ ?_ ?_ ?_ ?_;exact nd;exact rfl;exact Or.inr rfl;rotate_left;rfl;exact oi;exact aq cX (ao (sv 0) aa) aa
 lia;.exact(vf (i:=2) (N':=["net","end","ways","way"]) hc nd rfl oi (yj rfl (by rfl)) (cg (ao (sv 0) aa)) ⇑(aM (i:=3) ‹["net","end","ways","way"]› rfl (Or.inl rfl) (Or.inr rfl)) (dj (cO)) ⇑(cI) ⇑((bf (bM (aq cX (sv 1) (ao (sv 3) aa)) (bM (aq cX (sv 1) (ao (sv 3) aa)) (bM (ao (sv 3) aa) (bM (ao (sv 3) aa) aG rfl) rfl) rfl) rfl))) (by rfl) (by intro _;rfl) (Or.inl rfl))
 lia;.exists(),bf (bM (ao (sv 0) aa) (bM (jj rfl (by rfl) bW (sv 2)) aG rfl) rfl)
 exact au
abbrev s15:Stmt:=top 23
noncomputable def b15:List S:=[.ret (.Nm (.cmp .eq ↑1 ↑0) (.bin .add ↑0 ⇑1) ↑1)]
def Ww:Fd:=⟨2,2,b15⟩
theorem abG:aL ["end","place"] ["end","place"] (aB s15):=nofun
include cl in
theorem d15(a:jc K "end_moved" "end_moved" s15 f fd):↥(["end","place"],2,Ww):=by
 exists a,abG,0,0;refine aP ?_ ?_;.exists(),pU (cN (qz (bB hr)) (sv 1) (sv 0) (cG _)) (aq aK (sv 0) aa) (sv 1)
 exact au
abbrev s16:Stmt:=top 24
noncomputable def b16:List S:=[.asg 3 (.idx (.call 12 [↑0,↑1]) ⇑3),.ifs (.not (.chain .le .lt ⇑1 ↑2 ↑3)) [.bad] [],.asg 4 (.bin .sub (.idx ↑0 ⇑0) ⇑1),.asg 5 (.comp (.idx ↑0 ⇑1) 1 [7] true none (.tup [.call 15 [↑4,.idx ↑7 ⇑0],.call 15 [↑4,.idx ↑7 ⇑1],.idx ↑7 ⇑2,.idx ↑7 ⇑3])),.asg 6 (.idx ↑5 ↑1),.zV 5 ↑1 (.tup [.idx ↑6 ⇑0,↑4,.idx ↑6 ⇑2,↑2]),.app 5 (.tup [↑4,.idx ↑6 ⇑1,.idx ↑6 ⇑2,.bin .sub (.idx ↑6 ⇑3) ↑2]),.ret (.tup [.bin .add (.idx ↑0 ⇑0) ⇑1,.blt .tuple [↑5]])]
def f16:Fd:=⟨3,7,b16⟩
theorem adF:aL ["net","number","hours","way_hours","new","ways","whole"] ["net","number","hours"] (aB s16):=nofun
include cl in
theorem d16(b:jc K "parted_net" "parted_net" s16 f fd)(bW:mg "tuple"=none)(a:↥(15,"end_moved",2,0))(e:↥(12,"known_way",2,0)):↥(["net","number","hours"],3,f16):=by
 exists b,adF,0,0;refine aP ?_ ?_;.exists 3,ao (dN e hr (bu (sv 0) (bu (sv 1) aD rfl) rfl)) aa
 lia;.exists dW ?_ ?_ ?_;exact uP (xf uZ (zR (bB hr)) aa (sv 2) (sv 3));(· lia;exact yr;exact au);exact au
 lia;.exists j5 (i:=4) ?_ ?_ ?_ ?_ ?_ ?_;exact nd;exact rfl;exact Or.inr rfl;rotate_left;rfl;exact oi;exact aq cX (ao (sv 0) aa) aa
 lia;.exact(vf (i:=5) (N':=["net","number","hours","way_hours","new","ways","whole","way"]) hc nd rfl oi (yj rfl (by rfl)) (cg (ao (sv 0) aa)) ⇑(aM (i:=7) ‹["net","number","hours","way_hours","new","ways","whole","way"]› rfl (Or.inl rfl) (Or.inr rfl)) (dj (cO)) ⇑(cI) ⇑((bf (bM (dN a hr (bu (sv 4) (bu (ao (sv 7) aa) aD rfl) rfl)) (bM (dN a hr (bu (sv 4) (bu (ao (sv 7) aa) aD rfl) rfl)) (bM (ao (sv 7) aa) (bM (ao (sv 7) aa) aG rfl) rfl) rfl) rfl))) (by rfl) (by intro _;rfl) (Or.inl rfl))
 lia;.exists 6,ao (sv 5) (sv 1)
 lia;.exact(pB (k:=5) rfl (by ac_rfl) (sv 1) (bf (bM (ao (sv 6) aa) (bM (sv 4) (bM (ao (sv 6) aa) (bM (sv 2) aG rfl) rfl) rfl) rfl)))
 lia;.exact(fB (k:=5) rfl (by ac_rfl) (bf (bM (sv 4) (bM (ao (sv 6) aa) (bM (ao (sv 6) aa) (bM (aq cX (ao (sv 6) aa) (sv 2)) aG rfl) rfl) rfl) rfl)))
 lia;.exists(),bf (bM (aq aK (ao (sv 0) aa) aa) (bM (jj rfl (by rfl) bW (sv 5)) aG rfl) rfl)
 exact au
abbrev s17:Stmt:=top 26
noncomputable def b17:List S:=[.ret (.lst [.blt .max2 [⇑0,.bin .sub ↑0 (.bin .pow ⇑10 ⇑18)],.bin .mod ↑0 (.bin .pow ⇑10 ⇑18),⇑0])]
def Zx:Fd:=⟨1,1,b17⟩
theorem abC:aL ["cell"] ["cell"] (aB s17):=nofun
include cl in
theorem d17(a:jc K "_law_pool" "_law_pool" s17 f fd)(ir:mg "max"=none):↥(["cell"],1,Zx):=by
 exists a,abC,0,0;refine aP ?_ ?_;.exists(),dB (bM (vH rfl hc (by rfl) ir (bM aa (bM (aq cX (sv 0) (aq iM aa aa)) aG rfl) rfl)) (bM (aq eY (sv 0) (aq iM aa aa)) (bM aa aG rfl) rfl) rfl)
 exact au
abbrev s18:Stmt:=top 27
noncomputable def b18:List S:=[.ifs (.cmp .gt (.idx ↑0 ⇑0) ⇑0) [.asg 2 (.bin .mod (.idx ↑0 ⇑0) ↑1),.zV 0 ⇑0 (.bin .fdiv (.idx ↑0 ⇑0) ↑1),.ret ↑2] [],.zV 0 ⇑2 (.bin .add (.idx ↑0 ⇑2) ⇑1),.asg 3 (.bin .mod (.bin .add (.idx ↑0 ⇑1) (.bin .mul ⇑7919 (.idx ↑0 ⇑2))) ⇑1000000007),.asg 4 (.bin .mod (.bin .mul (.bin .add ↑3 ⇑11) (.bin .add ↑3 ⇑48271)) ⇑998244353),.ret (.bin .mod (.bin .fdiv (.bin .mod (.bin .mul ↑4 ↑4) ⇑2147483647) ⇑8) ↑1)]
def f18:Fd:=⟨2,5,b18⟩
theorem abw:aL ["pool","base","digit","near","stir"] ["pool","base"] (aB s18):=nofun
include cl in
theorem d18(a:jc K "_law_next" "_law_next" s18 f fd):↥(["pool","base"],2,f18):=by
 exists a,abw,0,0;refine aP ?_ ?_;.exists dW ?_ ?_ ?_;exact cN j8 (ao (sv 0) aa) aa (cG _);(· lia;(· exists 2,aq eY (ao (sv 0) aa) (sv 1));(· lia;exact pB (k:=0) rfl (by ac_rfl) aa (aq lX (ao (sv 0) aa) (sv 1));(· lia;(· exists(),sv 2);exact au)));exact au
 lia;.exact(pB (k:=0) rfl (by ac_rfl) aa (aq aK (ao (sv 0) aa) aa))
 lia;.exists 3,aq eY (aq aK (ao (sv 0) aa) (aq cY aa (ao (sv 0) aa))) aa
 lia;.exists 4,aq eY (aq cY (aq aK (sv 3) aa) (aq aK (sv 3) aa)) aa
 lia;.exists(),aq eY (aq lX (aq eY (aq cY (sv 4) (sv 4)) aa) aa) (sv 1)
 exact au
abbrev s19:Stmt:=top 28
noncomputable def b19:List S:=[.ret (.bin .mod (.bin .add (.bin .mul (.call 18 [↑0,⇑100000]) ⇑100000) (.call 18 [↑0,⇑100000])) ↑1)]
def Zw:Fd:=⟨2,2,b19⟩
theorem ac0:aL ["pool","base"] ["pool","base"] (aB s19):=nofun
include cl in
theorem d19(b:jc K "_law_wide" "_law_wide" s19 f fd)(a:↥(18,"_law_next",2,0)):↥(["pool","base"],2,Zw):=by
 exists b,ac0,0,0;refine aP ?_ ?_;.exists(),aq eY (aq aK (aq cY (dN a hr (bu (sv 0) (bu aa aD rfl) rfl)) aa) (dN a hr (bu (sv 0) (bu aa aD rfl) rfl))) (sv 1)
 exact au
abbrev s20:Stmt:=top 29
noncomputable def b20:List S:=[.asg 2 (.bin .add ⇑2 (.call 18 [↑0,⇑3])),.asg 3 (.idx (.lst [⇑4,⇑3,⇑8,.bin .add (.bin .pow ⇑10 ⇑9) ⇑1]) (.call 18 [↑0,⇑4])),.asg 4 (.idx (.lst [⇑3,⇑5,⇑4,.bin .pow ⇑10 ⇑6]) (.call 18 [↑0,⇑4])),.asg 5 (.lst []),.jQ (.yc ⇑0 (.idx (.lst [↑1,.call 18 [↑0,.bin .add ↑1 ⇑1]]) (.call 18 [↑0,⇑2]))) [6] true [.asg 7 (.call 18 [↑0,↑2]),.asg 8 (.bin .mod (.bin .add (.bin .add ↑7 ⇑1) (.call 18 [↑0,.bin .sub ↑2 ⇑1])) ↑2),.ifs (.cmp .gt (.call 18 [↑0,⇑4]) ⇑0) [.par 7 8 (.blt .min2 [↑7,↑8]) (.blt .max2 [↑7,↑8])] [],.app 5 (.tup [↑7,↑8,.call 19 [↑0,↑3],.bin .add ⇑1 (.call 19 [↑0,↑4])])],.ret (.tup [↑2,.blt .tuple [↑5]])]
def ZP:Fd:=⟨2,9,b20⟩
theorem abo:aL ["pool","most","many","rooms","hours","ways","k","one","other"] ["pool","most"] (aB s20):=nofun
include cl in
theorem d20(e:jc K "_law_net" "_law_net" s20 f fd)(ir:mg "max"=none)(iY:mg "min"=none)(cZ:mg "range"=none)(bW:mg "tuple"=none)(a:↥(18,"_law_next",2,0))(b:↥(19,"_law_wide",2,0)):↥(["pool","most"],2,ZP):=by
 exists e,abo,0,0;refine aP ?_ ?_;.exists 2,aq aK aa (dN a hr (bu (sv 0) (bu aa aD rfl) rfl))
 lia;.exists 3,ao (dB (vI [4,3,8] rfl (bM (aq aK (aq iM aa aa) aa) aG rfl))) (dN a hr (bu (sv 0) (bu aa aD rfl) rfl))
 lia;.exists 4,ao (dB (vI [3,5,4] rfl (bM (aq iM aa aa) aG rfl))) (dN a hr (bu (sv 0) (bu aa aD rfl) rfl))
 lia;.exists 5,dB aG
 lia;.exists 6,vq rfl (by rfl) cZ (ao (dB (bM (sv 1) (bM (dN a hr (bu (sv 0) (bu (aq aK (sv 1) aa) aD rfl) rfl)) aG rfl) rfl)) (dN a hr (bu (sv 0) (bu aa aD rfl) rfl))),0;(· lia;(· exists 7,dN a hr (bu (sv 0) (bu (sv 2) aD rfl) rfl));(· lia;(· exists 8,aq eY (aq aK (aq aK (sv 7) aa) (dN a hr (bu (sv 0) (bu (aq cX (sv 2) aa) aD rfl) rfl))) (sv 2));(· lia;(· exists dW ?_ ?_ ?_;exact cN j8 (dN a hr (bu (sv 0) (bu aa aD rfl) rfl)) aa (cG _);(· lia;exact Qt (i:=7) (j:=8) hc nd rfl rfl (by decide) rfl rfl (uE rfl hc (by rfl) iY (bM (sv 7) (bM (sv 8) aG rfl) rfl)) (vH rfl hc (by rfl) ir (bM (sv 7) (bM (sv 8) aG rfl) rfl));exact au);exact au);(· lia;exact fB (k:=5) rfl (by ac_rfl) (bf (bM (sv 7) (bM (sv 8) (bM (dN b hr (bu (sv 0) (bu (sv 3) aD rfl) rfl)) (bM (aq aK aa (dN b hr (bu (sv 0) (bu (sv 4) aD rfl) rfl))) aG rfl) rfl) rfl) rfl));exact au))))
 lia;.exists(),bf (bM (sv 2) (bM (jj rfl (by rfl) bW (sv 5)) aG rfl) rfl)
 exact au
abbrev s21:Stmt:=top 30
noncomputable def b21:List S:=[.El 1 false,.jQ ↑0 [2,3] false [.dput 1 ↑2 (.bin .add (.Uv 1 ↑2 ⇑0) ↑3)],.ret (.blt .JL [.vw 1])]
def f21:Fd:=⟨1,4,b21⟩
theorem adH:aL ["pairs","found","length","loads"] ["pairs"] (aB s21):=nofun
include cl in
theorem d21(a:jc K "_law_together" "_law_together" s21 f fd)(il:mg "sorted"=none):↥(["pairs"],1,f21):=by
 exists a,adH,0,0;refine aP ?_ ?_;.exact(Cd (i:=1) nd rfl oi (by rfl) (Or.inl rfl))
 lia;.exact(qP PassesOwn.never hc (cg (sv 0)) (iB hc (bD (aM (i:=2) nd rfl oi oi) (bD (aM (i:=3) nd rfl oi oi) fM))) (uI rfl (gH _ _ (gH _ _ oX 3) 2)) (by lia;exact Bg (i:=1) (bB hr) rfl (by ac_rfl) (sv 2) (aq aK (FW (i:=1) (bB hr) rfl (by ac_rfl) (sv 2) aa ⟨rfl,rfl,rfl,rfl⟩) (sv 3)) (by rfl);exact au))
 lia;.exists(),Kv rfl hc (by rfl) il rfl (Iz (i:=1) rfl (by ac_rfl))
 exact au
abbrev s22:Stmt:=top 31
noncomputable def b22:List S:=[.asg 2 (.bin .sub (.bin .add (.idx ↑0 ⇑0) (.idx ↑1 ⇑0)) ⇑3),.asg 3 (.bin .add (.bin .add (.lst [⇑0]) (.comp (.yc ⇑1 (.bin .sub (.idx ↑1 ⇑0) ⇑1)) 1 [6] true none (.bin .sub (.bin .add ↑6 (.idx ↑0 ⇑0)) ⇑2))) (.lst [↑2])),.asg 4 (.bin .add (.blt .Cu [.yc ⇑0 (.bin .sub (.idx ↑0 ⇑0) ⇑1)]) (.lst [↑2])),.asg 5 (.comp (.idx ↑0 ⇑1) 1 [6] true none (.tup [.idx ↑4 (.idx ↑6 ⇑0),.idx ↑4 (.idx ↑6 ⇑1),.idx ↑6 ⇑2,.idx ↑6 ⇑3])),.Np 5 (.comp (.idx ↑1 ⇑1) 1 [6] true none (.tup [.idx ↑3 (.idx ↑6 ⇑0),.idx ↑3 (.idx ↑6 ⇑1),.idx ↑6 ⇑2,.idx ↑6 ⇑3])),.ret (.tup [.bin .add ↑2 ⇑1,.blt .tuple [↑5]])]
def ZX:Fd:=⟨2,6,b22⟩
theorem ack:aL ["one","other","last","places","mine","ways"] ["one","other"] (aB s22):=nofun
include cl in
theorem d22(a:jc K "_law_beside" "_law_beside" s22 f fd)(gO:mg "list"=none)(cZ:mg "range"=none)(bW:mg "tuple"=none):↥(["one","other"],2,ZX):=by
 exists a,ack,0,0;refine aP ?_ ?_;.exists 2,aq cX (aq aK (ao (sv 0) aa) (ao (sv 1) aa)) aa
 lia;.exists j5 (i:=3) ?_ ?_ ?_ ?_ ?_ ?_;exact nd;exact rfl;exact Or.inr rfl;rotate_left;rfl;exact oi;exact aq aK (aq aK (dB (bM aa aG rfl)) (dI (N':=["one","other","last","places","mine","ways","place"]) hc (yj rfl (by rfl)) (Mj rfl (by rfl) cZ aa (aq cX (ao (sv 1) aa) aa)) ⇑(aM (i:=6) ‹["one","other","last","places","mine","ways","place"]› rfl (Or.inl rfl) (Or.inr rfl)) (dj (cO)) ⇑(cI) ⇑((aq cX (aq aK (sv 6) (ao (sv 0) aa)) aa)))) (dB (bM (sv 2) aG rfl))
 lia;.exists j5 (i:=4) ?_ ?_ ?_ ?_ ?_ ?_;exact nd;exact rfl;exact Or.inr rfl;rotate_left;rfl;exact oi;exact aq aK (DR rfl rfl hc (by rfl) gO (by rfl) cZ (aq cX (ao (sv 0) aa) aa)) (dB (bM (sv 2) aG rfl))
 lia;.exact(vf (i:=5) (N':=["one","other","last","places","mine","ways","way"]) hc nd rfl oi (yj rfl (by rfl)) (cg (ao (sv 0) aa)) ⇑(aM (i:=6) ‹["one","other","last","places","mine","ways","way"]› rfl (Or.inl rfl) (Or.inr rfl)) (dj (cO)) ⇑(cI) ⇑((bf (bM (ao (sv 4) (ao (sv 6) aa)) (bM (ao (sv 4) (ao (sv 6) aa)) (bM (ao (sv 6) aa) (bM (ao (sv 6) aa) aG rfl) rfl) rfl) rfl))) (by rfl) (by intro _;rfl) (Or.inl rfl))
 lia;.exact(QD (k:=5) rfl (by ac_rfl) (dI (N':=["one","other","last","places","mine","ways","way"]) hc (yj rfl (by rfl)) (cg (ao (sv 1) aa)) ⇑(aM (i:=6) ‹["one","other","last","places","mine","ways","way"]› rfl (Or.inl rfl) (Or.inr rfl)) (dj (cO)) ⇑(cI) ⇑((bf (bM (ao (sv 3) (ao (sv 6) aa)) (bM (ao (sv 3) (ao (sv 6) aa)) (bM (ao (sv 6) aa) (bM (ao (sv 6) aa) aG rfl) rfl) rfl) rfl)))))
 lia;.exists(),bf (bM (aq aK (sv 2) aa) (bM (jj rfl (by rfl) bW (sv 5)) aG rfl) rfl)
 exact au
abbrev s23:Stmt:=top 32
noncomputable def b23:List S:=[.ret (.tup [.idx ↑0 ⇑0,.blt .tuple [.comp (.idx ↑0 ⇑1) 1 [3] true none (.tup [.idx ↑3 ⇑0,.idx ↑3 ⇑1,.bin .mul (.idx ↑3 ⇑2) ↑1,.bin .mul (.idx ↑3 ⇑3) ↑2])]])]
def Zz:Fd:=⟨3,3,b23⟩
theorem acs:aL ["net","rooms","hours"] ["net","rooms","hours"] (aB s23):=nofun
include cl in
theorem d23(a:jc K "_law_times" "_law_times" s23 f fd)(bW:mg "tuple"=none):↥(["net","rooms","hours"],3,Zz):=by
 exists a,acs,0,0;refine aP ?_ ?_;.exists(),bf (bM (ao (sv 0) aa) (bM (jj rfl (by rfl) bW (dI (N':=["net","rooms","hours","way"]) hc (yj rfl (by rfl)) (cg (ao (sv 0) aa)) ⇑(aM (i:=3) ‹["net","rooms","hours","way"]› rfl (Or.inl rfl) (Or.inr rfl)) (dj (cO)) ⇑(cI) ⇑((bf (bM (ao (sv 3) aa) (bM (ao (sv 3) aa) (bM (aq cY (ao (sv 3) aa) (sv 1)) (bM (aq cY (ao (sv 3) aa) (sv 2)) aG rfl) rfl) rfl) rfl))))) aG rfl) rfl)
 exact au
abbrev s24:Stmt:=top 33
noncomputable def b24:List S:=[.ifs (.cmp .le (.bin .mul (.blt .Ek [.comp (.idx ↑0 ⇑1) 1 [3] true none (.idx ↑3 ⇑2)]) ↑2) (.bin .pow ⇑10 ⇑9)) [.ifs (.cmp .ne (.call 10 [.call 23 [↑0,↑2,⇑1]]) (.comp ↑1 2 [3,4] false none (.tup [↑3,.bin .mul ↑4 ↑2]))) [.ret (.con (.bl false))] []] [],.ifs (.cmp .le (.bin .mul (.blt .Ek [.comp (.idx ↑0 ⇑1) 1 [3] true none (.idx ↑3 ⇑3)]) ↑2) (.bin .pow ⇑10 ⇑6)) [.ret (.cmp .eq (.call 10 [.call 23 [↑0,⇑1,↑2]]) (.comp ↑1 2 [3,4] false none (.tup [.bin .mul ↑3 ↑2,↑4])))] [],.ret (.con (.bl true))]
def f24:Fd:=⟨3,3,b24⟩
theorem adC:aL ["net","bends","times"] ["net","bends","times"] (aB s24):=nofun
include cl in
theorem d24(e:jc K "_law_scaled" "_law_scaled" s24 f fd)(ir:mg "max"=none)(a:↥(23,"_law_times",3,0))(b:↥(10,"bends_of",1,0)):↥(["net","bends","times"],3,f24):=by
 exists e,adC,0,0;refine aP ?_ ?_;.exists dW ?_ ?_ ?_;exact cN uZ (aq cY (Bd rfl hc (by rfl) ir (dI (N':=["net","bends","times","way"]) hc (yj rfl (by rfl)) (cg (ao (sv 0) aa)) ⇑(aM (i:=3) ‹["net","bends","times","way"]› rfl (Or.inl rfl) (Or.inr rfl)) (dj (cO)) ⇑(cI) ⇑((ao (sv 3) aa)))) (sv 2)) (aq iM aa aa) (cG _);(· lia;(· exists dW ?_ ?_ ?_;exact cN (pF (bB hr)) (dN b hr (bu (dN a hr (bu (sv 0) (bu (sv 2) (bu aa aD rfl) rfl) rfl)) aD rfl)) (dI (N':=["net","bends","times","length","loads"]) hc (yj rfl (by rfl)) (cg (sv 1)) ⇑(iB hc (bD (aM (i:=3) ‹["net","bends","times","length","loads"]› rfl (Or.inl rfl) (Or.inr rfl)) (bD (aM (i:=4) ‹["net","bends","times","length","loads"]› rfl (Or.inl rfl) (Or.inr rfl)) fM))) (mH rfl (dF (show 3<=3 by decide) (dF (show 3<=4 by decide) lq))) ⇑(cI) ⇑((bf (bM (sv 3) (bM (aq cY (sv 4) (sv 2)) aG rfl) rfl)))) (cG _);(· lia;(· exists(),gq);exact au);exact au);exact au);exact au
 lia;.exists dW ?_ ?_ ?_;exact cN uZ (aq cY (Bd rfl hc (by rfl) ir (dI (N':=["net","bends","times","way"]) hc (yj rfl (by rfl)) (cg (ao (sv 0) aa)) ⇑(aM (i:=3) ‹["net","bends","times","way"]› rfl (Or.inl rfl) (Or.inr rfl)) (dj (cO)) ⇑(cI) ⇑((ao (sv 3) aa)))) (sv 2)) (aq iM aa aa) (cG _);(· lia;(· exists(),Jv (qz (bB hr)) (dN b hr (bu (dN a hr (bu (sv 0) (bu aa (bu (sv 2) aD rfl) rfl) rfl)) aD rfl)) (dI (N':=["net","bends","times","length","loads"]) hc (yj rfl (by rfl)) (cg (sv 1)) ⇑(iB hc (bD (aM (i:=3) ‹["net","bends","times","length","loads"]› rfl (Or.inl rfl) (Or.inr rfl)) (bD (aM (i:=4) ‹["net","bends","times","length","loads"]› rfl (Or.inl rfl) (Or.inr rfl)) fM))) (mH rfl (dF (show 3<=3 by decide) (dF (show 3<=4 by decide) lq))) ⇑(cI) ⇑((bf (bM (aq cY (sv 3) (sv 2)) (bM (sv 4) aG rfl) rfl)))) (cG _));exact au);exact au
 lia;.exists(),gq
 exact au
abbrev s25:Stmt:=top 34
noncomputable def b25:List S:=[.ifs (.cmp .eq (.idx (.idx (.idx ↑0 ⇑1) ↑2) ⇑2) (.bin .pow ⇑10 ⇑9)) [.ret (.con (.bl true))] [],.asg 3 (.call 13 [↑0,↑2,.bin .add (.idx (.idx (.idx ↑0 ⇑1) ↑2) ⇑2) ⇑1]),.asg 4 (.blt .sum [.comp ↑1 2 [7,8] false none ↑8]),.asg 5 (.blt .sum [.comp (.call 10 [↑3]) 2 [7,8] false none ↑8]),.ifs (.cmp .Cr ↑5 (.tup [↑4,.bin .add ↑4 ⇑1])) [.ret (.con (.bl false))] [],.jQ (.lst [.bin .fdiv ↑4 ⇑3,.bin .fdiv ↑4 ⇑2,↑4]) [6] true [.ifs (.cmp .gt (.call 11 [↑3,↑6]) (.call 11 [↑0,↑6])) [.ret (.con (.bl false))] []],.ret (.con (.bl true))]
def f25:Fd:=⟨3,7,b25⟩
theorem abn:aL ["net","bends","number","wide","rate","more","part"] ["net","bends","number"] (aB s25):=nofun
include cl in
theorem d25(b:jc K "_law_widened" "_law_widened" s25 f fd)(jZ:mg "sum"=none)(e:↥(10,"bends_of",1,0))(a:↥(11,"least_hours",2,0))(g:↥(13,"with_room",3,0)):↥(["net","bends","number"],3,f25):=by
 exists b,abn,0,0;refine aP ?_ ?_;.exists dW ?_ ?_ ?_;exact cN (qz (bB hr)) (ao (ao (ao (sv 0) aa) (sv 2)) aa) (aq iM aa aa) (cG _);(· lia;(· exists(),gq);exact au);exact au
 lia;.exists 3,dN g hr (bu (sv 0) (bu (sv 2) (bu (aq aK (ao (ao (ao (sv 0) aa) (sv 2)) aa) aa) aD rfl) rfl) rfl)
 lia;.exists 4,uC rfl hc (by rfl) jZ (dI (N':=["net","bends","number","wide","rate","more","part","length","loads"]) hc (yj rfl (by rfl)) (cg (sv 1)) ⇑(iB hc (bD (aM (i:=7) ‹["net","bends","number","wide","rate","more","part","length","loads"]› rfl (Or.inl rfl) (Or.inr rfl)) (bD (aM (i:=8) ‹["net","bends","number","wide","rate","more","part","length","loads"]› rfl (Or.inl rfl) (Or.inr rfl)) fM))) (mH rfl (dF (show 7<=7 by decide) (dF (show 7<=8 by decide) lq))) ⇑(cI) ⇑((sv 8)))
 lia;.exists 5,uC rfl hc (by rfl) jZ (dI (N':=["net","bends","number","wide","rate","more","part","length","loads"]) hc (yj rfl (by rfl)) (cg (dN e hr (bu (sv 3) aD rfl))) ⇑(iB hc (bD (aM (i:=7) ‹["net","bends","number","wide","rate","more","part","length","loads"]› rfl (Or.inl rfl) (Or.inr rfl)) (bD (aM (i:=8) ‹["net","bends","number","wide","rate","more","part","length","loads"]› rfl (Or.inl rfl) (Or.inr rfl)) fM))) (mH rfl (dF (show 7<=7 by decide) (dF (show 7<=8 by decide) lq))) ⇑(cI) ⇑((sv 8)))
 lia;.exists dW ?_ ?_ ?_;exact cN DQ (sv 5) (bf (bM (sv 4) (bM (aq aK (sv 4) aa) aG rfl) rfl)) (by with_unfolding_all rfl);(· lia;(· exists(),gq);exact au);exact au
 lia;.exists 6,cg (dB (bM (aq lX (sv 4) aa) (bM (aq lX (sv 4) aa) (bM (sv 4) aG rfl) rfl) rfl)),0;(· lia;(· exists dW ?_ ?_ ?_;exact cN j8 (dN a hr (bu (sv 3) (bu (sv 6) aD rfl) rfl)) (dN a hr (bu (sv 0) (bu (sv 6) aD rfl) rfl)) (cG _);(· lia;(· exists(),gq);exact au);exact au);exact au)
 lia;.exists(),gq
 exact au
abbrev s26:Stmt:=top 35
noncomputable def b26:List S:=[.asg 2 (.call 10 [↑1]),.ifs (.or (.cmp .ne (.call 10 [.call 14 [↑1]]) ↑2) (.cmp .ne (.call 10 [.tup [.idx ↑1 ⇑0,.blt .rvs [.idx ↑1 ⇑1]]]) ↑2)) [.ret (.con (.bl false))] [],.ifs (.not (.call 24 [↑1,↑2,.bin .add ⇑2 (.call 18 [↑0,⇑8])])) [.ret (.con (.bl false))] [],.ifs (.cmp .eq (.idx ↑1 ⇑1) (.tup [])) [.ret (.cmp .eq ↑2 (.lst []))] [],.asg 3 (.call 18 [↑0,.blt .len [.idx ↑1 ⇑1]]),.asg 4 (.idx (.idx (.idx ↑1 ⇑1) ↑3) ⇑3),.ifs (.cmp .gt ↑4 ⇑1) [.asg 5 (.bin .add ⇑1 (.call 19 [↑0,.bin .sub ↑4 ⇑1])),.ifs (.cmp .ne (.call 10 [.call 16 [↑1,↑3,↑5]]) ↑2) [.ret (.con (.bl false))] []] [],.ret (.call 25 [↑1,↑2,↑3])]
def Z1:Fd:=⟨2,6,b26⟩
theorem ada:aL ["pool","net","bends","number","hours","first"] ["pool","net"] (aB s26):=nofun
include cl in
theorem d26(e:jc K "_law_right" "_law_right" s26 f fd)(dZ:mg "len"=none)(b:↥(18,"_law_next",2,0))(g:↥(24,"_law_scaled",3,0))(h:↥(19,"_law_wide",2,0))(i:↥(25,"_law_widened",3,0))(a:↥(10,"bends_of",1,0))(j:↥(16,"parted_net",3,0))(l:↥(14,"turned_net",1,0)):↥(["pool","net"],2,Z1):=by
 exists e,ada,0,0;refine aP ?_ ?_;.exists 2,dN a hr (bu (sv 1) aD rfl)
 lia;.exists dW ?_ ?_ ?_;exact SW.st (Oa (cN (pF (bB hr)) (dN a hr (bu (dN l hr (bu (sv 1) aD rfl)) aD rfl)) (sv 2) (cG _)) (Gg (cN (pF (bB hr)) (dN a hr (bu (bf (bM (ao (sv 1) aa) (bM (Sd (ao (sv 1) aa)) aG rfl) rfl)) aD rfl)) (sv 2) (cG _))));(· lia;(· exists(),gq);exact au);exact au
 lia;.exists dW ?_ ?_ ?_;exact uP (nj (dN g hr (bu (sv 1) (bu (sv 2) (bu (aq aK aa (dN b hr (bu (sv 0) (bu aa aD rfl) rfl))) aD rfl) rfl) rfl)));(· lia;(· exists(),gq);exact au);exact au
 lia;.exists dW ?_ ?_ ?_;exact cN (qz (bB hr)) (ao (sv 1) aa) (bf aG) (cG _);(· lia;(· exists(),Jv (qz (bB hr)) (sv 2) (dB aG) (cG _));exact au);exact au
 lia;.exists 3,dN b hr (bu (sv 0) (bu (j6 rfl (by rfl) dZ (ao (sv 1) aa)) aD rfl) rfl)
 lia;.exists 4,ao (ao (ao (sv 1) aa) (sv 3)) aa
 lia;.exists dW ?_ ?_ ?_;exact cN j8 (sv 4) aa (cG _);(· lia;(· exists 5,aq aK aa (dN h hr (bu (sv 0) (bu (aq cX (sv 4) aa) aD rfl) rfl)));(· lia;(· exists dW ?_ ?_ ?_;exact cN (pF (bB hr)) (dN a hr (bu (dN j hr (bu (sv 1) (bu (sv 3) (bu (sv 5) aD rfl) rfl) rfl)) aD rfl)) (sv 2) (cG _);(· lia;(· exists(),gq);exact au);exact au);exact au));exact au
 lia;.exists(),dN i hr (bu (sv 1) (bu (sv 2) (bu (sv 3) aD rfl) rfl) rfl)
 exact au
abbrev s27:Stmt:=top 36
noncomputable def b27:List S:=[.asg 2 (.bin .mul (.lst [⇑0]) ↑1),.jQ (.yc ⇑0 (.blt .len [↑0])) [3] true [.zV 2 (.bin .mod ↑3 ↑1) (.bin .add (.bin .mul (.idx ↑2 (.bin .mod ↑3 ↑1)) ⇑1000003) (.idx ↑0 ↑3))],.ret (.slice ↑2 (.con .non) (.blt .max2 [⇑1,.blt .min2 [.blt .len [↑0],↑1]]))]
def Z3:Fd:=⟨2,4,b27⟩
theorem adA:aL ["script","most","cells","k"] ["script","most"] (aB s27):=nofun
include cl in
theorem d27(a:jc K "_law_folded" "_law_folded" s27 f fd)(dZ:mg "len"=none)(ir:mg "max"=none)(iY:mg "min"=none)(cZ:mg "range"=none):↥(["script","most"],2,Z3):=by
 exists a,adA,0,0;refine aP ?_ ?_;.exists 2,aq cY (dB (bM aa aG rfl)) (sv 1)
 lia;.exists 3,vq rfl (by rfl) cZ (j6 rfl (by rfl) dZ (sv 0)),0;(· lia;exact pB (k:=2) rfl (by ac_rfl) (aq eY (sv 3) (sv 1)) (aq aK (aq cY (ao (sv 2) (aq eY (sv 3) (sv 1))) aa) (ao (sv 0) (sv 3)));exact au)
 lia;.exists(),lL (sv 2) o7 (pq (vH rfl hc (by rfl) ir (bM aa (bM (uE rfl hc (by rfl) iY (bM (j6 rfl (by rfl) dZ (sv 0)) (bM (sv 1) aG rfl) rfl)) aG rfl) rfl)))
 exact au
abbrev s28:Stmt:=top 37
noncomputable def b28:List S:=[.jQ (.call 27 [↑0,⇑6]) [1] true [.asg 2 (.call 17 [↑1]),.asg 3 (.call 20 [↑2,⇑6]),.asg 4 (.call 20 [↑2,⇑6]),.ifs (.not (.call 26 [↑2,↑3])) [.ret (.con (.bl false))] [],.asg 5 (.call 21 [.bin .add (.call 10 [↑3]) (.call 10 [↑4])]),.ifs (.cmp .ne (.call 10 [.call 22 [↑3,↑4]]) ↑5) [.ret (.con (.bl false))] []],.ret (.con (.bl true))]
def f28:Fd:=⟨1,6,b28⟩
theorem adD:aL ["script","cell","pool","net","other","due"] ["script"] (aB s28):=nofun
include cl in
theorem d28(e:jc K "law" "law" s28 f fd)(g:↥(22,"_law_beside",2,0))(h:↥(27,"_law_folded",2,0))(b:↥(20,"_law_net",2,0))(i:↥(17,"_law_pool",1,0))(j:↥(26,"_law_right",2,0))(l:↥(21,"_law_together",1,0))(a:↥(10,"bends_of",1,0)):↥(["script"],1,f28):=by
 exists e,adD,0,0;refine aP ?_ ?_;.exists 1,cg (dN h hr (bu (sv 0) (bu aa aD rfl) rfl)),0;(· lia;(· exists 2,dN i hr (bu (sv 1) aD rfl));(· lia;(· exists 3,dN b hr (bu (sv 2) (bu aa aD rfl) rfl));(· lia;(· exists 4,dN b hr (bu (sv 2) (bu aa aD rfl) rfl));(· lia;(· exists dW ?_ ?_ ?_;exact uP (nj (dN j hr (bu (sv 2) (bu (sv 3) aD rfl) rfl)));(· lia;(· exists(),gq);exact au);exact au);(· lia;(· exists 5,dN l hr (bu (aq aK (dN a hr (bu (sv 3) aD rfl)) (dN a hr (bu (sv 4) aD rfl))) aD rfl));(· lia;(· exists dW ?_ ?_ ?_;exact cN (pF (bB hr)) (dN a hr (bu (dN g hr (bu (sv 3) (bu (sv 4) aD rfl) rfl)) aD rfl)) (sv 5) (cG _);(· lia;(· exists(),gq);exact au);exact au);exact au))))))
 lia;.exists(),gq
 exact au
end T
end
noncomputable section
namespace T
open PySem L2 PySem.Spec PyProof.Rows HH
def Γ:Tab:=λi=>[f0,f1,f2,f3,f4,f5,f6,f7,f8,f9,f10,f11,f12,Z4,f14,Ww,f16,Zx,f18,Zw,ZP,f21,ZX,Zz,f24,f25,Z1,Z3,f28][i]?
end T
end
noncomputable section
namespace T
open HH
variable{w n j N l:Nat}{z m a b g p h i k:Int}{Q:R->List Sl->Prop}{f:Bool}{ch ns:List Int}{F q:Int->Int}{kvs r us:List (Int×Int)}
local macro_rules|`(tactic|symm)=>`(tactic|first|apply ak|apply Dt)
abbrev big:Int:=1606938044258990275541962092341162602522202993782792835301376
theorem cT{x y:Int}(h0:0<m)(c:m<big)(k:∀d x z:Int,0<=d->d<m->Q (.val (.int d)) [.own true [.int x,.int y,.int z],.val false (.int m)]):(run Γ w (n+1) 18 [.own true [.int x,.int y,.int z],.val false (.int m)]).sat Q:=by
 have e:m<1606938044258990275541962092341162602522202993782792835301376:=c;refine aO (d:=f18) rfl rfl (by decide) ?_;symm;simp[f18];constructor;.intro _;symm;simp[h0];apply ak;simp[h0,e,iW];apply ak;simp;exact k _ _ _ (emod_nonneg _ (by omega)) (emod_lt_of_pos _ h0)
 . intro _;symm;simp[iW];apply ak;simp;generalize t:(y+7919*(z+1))%1000000007=q;have u:0<=q/\q<1000000007:=by omega
   have o:-18446744073709551616<q+11/\q+11<18446744073709551616:=by omega
   symm;simp[o];generalize hs:(q+11)*(q+48271)%998244353=st;have s:-18446744073709551616<st/\st<18446744073709551616:=by omega
   symm;simp[s,h0];exact k _ _ _ (emod_nonneg _ (by omega)) (emod_lt_of_pos _ h0)
theorem GX{x:Int}(k:∀a b c:Int,Q (.own [.int a,.int b,.int c]) [.val false (.int x)]):(run Γ w (n+1) 17 [.val false (.int x)]).sat Q:=by refine aO (d:=Zx) rfl rfl (by decide) ?_;symm;simp[Zx];exact k _ _ _
structure Wy where(s t r h:Int)
variable{ws:List Wy}{v u:Wy}
def Wy.d(w:Wy):D:=.tup [.int w.s,.int w.t,.int w.r,.int w.h]
structure Wy.Ok(m:Int)(w:Wy):Prop where
 s0:0<=w.s
 s1:w.s<m
 t0:0<=w.t
 t1:w.t<m
 ne:w.s≠w.t
 r0:0<=w.r
 r1:w.r<=1000000000
 h0:1<=w.h
 h1:w.h<=1000000
theorem other(h1:0<=a)(c:a<m)(o:0<=b)(s:b<m-1):0<=(a+1+b)%m/\(a+1+b)%m<m/\(a+1+b)%m≠a:=by
 by_cases h:a+1+b<m;.rw[Int.emod_eq_of_lt (by omega) h];omega
 . have e:(a+1+b)%m=a+1+b-m:=by rw[<-Int.sub_emod_right,Int.emod_eq_of_lt (by omega) (by omega)]
   rw[e];omega
def aN(m:Int)(ws:List Wy):D:=.tup [.int m,.tup (ws.map Wy.d)]
structure bL(m:Int)(ws:List Wy):Prop where
 m0:2<=m
 m1:m<=6
 len:ws.length<=12
 ok:∀w∈ws,w.Ok m
@[simp]theorem aeu{m:Int}{ws:List Wy}:Dn (aN m ws) (.int 0)=some (.val (.int m)):=rfl
@[simp]theorem ae3{m:Int}{ws:List Wy}:Dn (aN m ws) (.int 1)=some (.val (.tup (ws.map Wy.d))):=rfl
def fj(j:Nat)(f:Bool):D:=.tup [.int j,.bl f]
def frm(v:Wy)(f:Bool):Int:=if f then v.s else v.t
def too(v:Wy)(f:Bool):Int:=if f then v.t else v.s
theorem km(e:ws[j]?=some v)(k:Q (.val (.tup [.int (frm v f),.int (too v f)])) [.val false (aN m ws),.val false (fj j f)]):(run Γ w (n+1) 0 [.val false (aN m ws),.val false (fj j f)]).sat Q:=by refine aO (d:=f0) rfl rfl (by decide) ?_;symm;simp[f0,fj,dX e];apply ak;cases f with|true=>simp[Wy.d];exact k|false=>simp[Wy.d];exact k
def hsp(v:Wy)(f:Bool):Int:=if f then v.h else-v.h
theorem sr(e:ws[j]?=some v)(k:Q (.val (.int (hsp v f))) [.val false (aN m ws),.val false (fj j f)]):(run Γ w (n+1) 1 [.val false (aN m ws),.val false (fj j f)]).sat Q:=by refine aO (d:=f1) rfl rfl (by decide) ?_;symm;simp[f1,fj,dX e,Wy.d];apply ak;cases f with|true=>simp;exact k|false=>simp;exact k
def Yl(s:Sl)(fs:List Int):Prop:=s=.val false (.lst (fs.map D.int))\/∃b,s=.own b (fs.map D.int)
def oF(v:Wy)(g:Int)(f:Bool):Int:=if f then v.r-g else g
theorem tQ{s:Sl}{fs:List Int}(hs:Yl s fs)(e:ws[j]?=some v)(c:fs[j]?=some g)(k:Q (.val (.int (oF v g f))) [.val false (aN m ws),s,.val false (fj j f)]):(run Γ w (n+1) 2 [.val false (aN m ws),s,.val false (fj j f)]).sat Q:=by refine aO (d:=f2) rfl rfl (by decide) ?_;symm;rcases hs with rfl|⟨b,rfl⟩;all_goals simp[f2,fj,dX c];apply ak;cases f with|true=>simp[dX e,Wy.d];exact k|false=>simp;exact k
@[simp]theorem aaz{c:Call}{n x k:Nat}{src s:P}{is:List Nat}{one:Bool}{ρ:List Sl}:ex c n (.JN x src k is one s) ρ=(srcOf (isVar src) (ev c src) ρ).bind λA e=>if A.length<=lim then(gf is one (ev c s) A [] (e++replicate k .aW)).bind λt o=>(lift (put (bj ρ (isVar src) (o.take e.length)) x (.hold t)) ρ).bind λy _=>.ok .next y else .stuck:=(rfl)
@[simp]theorem Z0{c:Call}{n:Nat}{src:P}{is:List Nat}{one:Bool}{body:List S}{ρ:List Sl}:ex c n (.Em src is one body) ρ=(ev c src ρ).bind λr e=>(lift (items r.d) e).bind λo e=>iw is one (iu c n body) o e:=(rfl)
@[simp]theorem acn{c:Call}{n x:Nat}{ρ:List Sl}:ex c n (.dh x) ρ=match ρ[x]?with|some (.hold e)=>.ok .next (ρ.set x (.val false (.lst (e.map D.lst))))|_=>.stuck:=(rfl)
@[simp]theorem aaO{c:Call}{n x:Nat}{i e:P}{ρ:List Sl}:ex c n (.JP x i e) ρ=(cH (isVar i) (ev c i) ρ).bind λk ρ=>(lift (uM ρ x k) ρ).bind λ_ ρ=>(ev c e ρ).bind λr ρ=>CJ ρ x ((iV ρ x).bind λo=>(gF k).bind λk=>jt o k λrow=>if row.length<lim then some (row++[r.d])else none):=(rfl)
@[simp]theorem aai{a:Sl}{l:List Sl}{x:Nat}:iV (a::l) x=match(a::l)[x]?with|some (.hold c)=>some c|_=>none:=rfl
@[simp]theorem VR{ρ:List Sl}{x:Nat}{c:List (List D)}:CJ ρ x (some c)=.ok .next (ρ.set x (.hold c)):=rfl
@[simp]theorem adL{a:Sl}{l:List Sl}{x:Nat}{k:Int}:uM (a::l) x (.int k)=match(a::l)[x]?with|some (.hold c)=>rowAt c k|_=>none:=by unfold uM iV;cases h:(a::l)[x]?with|none=>rfl|some s=>cases s<;>rfl
theorem rB{is:List Nat}{one:Bool}{s:Ev}(J:List Sl->Prop)(g:D->List D){Q:List (List D)->List Sl->Prop}:∀{y:List D}{c:List (List D)}{ρ:List Sl},J ρ->(∀d,d∈y->∀ρ,J ρ->∃o,cP ρ is one d=some o/\(s o).sat λr t=>r=.own (g d)/\J t)->(∀ρ,J ρ->Q (c++y.map g) ρ)->(gf is one s y c ρ).sat Q|[],c,ρ,j,h,k=>by rw[Gw];simpa using k ρ j|d::r,c,ρ,j,h,k=>by obtain⟨o,e,h1⟩:=h d (by simp) ρ j;rw[G9,e];show((s o).bind _).sat Q;rw[cA];refine h1.imp λx t⟨C,j3⟩=>?_;subst C;exact rB J g j3 (λd' A=>h d' (by simp[A])) λB E=>by simpa using k B E
@[simp]theorem abm{c:Call}{x:Nat}{k:P}{ρ:List Sl}:ev c (.PX x k) ρ=match ρ[x]?with
 |some (.di _)=>(cH (isVar k) (ev c k) ρ).bind λe ρ=>match ρ[x]?with|some (.di kvs)=>lift ((gF e).bind λk=>(kW kvs k).map .val) ρ|_=>.stuck
 |_=>.stuck:=(rfl)
def rG(kvs:List (Int×D))(k:Int):Bool:=(kvs.map (·.1)).contains k
def J1(kvs:List (Int×D)):List Int:=kvs.map (·.1)
def dsV(kvs:List (Int×D)):List D:=kvs.map (·.2)
@[simp]theorem acq{c:Call}{x:Nat}{k:P}{neg:Bool}{ρ:List Sl}:ev c (.P0 x k neg) ρ=(cH (isVar k) (ev c k) ρ).bind λe ρ=>match ρ[x]?with|some (.di kvs)=>lift ((gF e).map λk=>.val (.bl (if neg then !rG kvs k else rG kvs k))) ρ|_=>.stuck:=(rfl)
@[simp]theorem Z5{c:Call}{k e:Int}{ρ:List Sl}:ev c (.zU k e) ρ=.ok (.val (.dv [k] [.int e])) ρ:=(rfl)
@[simp]theorem aeV{c:Call}{x:Nat}{ρ:List Sl}:ev c (.vw x) ρ=match ρ[x]?with|some (.gA m)=>.ok (.val (.dq m)) (ρ.set x (.val false (.dq m)))|some (.di kvs)=>.ok (.val (.dv (J1 kvs) (dsV kvs))) (ρ.set x (.val false (.dv (J1 kvs) (dsV kvs))))|some (.own b e)=>.ok (.val (.lst e)) (ρ.set x (.val b (.lst e)))|some (.val _ d)=>.ok (.val d) ρ|_=>.stuck:=(rfl)
@[simp]theorem aaS{c:Call}{n x:Nat}{ρ:List Sl}:ex c n (.Eo x) ρ=match ρ[x]?with|some .aW=>.ok .next (ρ.set x (.di []))|some (.di _)=>.ok .next (ρ.set x (.di []))|some (.val false _)=>.ok .next (ρ.set x (.di []))|_=>.stuck:=(rfl)
@[simp]theorem Z2{c:Call}{n x:Nat}{k e:P}{ρ:List Sl}:ex c n (.gD x k e) ρ=(ev c e ρ).bind λr ρ=>match ρ[x]?with
 |some (.di _)=>(cH (isVar k) (ev c k) ρ).bind λo ρ=>match ρ[x]?,o with|some (.di kvs),.int k=>if kvs.length<lim then .ok .next (ρ.set x (.di (gD kvs k r.d)))else .stuck|_,_=>.stuck
 |_=>.stuck:=(rfl)
@[simp]theorem ZW{c:Call}{n x:Nat}{i e:P}{sub:Bool}{ρ:List Sl}:ex c n (.JM x i sub e) ρ=(lift (BW ρ x) ρ).bind λ_ ρ=>(cH (isVar i) (ev c i) ρ).bind λk ρ=>(lift (BW ρ x) ρ).bind λl ρ=>(lift ((gF k).bind λi=>at' l i) ρ).bind λa ρ=>(cH (isVar e) (ev c e) ρ).bind λb ρ=>match a,b,ρ[x]?,k with
 |.int u,.int v,some (.own s o),.int k=>match iW o.length k with|some j=>.ok .next (ρ.set x (.own s (o.set j (.int (if sub then u-v else u+v)))))|none=>.stuck
 |_,_,_,_=>.stuck:=(rfl)
@[simp]theorem Vm{x:Nat}{k:P}:isVar (.PX x k)=none:=rfl
@[simp]theorem V8{x:Nat}{k:P}{b:Bool}:isVar (.P0 x k b)=none:=rfl
@[simp]theorem XJ{x:Nat}:isVar (.vw x)=none:=rfl
@[simp]theorem Ry{k e:Int}:isVar (.zU k e)=none:=rfl
@[simp]theorem acN{kvs:List (Int×D)}:fr (.di kvs)=false:=rfl
@[simp]theorem aam{r:List (List D)}:fr (.hold r)=false:=rfl
@[simp]theorem Yq:rM .Ej=Be:=rfl
@[simp]theorem aaU:rM .din=wD false:=rfl
@[simp]theorem Xv{ks:List Int}{c:List D}{k:Int}:Be (.dv ks c) (.int k)=(kW (ks.zip c) k).map .val:=rfl
@[simp]theorem ZF{ks:List Int}{c:List D}{k:Int}:wD false (.int k) (.dv ks c)=some (.val (.bl (ks.contains k))):=rfl
@[simp]theorem VM{ks:List Int}{c:List D}:blt .keys [.dv ks c]=some (.val (.tup (ks.map D.int))):=rfl
@[simp]theorem aar{ks:List Int}{c:List D}:blt .Wn [.dv ks c]=if ks.length<=16777216 then some (.own (ks.map D.int))else none:=rfl
@[simp]theorem aav{c:List D}:blt .rvT [.lst c]=some (.val (.tup c.reverse)):=rfl
@[simp]theorem V3{kvs:List (Int×D)}{x:Option Sl}:dJ (.di kvs) x=.di kvs:=by cases x<;>rfl
@[simp]theorem SJ{r:List (List D)}{x:Option Sl}:dJ (.hold r) x=.hold r:=by cases x<;>rfl
structure HN(m:Int)(ws:List Wy):Prop where
 m0:2<=m
 m1:m<=6
 len:ws.length<=12
 ok:∀w∈ws,(0<=w.s/\w.s<m)/\(0<=w.t/\w.t<m)/\0<=w.h
theorem HN.of(h:bL m ws):HN m ws:=⟨h.m0,h.m1,h.len,λw c=>by have:=h.ok w c;exact⟨⟨this.s0,this.s1⟩,⟨this.t0,this.t1⟩,by have:=this.h0;omega⟩⟩
abbrev az:=Nat×Bool
variable{s:az}{x:Nat×(Option az×Int)}{o:Option az×Int}{c:List az}{cs cs':List (List az×Int)}
def sD(s:az):D:=fj s.1 s.2
def jG(ws:List Wy)(fs:List Int)(p:Int)(s:az):Bool:=match ws[s.1]?,fs[s.1]?with|some v,some g=>decide (frm v s.2=p)&&decide (0<oF v g s.2)|_,_=>false
theorem m9{fs:List Int}(e:ws[s.1]?=some v)(t:fs[s.1]?=some g):jG ws fs p s=(decide (frm v s.2=p)&&decide (0<oF v g s.2)):=by unfold jG;rw[e,t]
def jf(ws:List Wy)(fs:List Int)(M:Nat)(l:List az):List (List az):=(List.range M).map λ(p:Nat)=>l.filter (jG ws fs (p:Int))
def rD(l:List (List az)):List (List D):=l.map λr=>r.map sD
def gM(N:Nat):List az:=(List.range N).flatMap λj=>[(j,true),(j,false)]
theorem tu:gM (N+1)=(gM N++[(N,true)])++[(N,false)]:=by simp[gM,range_succ]
theorem vW:(gM N).length=2*N:=by induction N with|zero=>rfl|succ N e=>rw[tu];simp[e];omega
theorem Qo(h:HN m ws)(e:ws[j]?=some v)(f:Bool):0<=frm v f/\frm v f<m:=by have:=h.ok v (mem_of_getElem? e);cases f<;>simp only[frm]<;>simp<;>omega
theorem Jd(h:HN m ws)(e:ws[j]?=some v)(f:Bool):0<=too v f/\too v f<m:=by have:=h.ok v (mem_of_getElem? e);cases f<;>simp only[too]<;>simp<;>omega
theorem GJ{fs:List Int}{M:Nat}{l:List az}(e:ws[s.1]?=some v)(t:fs[s.1]?=some g)(h:¬ 0<oF v g s.2):jf ws fs M (l++[s])=jf ws fs M l:=by unfold jf;refine map_congr_left λp _=>?_;rw[List.filter_append];simp[m9 e t,h]
theorem Kr{fs:List Int}{l:List az}(e:ws[s.1]?=some v)(y:fs[s.1]?=some g)(h:0<oF v g s.2)(A:0<=frm v s.2/\frm v s.2<m)(G:l.length<1000):(∃row,rowAt (rD (jf ws fs m.toNat l)) (frm v s.2)=some row)/\jt (rD (jf ws fs m.toNat l)) (frm v s.2) (λrow=>if row.length<lim then some (row++[sD s])else none)=some (rD (jf ws fs m.toNat (l++[s]))):=by
 have t:(rD (jf ws fs m.toNat l)).length=m.toNat:=by simp[rD,jf]
 have B:iW (rD (jf ws fs m.toNat l)).length (frm v s.2)=some (frm v s.2).toNat:=by unfold iW;rw[t,if_pos A.1,if_pos (by omega)]
 have C:(rD (jf ws fs m.toNat l))[(frm v s.2).toNat]?=some ((l.filter (jG ws fs (frm v s.2))).map sD):=by simp[rD,jf,show(frm v s.2).toNat<m.toNat by omega,Int.toNat_of_nonneg A.1]
 refine⟨⟨_,by unfold rowAt;rw[B];exact C⟩,?_⟩;unfold jt;rw[B];show((rD (jf ws fs m.toNat l))[(frm v s.2).toNat]?).bind _=_;rw[C];have E:((l.filter (jG ws fs (frm v s.2))).map sD).length<lim:=by have:=List.length_filter_le (jG ws fs (frm v s.2)) l;rw[length_map];show _<16777216;omega
 show Option.map _ (if _ then _ else _)=_;rw[if_pos E];show some _=some _;congr 1;refine ext_getElem (by simp[rD,jf]) λi H I=>?_;rw[List.getElem_set];by_cases c:(frm v s.2).toNat=i
 . rw[if_pos c];have:(i:Int)=frm v s.2:=by omega
   simp[rD,jf,this,List.filter_append,m9 e y,h]
 . rw[if_neg c];have:¬ frm v s.2=(i:Int):=by omega
   simp[rD,jf,List.filter_append,m9 e y,this]
inductive JOp(m:Int)(ws:List Wy)(fs:List Int)(s:Sl)(i:Nat)(ρ:List Sl):Prop where|mk(s3 s4:Sl)(q0:ρ=[.val false (aN m ws),s,.hold (rD (jf ws fs m.toNat (gM i))),s3,s4])(q1:fr s3=true)(q2:fr s4=true)
inductive JOq(m:Int)(ws:List Wy)(fs:List Int)(s:Sl)(i:Nat)(r:List D)(ρ:List Sl):Prop where|mk(l us:List az)(s4:Sl)(q0:ρ=[.val false (aN m ws),s,.hold (rD (jf ws fs m.toNat l)),.val false (.int i),s4])(q1:fr s4=true)(q2:r=us.map sD)(q3:l++us=gM (i+1))(q4:∀u∈us,u.1=i)
inductive F1n(a b c d e:Sl)(ρ:List Sl):Prop where|mk(s:Sl)(q0:ρ=[a,b,c,d,e,s])(q1:fr s=true)
theorem Ie{s:Sl}{fs:List Int}(hs:Yl s fs)(h:HN m ws)(W:fs.length=ws.length)(k:Q (.val (.lst ((rD (jf ws fs m.toNat (gM ws.length))).map D.lst))) [.val false (aN m ws),s]):(run Γ w (n+2) 4 [.val false (aN m ws),s]).sat Q:=by
 have X:=h.len;have m0:=h.m0;have m1:=h.m1;refine aO (d:=f4) rfl rfl (by decide) ?_;refine fO (λρ=>ρ=[.val false (aN m ws),s,.hold (rD (jf ws fs m.toNat (gM 0))),.aW,.aW]) ?_ ?_
 . simp[f4,show m<=1000000000 by omega,show-1000000000<=m by omega];refine⟨λ_=>?_,by omega⟩;rw[cA];refine rB (F1n _ _ _ _ _) (λ_=>[]) ⟨.aW,rfl,rfl⟩ ?_ ?_;.rintro d hd _⟨L,rfl,t⟩;simp[t];exact⟨_,rfl,rfl⟩
   .rintro _⟨L,rfl,t⟩;simp[rD,jf,gM]
 rintro _ rfl;refine fO (JOp m ws fs s ws.length) ?_ ?_
 . simp[show(ws.length:Int)<=1000000000 by omega];refine qp (JOp m ws fs s) ?_ ?_ ⟨.aW,.aW,rfl,rfl,rfl⟩
   . rintro i _ hi⟨s3,s4,rfl,C,e⟩;have G:i<fs.length:=by omega
     have y:ws[i]?=some ws[i]:=by simp[hi]
     have H:fs[i]?=some fs[i]:=by simp[G]
     generalize ws[i]=v at*;generalize fs[i]=g at*;simp[C];apply ak;simp;refine cL (JOq m ws fs s i) ?_ ?_ ⟨gM i,[(i,true),(i,false)],s4,rfl,e,rfl,by rw[tu];simp,by simp⟩;.rintro d r _⟨l,us,s4,rfl,e,hr,A,E⟩;cases us with|nil=>cases hr|cons u us=>
         obtain⟨rfl,rfl⟩:d=sD u/\r=us.map sD:=by simpa using hr
         obtain rfl:=E u (by simp);have B:(l++[u])++us=gM (u.1+1):=by rw[append_assoc];exact A
         have I:l.length<1000:=by have:=congrArg List.length A;rw[vW]at this;simp at this;omega
         simp[e];apply ak;rcases hs with rfl|⟨b,rfl⟩;all_goals
          simp[sD];refine tQ (by first|exact .inl rfl|exact .inr ⟨_,rfl⟩) y H ?_;simp;refine⟨λho=>?_,λho=>?_⟩;.obtain⟨⟨row,M⟩,O⟩:=Kr (ws:=ws) (fs:=fs) (l:=l) y H ho (Qo h y u.2) I;symm;simp;refine km y ?_;simp[M];have U:jt (rD (jf ws fs m.toNat l)) (frm v u.2) (λrow=>if row.length<lim then some (row++[fj u.1 u.2])else none)=_:=O;rw[U];simp;exact⟨l++[u],us,_,rfl,rfl,rfl,B,λx J=>E x (by simp[J])⟩
          .exact⟨l++[u],us,_,by rw[GJ y H (by omega)],rfl,rfl,B,λx J=>E x (by simp[J])⟩
     . rintro _⟨l,us,s4,rfl,e,hr,A,E⟩;have:us=[]:=by cases us with|nil=>rfl|cons _ _=>cases hr
       subst this;rw[append_nil]at A;subst A;simp;exact⟨_,_,rfl,rfl,e⟩
   .rintro _⟨s3,s4,rfl,C,e⟩;exact⟨rfl,_,_,rfl,C,e⟩
 rintro _⟨s3,s4,rfl,C,e⟩;symm;simp;apply ak;simp;exact k
abbrev En:=Int×Nat×(Option az×Int)
variable{es ue:List En}
def oS:Option az->D|none=>.non|some s=>sD s
def By(e:En):D:=.tup [.int e.2.2.2,.int (e.2.1:Int),oS e.2.2.1]
def en(e:En):Int×D:=(e.1,By e)
def lG(es:List En):D:=.dv (es.map (·.1)) (es.map By)
def zO(p:Int):Int×D:=(p,.bl true)
@[simp]theorem Td{l:List Int}:J1 (l.map zO)=l:=by simp[J1,zO,Function.comp_def]
theorem yK{l:List En}:J1 (l.map en)=l.map (·.1):=by simp[J1,en,Function.comp_def]
theorem zT{l:List En}:rG (l.map en) p=true↔∃n o,(p,n,o)∈l:=by show(J1 (l.map en)).contains p=true↔_;rw[yK];simp
theorem kin_no{l:List En}(h:¬ ∃n o,(p,n,o)∈l):rG (l.map en) p=false:=by cases e:rG (l.map en) p with|false=>rfl|true=>exact absurd (zT.mp e) h
theorem uw{A:Type}{p:Int}{x y:A}:∀{l:List (Int×A)},(l.map (·.1)).Nodup->(p,x)∈l->(p,y)∈l->x=y
 |[],_,h,_=>by cases h|e::l,t,h1,h2=>by
   rw[map_cons,nodup_cons]at t;rcases mem_cons.mp h1 with h1|h1<;>rcases mem_cons.mp h2 with h2|h2;.rw[<-h2]at h1;cases h1;rfl
   .exact absurd (mem_map.mpr ⟨_,h2,by rw[<-h1]⟩) t.1
   .exact absurd (mem_map.mpr ⟨_,h1,by rw[<-h2]⟩) t.1
   .exact uw t.2 h1 h2
theorem oV{p:Int}{x:Nat×(Option az×Int)}:∀{l:List En},(l.map (·.1)).Nodup->(p,x)∈l->kW (l.map en) p=some (By (p,x))
 |[],_,h=>by cases h|e::l,t,h=>by
   have A:=t;rw[map_cons,nodup_cons]at t;unfold kW;rw[map_cons,find?_cons];by_cases c:e.1=p;.obtain⟨q,y⟩:=e;cases c;have:=uw A h (by simp:(q,y)∈(q,y)::l);subst this;simp[en]
   . have h':(p,x)∈l:=by
      rcases mem_cons.mp h with h|h;.exact absurd (by rw[<-h]) c
      .exact h
     simp[en,c];have:=oV t.2 h';unfold kW at this;simpa[en]using this
theorem pZ{kvs:List (Int×D)}{d:D}(h:rG kvs p=false):gD kvs p d=kvs++[(p,d)]:=by
 unfold gD;rw[if_neg];intro t;obtain⟨x,y,e⟩:=any_eq_true.mp t;have:rG kvs p=true:=by show(kvs.map (·.1)).contains p=true;rw[contains_iff_mem];exact mem_map.mpr ⟨x,y,by simpa using e⟩
 rw[this]at h;cases h
theorem xO{kvs:List (Int×D)}{d:D}(h:rG kvs p=true):gD kvs p d=kvs.map λe=>if e.1=p then(p,d)else e:=by
 unfold gD;rw[if_pos]
 . refine map_congr_left λe _=>?_;by_cases c:e.1=p;.simp[c]
   .simp[c]
 .have h':(kvs.map (·.1)).contains p=true:=h;rw[contains_iff_mem]at h';obtain⟨x,t,e⟩:=mem_map.mp h';exact any_eq_true.mpr ⟨x,t,by simpa using e⟩
def v8(p:Int)(x:Nat×(Option az×Int))(e:En):En:=if e.1=p then(p,x)else e
def oE(es:List En)(p:Int)(x:Nat×(Option az×Int)):List En:=if p∈es.map (·.1)then es.map (v8 p x)else es++[(p,x)]
def pJ(ch:List Int)(p:Int):List Int:=if p∈ch then ch else ch++[p]
theorem LC:gD (es.map en) p (By (p,x))=(oE es p x).map en:=by
 have t:rG (es.map en) p=true↔p∈es.map (·.1):=by show(J1 (es.map en)).contains p=true↔_;rw[yK,contains_iff_mem]
 unfold oE;by_cases c:p∈es.map (·.1)
 . rw[if_pos c,xO (t.mpr c),map_map,map_map];refine map_congr_left λe _=>?_;show(if e.1=p then _ else _)=en (v8 p x e);unfold v8;by_cases z:e.1=p;.rw[if_pos z,if_pos z];rfl
   .rw[if_neg z,if_neg z]
 .rw[if_neg c,pZ (by cases e:rG (es.map en) p with|false=>rfl|true=>exact absurd (t.mp e) c)];simp[en]
theorem K7:gD (ch.map zO) p (.bl true)=(pJ ch p).map zO:=by
 have t:rG (ch.map zO) p=true↔p∈ch:=by show(J1 (ch.map zO)).contains p=true↔_;rw[Td,contains_iff_mem]
 unfold pJ;by_cases c:p∈ch
 . rw[if_pos c,xO (t.mpr c),map_map];refine map_congr_left λe _=>?_;show(if e=p then _ else _)=zO e;by_cases z:e=p;.rw[if_pos z,z];rfl
   .rw[if_neg z]
 .rw[if_neg c,pZ (by cases e:rG (ch.map zO) p with|false=>rfl|true=>exact absurd (t.mp e) c)];simp[zO]
theorem xX{q:Int}:q∈pJ ch p↔q∈ch\/q=p:=by
 unfold pJ;split;.exact⟨.inl,λh=>h.elim id λe=>by rw[e];assumption⟩
 .simp
theorem BK(h:ch.Nodup):(pJ ch p).Nodup:=by
 unfold pJ;split;.exact h
 .rename_i t;rw[nodup_append];exact⟨h,by simp,λa y b A e=>t (by rw[<-mem_singleton.mp A,<-e];exact y)⟩
theorem Ea:(oE es p x).map (·.1)=pJ (es.map (·.1)) p:=by
 unfold oE pJ;split
 . rw[map_map];refine map_congr_left λe _=>?_;show(v8 p x e).1=e.1;unfold v8;split;.rename_i h;exact h.symm
   .rfl
 .simp
theorem gk{q:Int}{y:Nat×(Option az×Int)}:(q,y)∈oE es p x↔(q=p/\y=x)\/(q≠p/\(q,y)∈es):=by
 unfold oE;split
 . rename_i t;obtain⟨G,A,B⟩:=mem_map.mp t;rw[mem_map];constructor
   . rintro⟨e,he,h⟩;unfold v8 at h;split at h;.cases h;exact .inl ⟨rfl,rfl⟩
     .rename_i C;subst h;exact .inr ⟨C,he⟩
   . rintro(⟨rfl,rfl⟩|⟨h1,E⟩);.exact⟨G,A,by unfold v8;rw[if_pos B]⟩
     .exact⟨_,E,by unfold v8;rw[if_neg h1]⟩
 . rename_i t;rw[mem_append,mem_singleton];constructor
   . rintro(h|h);.refine .inr ⟨λe=>t ?_,h⟩;rw[<-e];exact mem_map.mpr ⟨_,h,rfl⟩
     .cases h;exact .inl ⟨rfl,rfl⟩
   . rintro(⟨rfl,rfl⟩|⟨_,E⟩);.exact .inr rfl
     .exact .inl E
theorem ig{t:Type}[BEq t][LawfulBEq t]:∀{l l2:List t},l.Nodup->(∀a∈l,a∈l2)->l.length<=l2.length
 |[],_,_,_=>n8|a::l,l2,C,hs=>by
   have A:=hs a (by simp);have e:=nodup_cons.mp C;have:=ig (l:=l) (l2:=l2.erase a) e.2 λb B=>by
    have y:b≠a:=by rintro rfl;exact e.1 B
    exact(List.mem_erase_of_ne y).mpr (hs b (by simp[B]))
   rw[List.length_erase_of_mem A]at this;have:=List.length_pos_of_mem A;simp only[length_cons];omega
theorem six{l:List Int}(m1:m<=6)(e:l.Nodup)(h:∀p∈l,0<=p/\p<m):l.length<=6:=by
 have:=ig (l2:=[0,1,2,3,4,5]) e λq t=>by
  have:=h q t;have:q=0\/q=1\/q=2\/q=3\/q=4\/q=5:=by omega
  simpa using this
 simpa using this
theorem qw{fs:List Int}(h:jG ws fs p s=true):∃v g,ws[s.1]?=some v/\fs[s.1]?=some g/\frm v s.2=p/\0<oF v g s.2:=by
 unfold jG at h;split at h;.rename_i v g e t;simp at h;exact⟨v,g,e,t,h.1,h.2⟩
 .cases h
theorem xZ(h:s.1<N):s∈gM N:=by unfold gM;rw[mem_flatMap];refine⟨s.1,by simp[h],?_⟩;obtain⟨j,f⟩:=s;cases f<;>simp
def gW(ws:List Wy)(b:Int):List az->Int->Prop|[],a=>a=b|s::c,a=>∃v,ws[s.1]?=some v/\frm v s.2=a/\gW ws b c (too v s.2)
def hst(ws:List Wy)(s:az):Int:=match ws[s.1]?with|some v=>hsp v s.2|none=>0
theorem dC(e:ws[s.1]?=some v):hst ws s=hsp v s.2:=by unfold hst;rw[e]
def bU(ws:List Wy):List az->Int|[]=>0|s::c=>hst ws s+bU ws c
theorem jJ{ws:List Wy}{c2:List az}:∀{c1:List az},bU ws (c1++c2)=bU ws c1+bU ws c2|[]=>by simp[bU]|s::c=>by rw[cons_append,bU,jJ,bU];omega
def tU(ws:List Wy)(fs:List Int)(c:List az):Prop:=∀s∈c,∃v,ws[s.1]?=some v/\jG ws fs (frm v s.2) s=true
theorem gW.app{ws:List Wy}{b q:Int}{c2:List az}(t:gW ws b c2 q):∀{c1:List az}{a:Int},gW ws q c1 a->gW ws b (c1++c2) a|[],a,h=>by have:a=q:=h;rw[this];exact t|s::c,a,⟨v,e,y,h⟩=>⟨v,e,y,gW.app t h⟩
theorem Ad{ws:List Wy}{b:Int}{c2:List az}:∀{c1:List az}{a:Int},gW ws b (c1++c2) a->∃q,gW ws q c1 a/\gW ws b c2 q|[],a,h=>⟨a,rfl,h⟩|s::c,a,⟨v,e,t,h⟩=>by obtain⟨q,h1,y⟩:=Ad (c1:=c) h;exact⟨q,⟨v,e,t,h1⟩,y⟩
def Pt(ws:List Wy)(fs:List Int)(F:Int->Int):Prop:=∀(s:az)(v:Wy),ws[s.1]?=some v->jG ws fs (frm v s.2) s=true->F (too v s.2)<=F (frm v s.2)+hsp v s.2
theorem nu{ws:List Wy}{fs:List Int}{F:Int->Int}(h:Pt ws fs F){b:Int}:∀{c:List az}{a:Int},gW ws b c a->tU ws fs c->F b<=F a+bU ws c|[],a,t,_=>by have:a=b:=t;rw[this,bU];omega|s::c,a,⟨v,e,A,t⟩,ho=>by have h1:=nu h t λu B=>ho u (mem_cons_of_mem _ B);obtain⟨E,y,o⟩:=ho s (by simp);rw[e]at y;cases y;have C:=h s v e o;rw[A]at C;rw[bU,dC e];omega
def iT(ws:List Wy)(s:az):Int:=match ws[s.1]?with|some v=>too v s.2|none=>0
def nZ(ws:List Wy):List az->Int->List Int|[],a=>[a]|s::c,a=>a::nZ ws c (iT ws s)
theorem u0{ws:List Wy}:∀{c:List az}{a:Int},(nZ ws c a).length=c.length+1|[],_=>rfl|s::c,a=>by rw[nZ,length_cons,u0];rfl
theorem zq{m:Int}{ws:List Wy}{b:Int}(y:HN m ws):∀{c:List az}{a:Int},gW ws b c a->0<=a/\a<m->∀q∈nZ ws c a,0<=q/\q<m
 |[],a,_,t,q,hq=>by rw[nZ,mem_singleton]at hq;rw[hq];exact t|s::c,a,⟨v,e,B,A⟩,t,q,hq=>by
   rw[nZ,mem_cons]at hq;rcases hq with rfl|hq;.exact t
   . have:iT ws s=too v s.2:=by unfold iT;rw[e]
     rw[this]at hq;exact zq y A (Jd y e s.2) q hq
theorem Bc{ws:List Wy}{b q:Int}:∀{c:List az}{a:Int},gW ws b c a->q∈nZ ws c a->∃c1 c2,c=c1++c2/\gW ws q c1 a/\gW ws b c2 q
 |[],a,h,hq=>by rw[nZ,mem_singleton]at hq;exact⟨[],[],rfl,hq.symm,by rw[hq];exact h⟩|s::c,a,h,hq=>by
   rw[nZ,mem_cons]at hq;rcases hq with rfl|hq;.exact⟨[],s::c,rfl,rfl,h⟩
   . obtain⟨v,e,t,y⟩:=h;have:iT ws s=too v s.2:=by unfold iT;rw[e]
     rw[this]at hq;obtain⟨c1,c2,rfl,h1,A⟩:=Bc y hq;exact⟨s::c1,c2,rfl,⟨v,e,t,h1⟩,A⟩
theorem Bm{ws:List Wy}{b:Int}:∀{c:List az}{a:Int},gW ws b c a->¬(nZ ws c a).Nodup->∃c1 c2 c3 q,c=c1++(c2++c3)/\0<c2.length/\gW ws q c1 a/\gW ws q c2 q/\gW ws b c3 q
 |[],a,_,t=>absurd (by simp[nZ]) t|s::c,a,⟨v,e,A,B⟩,t=>by
   have E:iT ws s=too v s.2:=by unfold iT;rw[e]
   rw[nZ,E,nodup_cons]at t;by_cases C:a∈nZ ws c (too v s.2);.obtain⟨c1,c2,rfl,h1,y⟩:=Bc B C;exact⟨[],s::c1,c2,a,rfl,by simp,rfl,⟨v,e,A,h1⟩,y⟩
   .obtain⟨c1,c2,c3,q,rfl,h0,h1,y,G⟩:=Bm B λz=>t ⟨C,z⟩;exact⟨s::c1,c2,c3,q,rfl,h0,⟨v,e,A,h1⟩,y,G⟩
def Le(h:Int)(n:Nat)(h':Int)(e:Nat):Prop:=h<h'\/(h=h'/\n<=e)
theorem Le.refl:Le h n h n:=.inr ⟨rfl,cO⟩
theorem Le.trans{c:Int}{k:Nat}(h1:Le a k b l)(e:Le b l c n):Le a k c n:=by unfold Le at*;omega
theorem Le.add{k:Nat}(x:Int)(h1:Le a k b l):Le (a+x) (k+1) (b+x) (l+1):=by unfold Le at*;omega
theorem short{fs:List Int}(B:HN m ws)(h:Pt ws fs F)(C:0<=a/\a<m):∀(n:Nat){c:List az},c.length<=n->gW ws b c a->tU ws fs c->∃e,gW ws b e a/\tU ws fs e/\e.length<=5/\Le (bU ws e) e.length (bU ws c) c.length/\(nZ ws e a).Nodup:=by
 intro n;have done:∀{c:List az},gW ws b c a->(nZ ws c a).Nodup->c.length<=5:=λt y=>by have:=six B.m1 y (zq B t C);rw[u0]at this;omega
 induction n with|zero=>intro c hc t ho;have:c=[]:=List.eq_nil_of_length_eq_zero (by omega);subst this;exact⟨[],t,ho,by simp,.refl,by simp[nZ]⟩|succ n E=>
   intro c hc t ho;by_cases y:(nZ ws c a).Nodup;.exact⟨c,t,ho,done t y,.refl,y⟩
   .obtain⟨c1,c2,c3,q,rfl,h0,h1,G,H⟩:=Bm t y;have A:tU ws fs c2:=λs hs=>ho s (by simp[hs]);have hr:=nu h G A;simp only[length_append]at hc;obtain⟨e,I,J,L,M,O⟩:=E (c:=c1++c3) (by simp only[length_append];omega) (gW.app H h1) λs hs=>ho s (by rcases mem_append.mp hs with hs|hs<;>simp[hs]);refine⟨e,I,J,L,M.trans ?_,O⟩;rw[jJ,jJ,jJ];simp only[length_append];unfold Le;omega
structure Dm(m:Int)(ws:List Wy)(fs:List Int)(bs:List (Int×Int))(es:List En):Prop where
 nd:(es.map (·.1)).Nodup
 Zm:∀p l o,(p,l,o)∈es->0<=p/\p<m
 z:(0,0,(none,0))∈es
 wk:∀p l o,(p,l,o)∈es->∃a b c,(a,b)∈bs/\gW ws p c a/\tU ws fs c/\c.length=l/\b+bU ws c=o.2
 stp:∀p l o,(p,l,o)∈es->(o.1=none/\(p,o.2)∈bs/\l=0)\/∃(s:az)(v:Wy)(l':Nat)(o':Option az×Int),o.1=some s/\ws[s.1]?=some v/\too v s.2=p/\jG ws fs (frm v s.2) s=true/\(frm v s.2,l',o')∈es/\Le (o'.2+hsp v s.2) (l'+1) o.2 l
theorem Dm.len{fs:List Int}{bs:List (Int×Int)}(h:Dm m ws fs bs es)(m1:m<=6):es.length<=6:=by
 have:=six m1 h.nd λp e=>by obtain⟨⟨p,l,o⟩,he,rfl⟩:=mem_map.mp e;exact h.Zm p l o he
 simpa using this
theorem jB{l:List En}{a b:Nat}{u:Option az×Int}(e:(l.map (·.1)).Nodup)(h1:(p,a,o)∈l)(t:(p,b,u)∈l):a=b/\o=u:=by have:=uw e h1 t;cases this;exact⟨rfl,rfl⟩
def At(es:List En)(p h:Int)(n:Nat):Prop:=∃l o,(p,l,o)∈es/\Le o.2 l h n
theorem At.le{h':Int}{e:Nat}(a:At es p h n)(z:Le h n h' e):At es p h' e:=by obtain⟨l,o,h1,t⟩:=a;exact⟨l,o,h1,t.trans z⟩
structure Wh(m:Int)(ws:List Wy)(fs:List Int)(bs:List (Int×Int))(n:Nat)(R:List Int)(es:List En):Prop where
 cm:Dm m ws fs bs es
 row:∀p∈R,∃l o,(p,l,o)∈es
 nr:R.Nodup
 wl:∀a b c p,(a,b)∈bs->gW ws p c a->tU ws fs c->c.length<=n->At es p (b+bU ws c) c.length
 cl:∀l o(s:az)v,ws[s.1]?=some v->frm v s.2∉R->(frm v s.2,l,o)∈es->jG ws fs (frm v s.2) s=true->At es (too v s.2) (o.2+hsp v s.2) (l+1)few:6<=n->R=[]
structure In(m:Int)(ws:List Wy)(fs:List Int)(bs:List (Int×Int))(n:Nat)(R:List Int)(ue:List En)(K:az->Prop)(es:List En)(ch:List Int):Prop where
 wh:Wh m ws fs bs n R ue
 cm:Dm m ws fs bs es
 le:∀p l o,(p,l,o)∈ue->At es p o.2 l
 out:∀p l o,p∉ch->(p,l,o)∈es->(p,l,o)∈ue
 chg:∀p∈ch,∃l o,(p,l,o)∈es
 nc:ch.Nodup
 dn:∀s,K s->∀v,ws[s.1]?=some v->∀l o,(frm v s.2,l,o)∈ue->At es (too v s.2) (o.2+hsp v s.2) (l+1)few:5<=n->ch=[]
theorem In.row{m:Int}{ws:List Wy}{fs:List Int}{bs:List (Int×Int)}{n:Nat}{R:List Int}{ue:List En}{K:az->Prop}{es:List En}{ch:List Int}(h:In m ws fs bs n R ue K es ch){p:Int}(e:p∈R):∃l o,(p,l,o)∈es:=by obtain⟨l,o,z⟩:=h.wh.row p e;obtain⟨l,o,z,_⟩:=h.le _ _ _ z;exact⟨l,o,z⟩
theorem In.keep{fs:List Int}{bs:List (Int×Int)}{R:List Int}{K:az->Prop}(h:In m ws fs bs n R ue K es ch)(e:ws[s.1]?=some v)(A:(frm v s.2,l,o)∈es)(B:At es (too v s.2) (o.2+hsp v s.2) (l+1)):In m ws fs bs n R ue (λu=>K u\/u=s) es ch:=by
 refine⟨h.wh,h.cm,h.le,h.out,h.chg,h.nc,λu t=>?_,h.few⟩;rcases t with t|rfl;.exact h.dn u t
 .intro G y H I h0;rw[e]at y;cases y;obtain⟨J,L,C,E⟩:=h.le _ _ _ h0;obtain⟨rfl,rfl⟩:=jB h.cm.nd A C;exact B.le (E.add _)
theorem In.put{fs:List Int}{bs:List (Int×Int)}{R:List Int}{K:az->Prop}(h:In m ws fs bs n R ue K es ch)(L:HN m ws)(hF:Pt ws fs F)(hb:∀a b,(a,b)∈bs->0<=a/\a<m)(hZ:∀a b c,(a,b)∈bs->gW ws 0 c a->tU ws fs c->0<=b+bU ws c)(e:ws[s.1]?=some v)(M:(frm v s.2,l,o)∈es)(ho:jG ws fs (frm v s.2) s=true)(O:¬ At es (too v s.2) (o.2+hsp v s.2) (l+1)):In m ws fs bs n R ue (λu=>K u\/u=s) (oE es (too v s.2) (l+1,(some s,o.2+hsp v s.2))) (pJ ch (too v s.2)):=by
 have m0:=L.m0;obtain⟨E,b0,c,c0,c1,c2,c3,c4⟩:=h.cm.wk _ _ _ M;have H:gW ws (too v s.2) (c++[s]) E:=gW.app (c2:=[s]) ⟨v,e,rfl,rfl⟩ c1;have U:tU ws fs (c++[s]):=λu hu=>by
  rcases mem_append.mp hu with hu|hu;.exact c2 u hu
  .rw[mem_singleton.mp hu];exact⟨v,e,ho⟩
 have w3:(c++[s]).length=l+1:=by simp[c3]
 have W:b0+bU ws (c++[s])=o.2+hsp v s.2:=by rw[jJ,<-c4,bU,bU,dC e];omega
 have A:(too v s.2,l+1,(some s,o.2+hsp v s.2))∈oE es (too v s.2) (l+1,(some s,o.2+hsp v s.2)):=gk.mpr (.inl ⟨rfl,rfl⟩);have mono:∀{q l2 t},(q,l2,t)∈es->At (oE es (too v s.2) (l+1,(some s,o.2+hsp v s.2))) q t.2 l2:=λ{q l2 t}z=>by
  by_cases c:q=too v s.2;.subst c;refine⟨_,_,A,?_⟩;have:¬ Le t.2 l2 (o.2+hsp v s.2) (l+1):=λy=>O ⟨_,_,z,y⟩;unfold Le at this ⊢;simp only;omega
  .exact⟨l2,t,gk.mpr (.inr ⟨c,z⟩),.refl⟩
 have Qf:∀{q h n},At es q h n->At (oE es (too v s.2) (l+1,(some s,o.2+hsp v s.2))) q h n:=λ⟨l2,t,G,X⟩=>(mono G).le X;refine⟨h.wh,⟨by rw[Ea];exact BK h.cm.nd,λp l o z=>?_,?_,λp l2 t z=>?_,λp l2 t z=>?_⟩,λp l o z=>Qf (h.le p l o z),λp l o hc z=>?_,λp hc=>?_,BK h.nc,λu hu=>?_,λh5=>?_⟩
 . rcases gk.mp z with⟨rfl,_⟩|⟨_,z⟩;.exact Jd L e s.2
   .exact h.cm.Zm p l o z
 .refine gk.mpr (.inr ⟨λz=>O ?_,h.cm.z⟩);have:=hZ E b0 _ c0 (by rw[<-z]at H;exact H) U;rw[W]at this;rw[<-z];exact⟨_,_,h.cm.z,by unfold Le;simp only;omega⟩
 . rcases gk.mp z with⟨rfl,y⟩|⟨_,z⟩;.cases y;exact⟨E,b0,_,c0,H,U,w3,W⟩
   .exact h.cm.wk p l2 t z
 . rcases gk.mp z with⟨rfl,y⟩|⟨_,z⟩;.cases y;obtain⟨l',o',B,C⟩:=mono M;exact .inr ⟨s,v,l',o',rfl,e,rfl,ho,B,C.add _⟩
   . rcases h.cm.stp p l2 t z with z|⟨s',I,l',o',G,z3,z4,z5,z6,z7⟩;.exact .inl z
     .obtain⟨Y,Z,B,C⟩:=mono z6;exact .inr ⟨s',I,Y,Z,G,z3,z4,z5,B,(C.add _).trans z7⟩
 . rw[xX,not_or]at hc;rcases gk.mp z with⟨rfl,_⟩|⟨_,z⟩;.exact absurd rfl hc.2
   .exact h.out p l o hc.1 z
 . rcases xX.mp hc with hc|rfl;.obtain⟨l2,t,z⟩:=h.chg p hc;obtain⟨Y,Z,z,_⟩:=mono z;exact⟨Y,Z,z⟩
   .exact⟨_,_,A⟩
 . rcases hu with hu|rfl;.exact λI J l0 o0 h0=>Qf (h.dn u hu I J l0 o0 h0)
   .intro I J l0 o0 h0;rw[e]at J;cases J;obtain⟨l1,o1,B,C⟩:=h.le _ _ _ h0;obtain⟨rfl,rfl⟩:=jB h.cm.nd M B;exact⟨_,_,A,C.add _⟩
 .obtain⟨c',B,C,q3,q4,_⟩:=short L hF (hb E b0 c0) _ (cO) H U;obtain⟨l1,o1,G,X⟩:=h.wh.wl E b0 c' _ c0 B C (by omega);rw[w3]at q4;refine absurd ((h.le _ _ _ G).le (X.trans ?_)) O;rw[<-W];unfold Le at q4 ⊢;omega
def bE(p:Int×Int):En:=(p.1,0,(none,p.2))
theorem Wh.start{fs:List Int}{bs:List (Int×Int)}(B:∀a b,(a,b)∈bs->0<=a/\a<m)(h0:(0,0)∈bs)(A:(bs.map (·.1)).Nodup):Wh m ws fs bs 0 (bs.map (·.1)) (bs.map bE):=by
 have C:(bs.map bE).map (·.1)=bs.map (·.1):=by rw[map_map];rfl
 have un:∀{p l o},(p,l,o)∈bs.map bE->l=0/\o.1=none/\(p,o.2)∈bs:=λ{p l o}z=>by obtain⟨⟨a,b⟩,h1,e⟩:=mem_map.mp z;cases e;exact⟨rfl,rfl,h1⟩
 have to:∀{a b},(a,b)∈bs->(a,0,(none,b))∈bs.map bE:=λh=>mem_map.mpr ⟨_,h,rfl⟩;refine⟨⟨by rw[C];exact A,λp l o z=>B _ _ (un z).2.2,to h0,λp l o z=>?_,λp l o z=>.inl ⟨(un z).2.1,(un z).2.2,(un z).1⟩⟩,λp t=>?_,A,λa b c p y t _ hc=>?_,λl o s v _ E z=>?_,λh=>by omega⟩;.exact⟨p,o.2,[],(un z).2.2,rfl,λs hs=>(by cases hs),(un z).1.symm,by rw[bU];omega⟩
 .obtain⟨⟨a,b⟩,h1,rfl⟩:=mem_map.mp t;exact⟨_,_,to h1⟩
 .cases c with|nil=>have:a=p:=t;subst this;exact⟨0,(none,b),to y,by unfold Le bU;simp⟩|cons _ _=>simp at hc
 .exact absurd (mem_map.mpr ⟨_,(un z).2.2,rfl⟩) E
theorem Wh.to{fs:List Int}{bs:List (Int×Int)}{R:List Int}(h:Wh m ws fs bs n R es):In m ws fs bs n R es (λ_=>False) es []:=⟨h,h.cm,λp l o z=>⟨l,o,z,.refl⟩,λp l o _ z=>z,λp e=>(by cases e),.nil,λs hs=>hs.elim,λ_=>rfl⟩
theorem In.out'{fs:List Int}{bs:List (Int×Int)}{R:List Int}(h:In m ws fs bs n R ue (λs=>∃p∈R,jG ws fs p s=true) es ch):Wh m ws fs bs (n+1) ch es:=by
 have t:∀{p h' k},At ue p h' k->At es p h' k:=λ⟨l,o,A,B⟩=>(h.le _ _ _ A).le B;have G:∀(s:az)v l o,ws[s.1]?=some v->(frm v s.2,l,o)∈ue->jG ws fs (frm v s.2) s=true->At es (too v s.2) (o.2+hsp v s.2) (l+1):=λs v l o e z ho=>by
  by_cases c:frm v s.2∈R;.exact h.dn s ⟨_,c,ho⟩ v e l o z
  .exact t (h.wh.cl l o s v e c z ho)
 refine⟨h.cm,h.chg,h.nc,λa b c p y H ho hc=>?_,λl o s v e hc z hs=>G s v l o e (h.out _ _ _ hc z) hs,λO=>h.few (by omega)⟩;rcases List.eq_nil_or_concat c with rfl|⟨C,s,rfl⟩;.exact t (h.wh.wl a b [] p y H ho (n8))
 . rw[List.concat_eq_append]at*;obtain⟨q,h1,v,e,rfl,E⟩:=Ad H;have E:too v s.2=p:=E;subst E;obtain⟨U,I,J⟩:=ho s (by simp);rw[e]at I;cases I;simp only[length_append,length_cons,length_nil]at hc;obtain⟨l,o,A,B⟩:=h.wh.wl a b C _ y h1 (λu L=>ho u (by simp[L])) (by omega);refine(G s v l o e A J).le ?_;have:=B.add (hsp v s.2);have M:bU ws (C++[s])=bU ws C+hsp v s.2:=by rw[jJ,bU,bU,dC e];omega
   rw[M,<-Int.add_assoc];simpa using this
structure Ho(m:Int)(ws:List Wy)(fs:List Int)(bs:List (Int×Int))(es:List En):Prop where
 cm:Dm m ws fs bs es
 cl:∀l o(s:az)v,ws[s.1]?=some v->(frm v s.2,l,o)∈es->jG ws fs (frm v s.2) s=true->At es (too v s.2) (o.2+hsp v s.2) (l+1)bg:∀a b,(a,b)∈bs->At es a b 0
theorem Wh.fin{fs:List Int}{bs:List (Int×Int)}(h:Wh m ws fs bs n [] es):Ho m ws fs bs es:=⟨h.cm,λl o s v e z ho=>h.cl l o s v e (by simp) z ho,λa b t=>by have:=h.wl a b [] a t rfl (λs hs=>by cases hs) (n8);simpa[bU]using this⟩
abbrev Cme(m:Int)(ws:List Wy)(fs:List Int)(es:List En):Prop:=Dm m ws fs [(0,0)] es
abbrev iJ(m:Int)(ws:List Wy)(fs:List Int)(es:List En):Prop:=Ho m ws fs [(0,0)] es
theorem In.imp{fs:List Int}{bs:List (Int×Int)}{R:List Int}{K e:az->Prop}(h:In m ws fs bs n R ue K es ch)(z:∀s,e s->K s):In m ws fs bs n R ue e es ch:=⟨h.wh,h.cm,h.le,h.out,h.chg,h.nc,λs hs=>h.dn s (z s hs),h.few⟩
theorem Rj{fs:List Int}{l:List az}(e:0<=p/\p<m):at' ((rD (jf ws fs m.toNat l)).map D.lst) p=some (.lst ((l.filter (jG ws fs p)).map sD)):=by rw[yR e.1 (by simp[rD,jf];omega)];simp[rD,jf,show p.toNat<m.toNat by omega,Int.toNat_of_nonneg e.1]
@[simp]theorem cut3{a b c:D}:Mh (.tup [a,b,c]) (part (.con .non) .non) (part (.con (.int 2)) (.int 2))=some (.val (.tup [a,b])):=rfl
theorem Rr{j:Int}:cm .lt (.tup [.int a,.int i]) (.tup [.int b,.int j])=some (aZ [a,i] [b,j]):=rfl
theorem lex_lt{i:Nat}:aZ [a,(i:Int)] [b,(j:Int)]=true↔¬ Le b j a i:=by unfold Le;simp[aZ];omega
def yl(bs:List (Int×Int)):Sl:=.val false (.dv (bs.map (·.1)) (bs.map λp=>.int p.2))
abbrev bg:Sl:=yl [(0,0)]
inductive JC2(m:Int)(ws:List Wy)(fs:List Int)(bs:List (Int×Int))(a0 a1 a2 a3 a6:Sl)(n:Nat)(R:List Int)(ue:List En)(pre:List Int)(p:Int)(r:List D)(ρ:List Sl):Prop where|mk(es:List En)(ch:List Int)(cU us:List az)(s8 s9 rH:Sl)(q0:ρ=[a0,a1,a2,a3,.di (es.map en),.val false (.int p),a6,.di (ch.map zO),s8,s9,rH])(q1:A3 (fr s8=true) (fr s9=true) (fr rH=true))(q2:r=us.map sD)(q3:cU++us=(gM ws.length).filter (jG ws fs p))(q4:In m ws fs bs n R ue (λs=>(∃q∈pre,jG ws fs q s=true)\/s∈cU) es ch)
inductive JC1(m:Int)(ws:List Wy)(fs:List Int)(bs:List (Int×Int))(a0 a1 a2 a3 a6:Sl)(n:Nat)(R:List Int)(ue:List En)(r:List D)(ρ:List Sl):Prop where|mk(es:List En)(ch pre qs:List Int)(s5 s8 s9 rH:Sl)(q0:ρ=[a0,a1,a2,a3,.di (es.map en),s5,a6,.di (ch.map zO),s8,s9,rH])(q1:A4 (fr s5=true) (fr s8=true) (fr s9=true) (fr rH=true))(q2:r=qs.map D.int)(q3:pre++qs=R)(q4:In m ws fs bs n R ue (λs=>∃q∈pre,jG ws fs q s=true) es ch)
inductive JCw(m:Int)(ws:List Wy)(fs:List Int)(bs:List (Int×Int))(a0 a1 a2 a3:Sl)(M:Nat)(ρ:List Sl):Prop where|mk(n:Nat)(R:List Int)(es:List En)(s5 s7 s8 s9 rH:Sl)(q0:ρ=[a0,a1,a2,a3,.di (es.map en),s5,.own false (R.map D.int),s7,s8,s9,rH])(q1:A4 (fr s5=true) (fr s8=true) (fr s9=true) (fr rH=true))(q2:(s7=.aW\/∃d,s7=.val false d))(q3:Wh m ws fs bs n R es)(q4:7<=n+M)
inductive JC0(a0 a1 a2 a3:Sl)(bs:List (Int×Int))(r:List D)(ρ:List Sl):Prop where|mk(cU us:List (Int×Int))(s5:Sl)(q0:ρ=[a0,a1,a2,a3,.di ((cU.map bE).map en),s5,.aW,.aW,.aW,.aW,.aW])(q1:fr s5=true)(q2:r=(us.map (·.1)).map D.int)(q3:cU++us=bs)
theorem Br{a b:Int}:∀{bs:List (Int×Int)},(bs.map (·.1)).Nodup->(a,b)∈bs->kW ((bs.map (·.1)).zip (bs.map λp=>D.int p.2)) a=some (.int b)
 |[],_,h=>by cases h|p::bs,e,h=>by
   rw[map_cons,nodup_cons]at e;unfold kW;rw[map_cons,map_cons,List.zip_cons_cons,find?_cons];rcases mem_cons.mp h with h|h;.subst h;simp
   .have t:p.1≠a:=λz=>e.1 (by rw[z];exact mem_map.mpr ⟨_,h,rfl⟩);have:=Br e.2 h;unfold kW at this;simpa[t]using this
theorem Cw{s:Sl}{fs:List Int}{bs:List (Int×Int)}(hw:100<=w)(hF:Pt ws fs F)(hb:∀a b,(a,b)∈bs->0<=a/\a<m)(h0:(0,0)∈bs)(I:(bs.map (·.1)).Nodup)(hZ:∀a b c,(a,b)∈bs->gW ws 0 c a->tU ws fs c->0<=b+bU ws c)(hs:Yl s fs)(h:HN m ws)(hf:fs.length=ws.length)(k:∀es,Ho m ws fs bs es->Q (.val (lG es)) [.val false (aN m ws),s,yl bs]):(run Γ w (n+3) 5 [.val false (aN m ws),s,yl bs]).sat Q:=by
 have hn:=h.len;have m0:=h.m0;have m1:=h.m1;refine aO (d:=f5) rfl rfl (by decide) ?_;refine fO (λρ=>ρ=[.val false (aN m ws),s,yl bs,.val false (.lst ((rD (jf ws fs m.toNat (gM ws.length))).map D.lst)),.aW,.aW,.aW,.aW,.aW,.aW,.aW]) ?_ ?_;.have ap:=hs;rcases hs with rfl|⟨b,rfl⟩;all_goals simp[f5,yl];refine Ie (by first|exact .inl rfl|exact .inr ⟨_,rfl⟩) h hf ?_;simp
 rintro _ rfl;generalize hA:((rD (jf ws fs m.toNat (gM ws.length))).map D.lst)=A;have ar:bs.length<=6:=by
  have:=six m1 I λp hp=>by obtain⟨⟨a,b⟩,h1,rfl⟩:=mem_map.mp hp;exact hb a b h1
  simpa using this
 apply ak;simp;apply ak;simp[yl];refine cL (JC0 (.val false (aN m ws)) s (yl bs) (.val false (.lst A)) bs) ?_ ?_ ⟨[],bs,.aW,rfl,rfl,by rw[map_map],rfl⟩;.rintro d r _⟨E,us,s5,rfl,O,hr,hd⟩;cases us with|nil=>cases hr|cons u us=>
     obtain⟨rfl,rfl⟩:d=.int u.1/\r=(us.map (·.1)).map D.int:=by simpa using hr
     have ag:(E++[u])++us=bs:=by rw[append_assoc];exact hd
     have hg:=Br (a:=u.1) (b:=u.2) I (by rw[<-hd];simp);have hk:rG ((E.map bE).map en) u.1=false:=kin_no λ⟨l,o,z⟩=>by obtain⟨⟨a,b⟩,h1,e⟩:=mem_map.mp z;cases e;rw[<-hd,map_append,nodup_append]at I;exact I.2.2 u.1 (mem_map.mpr ⟨_,h1,rfl⟩) u.1 (by simp) rfl
     have hp:gD ((E.map bE).map en) u.1 (.tup [.int u.2,.int 0,.non])=((E++[u]).map bE).map en:=by rw[pZ hk,map_append,map_append];rfl
     have av:E.length<=bs.length:=by rw[<-hd];simp
     simp[O];apply ak;rw[map_map]at hp;simp[yl,hg];refine⟨λ_=>⟨E++[u],us,.val false (.int u.1),by rw[hp],rfl,(map_map ..).symm,ag⟩,by show _<16777216;omega⟩
 rintro _⟨E,us,s5,rfl,O,hr,hd⟩;have:us=[]:=by cases us with|nil=>rfl|cons _ _=>cases hr
 subst this;rw[append_nil]at hd;obtain rfl:bs=E:=hd.symm;simp;apply ak;simp[yl,show bs.length<=16777216 by omega];apply ak;simp;rw[show map (en ∘ bE) bs=(bs.map bE).map en from(map_map ..).symm,show map (D.int ∘ λx=>x.1) bs=(bs.map (·.1)).map D.int from(map_map ..).symm];refine jo (JCw m ws fs bs _ _ _ _) ?_ (k:=w) (m:=50) (by omega) ⟨0,bs.map (·.1),bs.map bE,s5,.aW,.aW,.aW,.aW,rfl,⟨O,rfl,rfl,rfl⟩,.inl rfl,Wh.start hb h0 I,by omega⟩;rintro M _⟨Z,R,es,s5,s7,s8,s9,rH,rfl,⟨O,U,W,C⟩,h7,hW,hM⟩;by_cases hR:R=[];.subst hR;simp;apply ak;simp;have:=k es hW.fin;simp[Function.comp_def,en];exact this
 . have ah:0<R.length:=by cases R with|nil=>exact absurd rfl hR|cons _ _=>simp
   simp[ah];refine fO (λρ=>ρ=[.val false (aN m ws),s,yl bs,.val false (.lst A),.di (es.map en),s5,.own false (R.map D.int),.di [],s8,s9,rH]) ?_ ?_
   . rcases h7 with rfl|⟨d,rfl⟩;.simp[yl]
     .simp[yl]
   rintro _ rfl;symm;simp;refine cL (JC1 m ws fs bs _ _ _ _ _ Z R es) ?_ ?_ ⟨es,[],[],R,s5,s8,s9,rH,rfl,⟨O,U,W,C⟩,rfl,rfl,hW.to.imp λs hs=>by obtain⟨q,hq,_⟩:=hs;cases hq⟩;.rintro d r _⟨t,ch,pre,qs,s5,s8,s9,rH,rfl,⟨O,U,W,C⟩,hr,J,B⟩;cases qs with|nil=>cases hr|cons p qs=>
       obtain⟨rfl,rfl⟩:d=.int p/\r=qs.map D.int:=by simpa using hr
       have af:p∈R:=by rw[<-J];simp
       have ai:0<=p/\p<m:=by obtain⟨l,o,ho⟩:=B.row af;exact B.cm.Zm _ _ _ ho
       have Y:=Rj (ws:=ws) (fs:=fs) (l:=gM ws.length) ai;rw[hA]at Y;simp[O];apply ak;simp[Y];refine cL (JC2 m ws fs bs _ _ _ _ _ Z R es pre p) ?_ ?_ ⟨t,ch,[],_,s8,s9,rH,rfl,⟨U,W,C⟩,rfl,rfl,B.imp λs hs=>by rcases hs with hs|hs;exact hs;cases hs⟩;.rintro d r _⟨t,ch,E,us,s8,s9,rH,rfl,⟨U,W,C⟩,hr,L,B⟩;cases us with|nil=>cases hr|cons u us=>
           obtain⟨rfl,rfl⟩:d=sD u/\r=us.map sD:=by simpa using hr
           have hu:jG ws fs p u=true:=by
            have:u∈(gM ws.length).filter (jG ws fs p):=by rw[<-L];simp
            exact(mem_filter.mp this).2
           obtain⟨v,g,e1,e2,e3,e4⟩:=qw hu;have Zn:(E++[u])++us=(gM ws.length).filter (jG ws fs p):=by rw[append_assoc];exact L
           obtain⟨H,op,ac⟩:=B.row af;subst e3;have gp:=oV B.cm.nd ac;have am:=B.cm.len m1;have al:ch.length<=6:=six m1 B.nc λq hq=>by obtain⟨l,o,z⟩:=B.chg q hq;exact B.cm.Zm _ _ _ z
           have Zo:∀s,((∃q∈pre,jG ws fs q s=true)\/s∈E++[u])->((∃q∈pre,jG ws fs q s=true)\/s∈E)\/s=u:=λs hs=>by
            rcases hs with hs|hs;.exact .inl (.inl hs)
            . rcases mem_append.mp hs with hs|hs;.exact .inl (.inr hs)
              .exact .inr (by simpa using hs)
           simp[U];apply ak;simp[sD];refine km e1 ?_;simp[W];apply ak;simp[gp,By];refine sr e1 ?_;simp[gp,By,C];apply ak;have keep:At t (too v u.2) (op.2+hsp v u.2) (H+1)->JC2 m ws fs bs (.val false (aN m ws)) s (yl bs) (.val false (.lst A)) (.lent (R.map D.int)) Z R es pre (frm v u.2) (us.map sD) [.val false (aN m ws),s,yl bs,.val false (.lst A),.di (t.map en),.val false (.int (frm v u.2)),.lent (R.map D.int),.di (ch.map zO),.val false (fj u.1 u.2),.val false (.int (too v u.2)),.val false (.tup [.int (op.2+hsp v u.2),.int ((H:Int)+1)])]:=λG=>⟨t,ch,E++[u],us,_,_,_,rfl,⟨rfl,rfl,rfl⟩,rfl,Zn,(B.keep e1 ac G).imp Zo⟩;have Zq:¬ At t (too v u.2) (op.2+hsp v u.2) (H+1)->JC2 m ws fs bs (.val false (aN m ws)) s (yl bs) (.val false (.lst A)) (.lent (R.map D.int)) Z R es pre (frm v u.2) (us.map sD) [.val false (aN m ws),s,yl bs,.val false (.lst A),.di ((oE t (too v u.2) (H+1,(some u,op.2+hsp v u.2))).map en),.val false (.int (frm v u.2)),.lent (R.map D.int),.di ((pJ ch (too v u.2)).map zO),.val false (fj u.1 u.2),.val false (.int (too v u.2)),.val false (.tup [.int (op.2+hsp v u.2),.int ((H:Int)+1)])]:=λG=>⟨_,_,E++[u],us,_,_,_,rfl,⟨rfl,rfl,rfl⟩,rfl,Zn,(B.put h hF hb hZ e1 ac hu G).imp Zo⟩;have p1:gD (t.map en) (too v u.2) (.tup [.int (op.2+hsp v u.2),.int ((H:Int)+1),fj u.1 u.2])=(oE t (too v u.2) (H+1,(some u,op.2+hsp v u.2))).map en:=by rw[<-LC];simp[By,oS,sD]
           have p2:gD (ch.map zO) (too v u.2) (.bl true)=(pJ ch (too v u.2)).map zO:=K7;by_cases hq:∃l o,(too v u.2,l,o)∈t
           . obtain⟨l,o,X⟩:=hq;have gt:=oV B.cm.nd X;have kt:rG (t.map en) (too v u.2)=true:=zT.mpr ⟨l,o,X⟩;have ae:=lex_lt (a:=op.2+hsp v u.2) (i:=H+1) (b:=o.2) (j:=l);rw[show((H+1:Nat):Int)=(H:Int)+1 by omega]at ae;simp[kt,gt,By,Rr];refine⟨λz=>?_,λz=>?_⟩
             . have G:¬ At t (too v u.2) (op.2+hsp v u.2) (H+1):=λ⟨l2,o2,y1,y2⟩=>by obtain⟨rfl,rfl⟩:=jB B.cm.nd X y1;exact ae.mp z y2
               symm;simp[p1];refine⟨by decide,λ_=>?_,by show _<16777216;omega⟩;symm;simp[p2];refine⟨λ_=>Zq G,by show _<16777216;omega⟩
             . have G:At t (too v u.2) (op.2+hsp v u.2) (H+1):=by
                refine⟨l,o,X,?_⟩;by_cases y:Le o.2 l (op.2+hsp v u.2) (H+1);.exact y
                .rw[ae.mpr y]at z;cases z
               exact keep G
           .have kt:rG (t.map en) (too v u.2)=false:=kin_no hq;simp[kt];apply ak;simp[p1];refine⟨by decide,λ_=>?_,by show _<16777216;omega⟩;symm;simp[p2];exact⟨λ_=>Zq λ⟨l2,o2,y1,_⟩=>hq ⟨l2,o2,y1⟩,by show _<16777216;omega⟩
       . rintro _⟨t,ch,E,us,s8,s9,rH,rfl,⟨U,W,C⟩,hr,L,B⟩;have:us=[]:=by cases us with|nil=>rfl|cons _ _=>cases hr
         subst this;rw[append_nil]at L;simp;refine⟨t,ch,pre++[p],qs,_,_,_,_,rfl,⟨rfl,U,W,C⟩,rfl,by rw[append_assoc];exact J,B.imp λs hs=>?_⟩;obtain⟨q,hq,hs⟩:=hs;rcases mem_append.mp hq with hq|hq;.exact .inl ⟨q,hq,hs⟩
         . obtain rfl:q=p:=by simpa using hq
           refine .inr ?_;rw[L];obtain⟨v,g,e1,_⟩:=qw hs;exact mem_filter.mpr ⟨xZ (eG e1).1,hs⟩
   . rintro _⟨t,ch,pre,qs,s5,s8,s9,rH,rfl,⟨O,U,W,C⟩,hr,J,B⟩;have:qs=[]:=by cases qs with|nil=>rfl|cons _ _=>cases hr
     subst this;rw[append_nil]at J;subst J;have al:ch.length<=6:=six m1 B.nc λq hq=>by obtain⟨l,o,z⟩:=B.chg q hq;exact B.cm.Zm _ _ _ z
     have hO:=B.out';have aw:Z<6:=by
      by_cases c:6<=Z;.exact absurd (hW.few c) hR
      .omega
     simp;apply ak;simp[show ch.length<=16777216 by omega];exact⟨M-1,by omega,Z+1,ch,t,_,_,_,_,_,rfl,⟨O,U,W,C⟩,.inr ⟨_,rfl⟩,hO,by omega⟩
theorem xY{s:Sl}{fs:List Int}(y:100<=w)(t:Pt ws fs F)(hs:Yl s fs)(h:HN m ws)(A:fs.length=ws.length)(k:∀es,iJ m ws fs es->Q (.val (lG es)) [.val false (aN m ws),s,bg]):(run Γ w (n+3) 5 [.val false (aN m ws),s,bg]).sat Q:=by
 have m0:=h.m0;have one:∀{a b:Int},(a,b)∈[((0:Int),(0:Int))]->a=0/\b=0:=λe=>by have:=mem_singleton.mp e;cases this;exact⟨rfl,rfl⟩
 refine Cw y t (λa b e=>by obtain⟨rfl,rfl⟩:=one e;omega) (by simp) (by simp) (λa b c e B ho=>?_) hs h A k;obtain⟨rfl,rfl⟩:=one e;have:=nu t B ho;omega
theorem iJ.all{m:Int}{ws:List Wy}{fs:List Int}{es:List En}(h:iJ m ws fs es){b:Int}:∀{c:List az}{a:Int}{l:Nat}{o:Option az×Int},gW ws b c a->tU ws fs c->(a,l,o)∈es->At es b (o.2+bU ws c) (l+c.length)|[],a,l,o,t,_,z=>by have:a=b:=t;subst this;exact⟨l,o,z,by unfold Le bU;simp⟩|s::c,a,l,o,⟨v,e,A,t⟩,ho,z=>by subst A;obtain⟨J,y,B⟩:=ho s (by simp);rw[e]at y;cases y;obtain⟨L,M,C,O⟩:=h.cl l o s v e z B;obtain⟨l2,E,G,H⟩:=iJ.all h t (λu I=>ho u (mem_cons_of_mem _ I)) C;refine⟨l2,E,G,H.trans ?_⟩;rw[bU,dC e,length_cons];unfold Le at*;omega
theorem iJ.l5{fs:List Int}(h:iJ m ws fs es)(t:HN m ws)(y:Pt ws fs F)(z:(p,l,o)∈es):l<=5:=by
 have m0:=t.m0;obtain⟨a,b,c,e,c1,c2,c3,c4⟩:=h.cm.wk p l o z;obtain⟨rfl,rfl⟩:a=0/\b=0:=by have:=mem_singleton.mp e;cases this;exact⟨rfl,rfl⟩
 obtain⟨H,A,B,I,C,_⟩:=short t y ⟨by omega,by omega⟩ _ (cO) c1 c2;obtain⟨l2,J,E,G⟩:=h.all A B h.cm.z;obtain⟨rfl,rfl⟩:=jB h.cm.nd z E;rw[Int.zero_add]at c4;rw[c3,c4]at C;unfold Le at*;simp only at G;omega
theorem iJ.on{fs:List Int}(h:iJ m ws fs es)(z:(p,l,o)∈es):(o=(none,0)/\p=0/\l=0)\/∃(s:az)(v:Wy)(t:Nat)(e:Option az×Int),o=(some s,e.2+hsp v s.2)/\l=t+1/\ws[s.1]?=some v/\too v s.2=p/\jG ws fs (frm v s.2) s=true/\(frm v s.2,t,e)∈es:=by
 rcases h.cm.stp p l o z with⟨h1,y,rfl⟩|⟨s,v,t,e,h1,A,rfl,B,C,G⟩
 . obtain⟨rfl,_⟩:p=0/\o.2=0:=by have:=mem_singleton.mp y;exact⟨congrArg Prod.fst this,congrArg Prod.snd this⟩
   exact .inl ⟨(jB h.cm.nd z h.cm.z).2,rfl,rfl⟩
 . obtain⟨l2,H,E,I⟩:=h.cl t e s v A C B;obtain⟨rfl,rfl⟩:=jB h.cm.nd z E;refine .inr ⟨s,v,t,e,?_,?_,A,rfl,B,C⟩;.exact Prod.ext_iff.mpr ⟨h1,by show _=e.2+hsp v s.2;unfold Le at*;omega⟩
   .unfold Le at*;omega
structure O6(ws:List Wy)(fs:List Int)(es:List En)(p:Int)(L:Nat)(H:Int)(a:Int)(l:Nat)(h:Int)(c:List az):Prop where
 Ey:gW ws p c a
 jf:tU ws fs c
 nd:(c.map (·.1)).Nodup
 lv:∀s∈c,∀v,ws[s.1]?=some v->∃l1 o1 o2,(frm v s.2,l1,o1)∈es/\(too v s.2,l1+1,o2)∈es/\l<=l1
 len:c.length+l=L
 hrs:bU ws c+h=H
theorem lu{g:Bool}(h:g≠f):frm v g=too v f/\too v g=frm v f:=by cases f<;>cases g<;>first|exact absurd rfl h|exact⟨rfl,rfl⟩
theorem O6.cons{m:Int}{ws:List Wy}{fs:List Int}{es:List En}{p:Int}{L l:Nat}{H x:Int}{c:List az}{s:az}{v:Wy}{o I:Option az×Int}(hc:Cme m ws fs es)(h:O6 ws fs es p L H (too v s.2) (l+1) (x+hsp v s.2) c)(e:ws[s.1]?=some v)(h1:(too v s.2,l+1,o)∈es)(B:(frm v s.2,l,I)∈es)(ho:jG ws fs (frm v s.2) s=true):O6 ws fs es p L H (frm v s.2) l x (s::c):=by
 refine⟨⟨v,e,rfl,h.Ey⟩,λu hu=>?_,?_,λu hu x ex=>?_,by have:=h.len;simp only[length_cons];omega,by have:=h.hrs;rw[bU,dC e];omega⟩
 . rcases mem_cons.mp hu with rfl|hu;.exact⟨v,e,ho⟩
   .exact h.jf u hu
 . rw[map_cons,nodup_cons];refine⟨λJ=>?_,h.nd⟩;obtain⟨t,ht,M⟩:=mem_map.mp J;obtain⟨C,E,G,y,A,O⟩:=h.lv t ht v (by rw[M];exact e);by_cases z:t.2=s.2;.rw[z]at y;have:=(jB hc.nd y B).1;omega
   .rw[(lu z).2]at A;have:=(jB hc.nd A B).1;omega
 . rcases mem_cons.mp hu with rfl|hu;.rw[e]at ex;cases ex;exact⟨l,_,_,B,h1,cO⟩
   .obtain⟨C,E,G,y,A,O⟩:=h.lv u hu x ex;exact⟨C,E,G,y,A,by omega⟩
theorem Ht(e:(es.map (·.1)).Nodup)(h:(p,x)∈es):kW ((es.map (·.1)).zip (es.map By)) p=some (By (p,x)):=by
 have:(es.map (·.1)).zip (es.map By)=es.map en:=by rw[List.zip_map'];rfl
 rw[this];exact oV e h
inductive JSt(m:Int)(ws:List Wy)(fs:List Int)(es:List En)(p:Int)(L:Nat)(H:Int)(a0 a1 a2:Sl)(M:Nat)(ρ:List Sl):Prop where|mk(a:Int)(l:Nat)(o:Option az×Int)(c:List az)(s5:Sl)(q0:ρ=[a0,a1,a2,.own false (c.reverse.map sD),.val false (.int a),s5])(q1:fr s5=true)(q2:(a,l,o)∈es)(q3:O6 ws fs es p L H a l o.2 c)(q4:l<=M)
theorem DG{L:Nat}{fs:List Int}(I:100<=w)(h:iJ m ws fs es)(J:L<=5)(E:(p,L,o)∈es)(k:∀c,O6 ws fs es p L o.2 0 0 0 c->Q (.val (.tup (c.map sD))) [.val false (aN m ws),.val false (lG es),.val false (.int p)]):(run Γ w (n+2) 6 [.val false (aN m ws),.val false (lG es),.val false (.int p)]).sat Q:=by
 refine aO (d:=f6) rfl rfl (by decide) ?_;symm;simp[f6];apply ak;simp;apply ak;simp;refine jo (JSt m ws fs es p L o.2 _ _ _) ?_ (k:=w) (m:=L) (by omega) ⟨p,L,o,[],.aW,rfl,rfl,E,⟨rfl,λs hs=>(by cases hs),by simp,by simp,by simp,by rw[bU];omega⟩,cO⟩;rintro M _⟨a,l,O,c,s5,rfl,G,t,hc,U⟩;have y:=Ht h.cm.nd t;rcases h.on t with⟨rfl,rfl,rfl⟩|⟨s,v,B,H,rfl,rfl,e,rfl,ho,C⟩;.simp[lG,y,By,oS];symm;simp;exact k c hc
 . simp[lG,y,By,oS,sD,fj];symm;simp[y,By,oS,G];apply ak;have A:c.length<16777216:=by have:=hc.len;omega
   simp[A];apply ak;simp[sD];refine km e ?_;simp;exact⟨B,by omega,frm v s.2,B,H,s::c,.val false (fj s.1 s.2),by simp[lG,sD],rfl,C,hc.cons h.cm e t C ho,cO⟩
def sg(x:Int)(f:Bool):Int:=if f then x else-x
def mD(x:Int)(fs:List Int)(s:az):List Int:=fs.set s.1 ((fs[s.1]?.getD 0)+sg x s.2)
def aug(x:Int)(fs:List Int)(c:List az):List Int:=c.foldl (mD x) fs
@[simp]theorem wN{x:Int}{fs:List Int}{s:az}:(mD x fs s).length=fs.length:=by simp[mD]
theorem uR{x:Int}:∀{c:List az}{fs:List Int},(aug x fs c).length=fs.length|[],_=>rfl|s::c,fs=>by show(aug x (mD x fs s) c).length=_;rw[uR,wN]
theorem o5{x:Int}{j:Nat}:∀{c:List az}{fs:List Int},j∉c.map (·.1)->(aug x fs c)[j]?=fs[j]?|[],_,_=>rfl|s::c,fs,h=>by rw[map_cons,mem_cons,not_or]at h;show(aug x (mD x fs s) c)[j]?=_;rw[o5 h.2];unfold mD;rw[getElem?_set_ne (λz=>h.1 z.symm)]
theorem yU{x:Int}:∀{c:List az}{fs:List Int}{s:az}{g:Int},(c.map (·.1)).Nodup->s∈c->fs[s.1]?=some g->(aug x fs c)[s.1]?=some (g+sg x s.2)
 |[],_,_,_,_,h,_=>by cases h|t::c,fs,s,g,y,h,e=>by
   rw[map_cons,nodup_cons]at y;show(aug x (mD x fs t) c)[s.1]?=_;have A:=(eG e).1;rcases mem_cons.mp h with rfl|h;.rw[o5 y.1];unfold mD;rw[getElem?_set_self A,e];rfl
   .refine yU y.2 h ?_;unfold mD;rw[getElem?_set_ne (λz=>y.1 (by rw[z];exact mem_map.mpr ⟨s,h,rfl⟩))];exact e
inductive JWt(x:Int)(fs:List Int)(c:List az)(a0 a1 a2:Sl)(r:List D)(ρ:List Sl):Prop where|mk(cU us:List az)(s4 s5:Sl)(q0:ρ=[a0,a1,a2,.own false ((aug x fs cU).map D.int),s4,s5])(q1:fr s4=true)(q2:fr s5=true)(q3:r=us.map sD)(q4:cU++us=c)
theorem Jb{s:Sl}{x:Int}{fs:List Int}(hs:Yl s fs)(hc:∀s∈c,s.1<fs.length)(k:Q (.own ((aug x fs c).map D.int)) [s,.val false (.tup (c.map sD)),.val false (.int x)]):(run Γ w (n+1) 7 [s,.val false (.tup (c.map sD)),.val false (.int x)]).sat Q:=by
 refine aO (d:=f7) rfl rfl (by decide) ?_;refine fO (λρ=>ρ=[s,.val false (.tup (c.map sD)),.val false (.int x),.own false (fs.map D.int),.aW,.aW]) ?_ ?_;.rcases hs with rfl|⟨b,rfl⟩;all_goals simp[f7]
 rintro _ rfl;symm;simp;refine cL (JWt x fs c _ _ _) ?_ ?_ ⟨[],c,.aW,.aW,rfl,rfl,rfl,rfl,rfl⟩;.rintro d r _⟨e,us,s4,s5,rfl,A,B,hr,hd⟩;cases us with|nil=>cases hr|cons u us=>
     obtain⟨rfl,rfl⟩:d=sD u/\r=us.map sD:=by simpa using hr
     have E:u.1<(aug x fs e).length:=by rw[uR];exact hc u (by rw[<-hd];simp)
     have y:(aug x fs e)[u.1]?=some (aug x fs e)[u.1]:=by simp[E]
     have C:iW (aug x fs e).length (u.1:Int)=some u.1:=by unfold iW;rw[if_pos (by omega),if_pos (by omega)];simp
     have he:aug x fs (e++[u])=(aug x fs e).set u.1 ((aug x fs e)[u.1]+sg x u.2):=by unfold aug;rw[List.foldl_append];show mD x (aug x fs e) u=_;unfold mD;rw[y];rfl
     have t:(e++[u])++us=c:=by rw[append_assoc];exact hd
     generalize(aug x fs e)[u.1]=g at*;simp[sD,fj,A,B];apply ak;obtain⟨j,f⟩:=u;cases f with|true=>simp[dX y,C];exact⟨e++[(j,true)],us,_,_,by rw[he,map_set];rfl,rfl,rfl,rfl,t⟩|false=>simp[dX y,C];exact⟨e++[(j,false)],us,_,_,by rw[he,map_set];rfl,rfl,rfl,rfl,t⟩
 . rintro _⟨e,us,s4,s5,rfl,A,B,hr,hd⟩;have:us=[]:=by cases us with|nil=>rfl|cons _ _=>cases hr
   subst this;rw[append_nil]at hd;subst hd;simp;apply ak;simp;exact k
def Eu(F:Int->Int)(D:Int):List En->Int->Int|[],p=>F p+D|e::es,p=>if e.1=p then e.2.2.2 else Eu F D es p
theorem iR{F:Int->Int}{D p:Int}{l:Nat}{o:Option az×Int}:∀{es:List En},(es.map (·.1)).Nodup->(p,l,o)∈es->Eu F D es p=o.2
 |[],_,h=>by cases h|e::es,t,h=>by
   rw[map_cons,nodup_cons]at t;rw[Eu];rcases mem_cons.mp h with rfl|h;.rw[if_pos rfl]
   .rw[if_neg (λz=>t.1 (by rw[z];exact mem_map.mpr ⟨_,h,rfl⟩))];exact iR t.2 h
theorem o4{F:Int->Int}{D p:Int}:∀{es:List En},(¬ ∃l o,(p,l,o)∈es)->Eu F D es p=F p+D|[],_=>rfl|e::es,h=>by rw[Eu,if_neg (λz=>h ⟨e.2.1,e.2.2,by rw[<-z];simp⟩)];exact o4 λ⟨l,o,z⟩=>h ⟨l,o,mem_cons_of_mem _ z⟩
theorem Aa(F:Int->Int):∀(es:List En),∃D,∀p l o,(p,l,o)∈es->o.2<=F p+D
 |[]=>⟨0,λ_ _ _ h=>by cases h⟩|e::es=>by
   obtain⟨D,h⟩:=Aa F es;refine⟨max D (e.2.2.2-F e.1),λp l o z=>?_⟩;rcases mem_cons.mp z with rfl|z;.simp only;omega
   .have:=h p l o z;omega
theorem iJ.pt{fs:List Int}{D:Int}(h:iJ m ws fs es)(t:Pt ws fs F)(y:∀p l o,(p,l,o)∈es->o.2<=F p+D):Pt ws fs (Eu F D es):=λs v e ho=>by
 by_cases c:∃l o,(frm v s.2,l,o)∈es;.obtain⟨l,o,c⟩:=c;obtain⟨l2,A,c2,c3⟩:=h.cl l o s v e c ho;rw[iR h.cm.nd c,iR h.cm.nd c2];unfold Le at c3;omega
 . rw[o4 c];have h1:=t s v e ho;by_cases c2:∃l o,(too v s.2,l,o)∈es;.obtain⟨l2,A,c2⟩:=c2;rw[iR h.cm.nd c2];have:=y _ _ _ c2;omega
   .rw[o4 c2];omega
theorem Hy{fs:List Int}{G:Int->Int}(d:Int)(t:Pt ws fs F)(y:Pt ws fs G):Pt ws fs (λp=>min (F p) (G p+d)):=λs v e ho=>by have h1:=t s v e ho;have A:=y s v e ho;simp only;omega
theorem tZ{ws:List Wy}{fs:List Int}{F:Int->Int}(h:Pt ws fs F){b:Int}:∀{c:List az}{a:Int},gW ws b c a->tU ws fs c->F b=F a+bU ws c->∀s∈c,∀v,ws[s.1]?=some v->F (too v s.2)=F (frm v s.2)+hsp v s.2
 |[],_,_,_,_,s,hs,_,_=>by cases hs|s::c,a,⟨v,e,y,A⟩,ho,he,u,hu,x,ex=>by
   have t:tU ws fs c:=λu hu=>ho u (mem_cons_of_mem _ hu);have h1:=nu h A t;obtain⟨E,B,o⟩:=ho s (by simp);rw[e]at B;cases B;have C:=h s v e o;rw[y]at C;rw[bU,dC e]at he;rcases mem_cons.mp hu with rfl|hu;.rw[e]at ex;cases ex;rw[y];omega
   .exact tZ h A t (by omega) u hu x ex
theorem qR{fs:List Int}{x:Int}{t:az}(hc:tU ws fs c)(e:ws[t.1]?=some v)(h:jG ws (aug x fs c) (frm v t.2) t=true):jG ws fs (frm v t.2) t=true\/∃s∈c,s.1=t.1/\t.2≠s.2:=by
 by_cases z:t.1∈c.map (·.1)
 . obtain⟨s,hs,es⟩:=mem_map.mp z;by_cases q:t.2=s.2;.have:t=s:=Prod.ext_iff.mpr ⟨es.symm,q⟩;subst this;obtain⟨A,y,o⟩:=hc t hs;rw[e]at y;cases y;exact .inl o
   .exact .inr ⟨s,hs,es,q⟩
 .refine .inl ?_;unfold jG at h ⊢;rwa[o5 z]at h
theorem Pt.aug{ws:List Wy}{fs:List Int}{F:Int->Int}(h:Pt ws fs F){a b x:Int}{c:List az}(y:gW ws b c a)(ho:tU ws fs c)(he:F b=F a+bU ws c):Pt ws (aug x fs c) F:=λt v e o=>by
 rcases qR ho e o with o|⟨u,A,B,ne⟩;.exact h t v e o
 . have:=tZ h y ho he u A v (by rw[B];exact e);rw[(lu ne).1,(lu ne).2];have:hsp v t.2=-hsp v u.2:=by cases h1:t.2<;>cases h2:u.2<;>simp[hsp]<;>(rw[h1,h2]at ne;exact absurd rfl ne)
   omega
def gh(G:Wy->Int):List Wy->List Int->Int|v::ws,g::fs=>G v*g+gh G ws fs|_,_=>0
def bw(H:Wy->Int):List Wy->Int|[]=>0|v::ws=>H v+bw H ws
theorem Fg{G H:Wy->Int}:∀{ws:List Wy}{fs:List Int},fs.length=ws.length->(∀(j:Nat)v g,ws[j]?=some v->fs[j]?=some g->G v*g<=H v)->gh G ws fs<=bw H ws|[],[],_,_=>Int.le_refl _|[],_::_,h,_=>by simp at h|_::_,[],h,_=>by simp at h|v::ws,g::fs,h,k=>by have h1:=k 0 v g rfl rfl;have y:=Fg (G:=G) (H:=H) (ws:=ws) (fs:=fs) (by simpa using h) λj v g e t=>k (j+1) v g (by simpa using e) (by simpa using t);rw[gh,bw];omega
theorem Ig{G H:Wy->Int}:∀{ws:List Wy}{fs:List Int},fs.length=ws.length->(∀(j:Nat)v g,ws[j]?=some v->fs[j]?=some g->H v<=G v*g)->bw H ws<=gh G ws fs|[],[],_,_=>Int.le_refl _|[],_::_,h,_=>by simp at h|_::_,[],h,_=>by simp at h|v::ws,g::fs,h,k=>by have h1:=k 0 v g rfl rfl;have y:=Ig (G:=G) (H:=H) (ws:=ws) (fs:=fs) (by simpa using h) λj v g e t=>k (j+1) v g (by simpa using e) (by simpa using t);rw[gh,bw];omega
theorem BZ{G:Wy->Int}{v:Wy}{g y:Int}:∀{j:Nat}{ws:List Wy}{fs:List Int},ws[j]?=some v->fs[j]?=some g->gh G ws (fs.set j (g+y))=gh G ws fs+G v*y|_,[],_,e,_=>by simp at e|_,_::_,[],_,e=>by simp at e|0,u::ws,f::fs,t,A=>by simp at t A;subst t A;rw[List.set_cons_zero,gh,gh,mul_add];omega|j+1,u::ws,f::fs,t,A=>by rw[List.set_cons_succ,gh,gh,BZ (j:=j) (by simpa using t) (by simpa using A)];omega
def gap(k:Int)(q:Int->Int)(v:Wy):Int:=q v.t-q v.s-k*v.h
theorem Ij{x:Int}:gap k q v*sg x f=x*(q (too v f)-q (frm v f)-k*hsp v f):=by cases f with|true=>show(q v.t-q v.s-k*v.h)*x=x*(q v.t-q v.s-k*v.h);exact mul_comm _ _|false=>show(q v.t-q v.s-k*v.h)*(-x)=x*(q v.s-q v.t-k*(-v.h));rw[mul_neg,mul_neg k,show q v.s-q v.t- -(k*v.h)=-(q v.t-q v.s-k*v.h)by omega,mul_neg,mul_comm]
theorem Aq{k x:Int}{q:Int->Int}{ws:List Wy}{b:Int}:∀{c:List az}{fs:List Int}{a:Int},fs.length=ws.length->gW ws b c a->gh (gap k q) ws (aug x fs c)=gh (gap k q) ws fs+x*(q b-q a-k*bU ws c)
 |[],fs,a,_,h=>by have:a=b:=h;subst this;show _=_+x*(q a-q a-k*0);simp;rfl|s::c,fs,a,y,⟨v,e,B,C⟩=>by
   show gh (gap k q) ws (aug x (mD x fs s) c)=_;have t:s.1<fs.length:=by rw[y];exact(eG e).1
   have A:fs[s.1]?=some fs[s.1]:=by simp[t]
   rw[Aq (by rw[wN];exact y) C];have:mD x fs s=fs.set s.1 (fs[s.1]+sg x s.2):=by unfold mD;rw[A];rfl
   rw[this,BZ e A,Ij,B,Int.add_assoc,<-mul_add,bU,dC e,mul_add k];congr 2;omega
structure Pk(ws:List Wy)(fs:List Int):Prop where
 len:fs.length=ws.length
 ok:∀(j:Nat)v g,ws[j]?=some v->fs[j]?=some g->0<=g/\g<=v.r
theorem Pk.aug{ws:List Wy}{fs:List Int}{c:List az}{x:Int}(h:Pk ws fs)(C:(c.map (·.1)).Nodup)(E:0<x)(hc:∀s∈c,∃v g,ws[s.1]?=some v/\fs[s.1]?=some g/\x<=oF v g s.2):Pk ws (aug x fs c):=by
 refine⟨by rw[uR];exact h.len,λj v g t e=>?_⟩;by_cases z:j∈c.map (·.1);.obtain⟨s,hs,rfl⟩:=mem_map.mp z;obtain⟨G,g',y,A,B⟩:=hc s hs;rw[t]at y;cases y;rw[yU C hs A]at e;cases e;have:=h.ok _ _ _ t A;cases hf:s.2<;>rw[hf]at B<;>simp[oF,sg]at B ⊢<;>omega
 .rw[o5 z]at e;exact h.ok _ _ _ t e
def lO(q:Int->Int)(v:Wy):Int:=v.r*max 0 (q v.t-q v.s-v.h)
def cj(q:Int->Int)(ws:List Wy):Int:=bw (lO q) ws
theorem YT:gap 1 q v=q v.t-q v.s-v.h:=by unfold gap;omega
theorem Bx{fs:List Int}(h:Pk ws fs):gh (gap 1 q) ws fs<=cj q ws:=Fg h.len λj v g e A=>by
 have:=h.ok _ _ _ e A;rw[YT];unfold lO;generalize q v.t-q v.s-v.h=y;by_cases c:0<=y;.rw[max_eq_right c,mul_comm];exact Int.mul_le_mul_of_nonneg_right this.2 c
 .rw[max_eq_left (by omega),mul_zero];exact Int.mul_nonpos_of_nonpos_of_nonneg (by omega) this.1
theorem Ma{fs:List Int}(h:Pk ws fs)(B:Pt ws fs q):cj q ws=gh (gap 1 q) ws fs:=by
 refine Int.le_antisymm (Ig h.len λj v g e A=>?_) (Bx h);have G:=h.ok _ _ _ e A;have E:0<v.r-g->q v.t<=q v.s+v.h:=λz=>B (j,true) v e (by rw[m9 (s:=(j,true)) e A];simp[frm,oF];omega);have C:0<g->q v.s<=q v.t+-v.h:=λz=>B (j,false) v e (by rw[m9 (s:=(j,false)) e A];simp[frm,oF];omega);rw[YT];unfold lO;generalize H:q v.t-q v.s-v.h=y;by_cases c:g=v.r
 . subst c;by_cases c0:0<v.r;.have:=C c0;rw[max_eq_right (by omega),mul_comm];exact Int.le_refl _
   . have:v.r=0:=by omega
     rw[this];simp
 . have:=E (by omega);rw[max_eq_left (by omega),mul_zero];by_cases c0:0<g;.have:=C c0;rw[show y=0 by omega];simp
   .rw[show g=0 by omega];simp
def WN(fs:List Int)(x:List az×Int):List Int:=aug x.2 fs x.1
def flow(N:Nat)(cs:List (List az×Int)):List Int:=cs.foldl WN (replicate N 0)
theorem Gn{x:List az×Int}:flow N (cs++[x])=aug x.2 (flow N cs) x.1:=by unfold flow;rw[List.foldl_append];rfl
def dG(H:List az×Int->Int):List (List az×Int)->Int|[]=>0|x::cs=>H x+dG H cs
theorem lz{H:List az×Int->Int}{x:List az×Int}:∀{cs:List (List az×Int)},dG H (cs++[x])=dG H cs+H x|[]=>by simp[dG]|y::cs=>by rw[cons_append,dG,dG,lz];omega
theorem o6{H K:List az×Int->Int}:∀{cs:List (List az×Int)},(∀x∈cs,H x=K x)->dG H cs=dG K cs|[],_=>rfl|x::cs,h=>by rw[dG,dG,h x (by simp),o6 λy e=>h y (by simp[e])]
theorem Hl{H:List az×Int->Int}:∀{cs:List (List az×Int)},(∀x∈cs,1<=H x)->(cs.length:Int)<=dG H cs|[],_=>by simp[dG]|x::cs,h=>by have h1:=h x (by simp);have t:=Hl (H:=H) (cs:=cs) λy e=>h y (by simp[e]);rw[dG,length_cons];omega
def YC(ws:List Wy)(T:Int)(x:List az×Int):Int:=if bU ws x.1<=T then x.2*(T-bU ws x.1+1)else 0
def val(ws:List Wy)(T:Int)(cs:List (List az×Int)):Int:=dG (YC ws T) cs
structure bZ(m:Int)(ws:List Wy)(T v:Int):Prop where
 ex:∃q:Int->Int,q 0=0/\q (m-1)=T+1/\cj q ws=v
 le:∀q:Int->Int,q 0=0->q (m-1)=T+1->v<=cj q ws
theorem v9{T:Int}{fs:List Int}{G:Int->Int}(fit:Pk ws fs)(dt:∀k q,gh (gap k q) ws fs=dG (λx=>x.2*(q (m-1)-q 0-k*bU ws x.1)) cs)(C:∀x∈cs,bU ws x.1<=T+1)(E:Pt ws fs G)(y:G 0=0)(A:G (m-1)=T+1):bZ m ws T (val ws T cs):=by
 have B:∀q:Int->Int,q 0=0->q (m-1)=T+1->gh (gap 1 q) ws fs=val ws T cs:=λq e t=>by
  rw[dt,e,t];refine o6 λx H=>?_;have:=C x H;unfold YC;split;.congr 1;omega
  .rw[show T+1-0-1*bU ws x.1=0 by omega,mul_zero]
 exact⟨⟨G,y,A,by rw[Ma fit E,B G y A]⟩,λq e t=>by rw[<-B q e t];exact Bx fit⟩
structure ym(m:Int)(ws:List Wy)(cs:List (List az×Int))(fs:List Int)(F:Int->Int)(d:Int):Prop where
 fit:Pk ws fs
 pt:Pt ws fs F
 z:F 0=0
 e:F (m-1)=d
 d0:0<=d
 nn:(∀v∈ws,1<=v.h)->1<=d/\∀x∈cs,1<=bU ws x.1
 ch:∀x∈cs,bU ws x.1<=d/\0<x.2/\∀s∈x.1,s.1<ws.length
 dt:∀k q,gh (gap k q) ws fs=dG (λx=>x.2*(q (m-1)-q 0-k*bU ws x.1)) cs
 lst:∀T,0<=T->T+1<=d->bZ m ws T (val ws T cs)
theorem wZ{G:Wy->Int}:∀{ws:List Wy}{n:Nat},gh G ws (replicate n 0)=0|[],n=>by unfold gh;rfl|v::ws,0=>rfl|v::ws,n+1=>by rw[replicate_succ,gh,wZ];simp
theorem zb(h:(replicate n (0:Int))[j]?=some g):g=0:=(List.mem_replicate.mp (mem_of_getElem? h)).2
def F01(b p:Int):Int:=if p=0 then 0 else b
theorem ym.zero(m0:2<=m)(B:∀v∈ws,0<=v.h)(hr:∀v∈ws,0<=v.r):∃b,ym m ws [] (replicate ws.length 0) (F01 b) b:=by
 have fit:Pk ws (replicate ws.length 0):=⟨by simp,λj v g t y=>by rw[zb y];exact⟨Int.le_refl _,hr v (mem_of_getElem? t)⟩⟩;have pt:∀b:Int,0<=b->(∀v∈ws,b<=v.h)->Pt ws (replicate ws.length 0) (F01 b):=λb b0 C s v e ho=>by obtain⟨G,g,t,y,_,A⟩:=qw ho;rw[e]at t;cases t;have:=zb y;subst this;have:=C v (mem_of_getElem? e);cases hf:s.2<;>rw[hf]at A<;>simp[oF,hsp,F01]at A ⊢;split<;>split<;>omega
 have dt:∀k q,gh (gap k q) ws (replicate ws.length 0)=dG (λx=>x.2*(q (m-1)-q 0-k*bU ws x.1)) []:=λk q=>by rw[wZ];rfl
 have t:∀b,F01 b (m-1)=b:=λb=>by unfold F01;rw[if_neg (by omega)]
 by_cases c:∀v∈ws,1<=v.h;.exact⟨1,fit,pt 1 (by omega) c,rfl,t 1,by omega,λ_=>⟨Int.le_refl _,by simp⟩,by simp,dt,λT h1 E=>v9 fit dt (by simp) (pt 1 (by omega) c) rfl (by rw[t];omega)⟩
 .exact⟨0,fit,pt 0 (by omega) B,rfl,t 0,by omega,λz=>absurd z c,by simp,dt,λT h1 E=>by omega⟩
theorem ym.at{d T:Int}{fs:List Int}{G:Int->Int}(h:ym m ws cs fs F d)(e:d<=T+1)(t:Pt ws fs G)(y:G 0=0)(A:G (m-1)=T+1):bZ m ws T (val ws T cs):=v9 h.fit h.dt (λx B=>Int.le_trans (h.ch x B).1 e) t y A
theorem ym.more{d:Int}{fs:List Int}{x:Int}(h:ym m ws cs fs F d)(t:iJ m ws fs es)(A:(m-1,l,o)∈es)(hc:O6 ws fs es (m-1) l o.2 0 0 0 c)(B:0<x)(hr:∀s∈c,∃v g,ws[s.1]?=some v/\fs[s.1]?=some g/\x<=oF v g s.2):∃H,ym m ws (cs++[(c,x)]) (aug x fs c) H o.2:=by
 obtain⟨D,I⟩:=Aa F es;have C:=t.pt h.pt I;have L:bU ws c=o.2:=by have:=hc.hrs;omega
 have E:Eu F D es 0=0:=iR t.cm.nd t.cm.z;have G:Eu F D es (m-1)=o.2:=iR t.cm.nd A;have hd:d<=o.2:=by have:=nu h.pt hc.Ey hc.jf;rw[h.e,h.z]at this;omega
 refine⟨Eu F D es,h.fit.aug hc.nd B hr,C.aug hc.Ey hc.jf (by rw[E,G];omega),E,G,by have:=h.d0;omega,λz=>⟨by have:=(h.nn z).1;omega,λy hy=>?_⟩,λy hy=>?_,λk q=>?_,λT h0 h1=>?_⟩
 . rcases mem_append.mp hy with hy|hy;.exact(h.nn z).2 y hy
   .rw[mem_singleton.mp hy];show 1<=bU ws c;have:=(h.nn z).1;omega
 . rcases mem_append.mp hy with hy|hy;.have:=h.ch y hy;exact⟨by omega,this.2⟩
   .rw[mem_singleton.mp hy];refine⟨by show bU ws c<=_;omega,B,λs hs=>?_⟩;obtain⟨v,g,e,_⟩:=hr s hs;exact(eG e).1
 .rw[Aq h.fit.len hc.Ey,lz,h.dt]
 . have J:val ws T (cs++[(c,x)])=val ws T cs:=by unfold val;rw[lz];show _+(if bU ws c<=T then _ else 0)=_;rw[if_neg (by omega)];omega
   rw[J];by_cases q:T+1<=d;.exact h.lst T h0 q
   . refine h.at (by omega) (Hy (T+1-d) C h.pt) ?_ ?_;.have:=h.z;omega
     .have:=h.e;omega
theorem ym.least{d T:Int}{fs:List Int}(h:ym m ws cs fs F d)(t:iJ m ws fs es)(y:¬ ∃l o,(m-1,l,o)∈es)(h0:0<=T):bZ m ws T (val ws T cs):=by
 by_cases q:T+1<=d;.exact h.lst T h0 q
 . obtain⟨D,A⟩:=Aa F es;have B:=t.pt (D:=max D (T+1-d)) h.pt λp l o z=>by have:=A p l o z;omega
   have C:Eu F (max D (T+1-d)) es 0=0:=iR t.cm.nd t.cm.z;have E:Eu F (max D (T+1-d)) es (m-1)=F (m-1)+max D (T+1-d):=o4 y;refine h.at (by omega) (Hy (T+1-d) B h.pt) ?_ ?_;.have:=h.z;omega
   .have:=h.e;omega
def Ew(v:Wy)(f:Bool):Int:=7*hsp v f+1
def Pu(ws:List Wy)(fs:List Int)(P:Int->Int):Prop:=∀(s:az)(v:Wy),ws[s.1]?=some v->jG ws fs (frm v s.2) s=true->P (too v s.2)<=P (frm v s.2)+Ew v s.2
def yo(ws:List Wy)(c:List az):Int:=7*bU ws c+c.length
theorem pR(e:ws[s.1]?=some v):yo ws (s::c)=Ew v s.2+yo ws c:=by unfold yo Ew;rw[bU,dC e,length_cons];omega
theorem zP{ws:List Wy}{fs:List Int}{P:Int->Int}(h:Pu ws fs P){b:Int}:∀{c:List az}{a:Int},gW ws b c a->tU ws fs c->P b<=P a+yo ws c|[],a,t,_=>by have:a=b:=t;rw[this];simp[yo,bU]|s::c,a,⟨v,e,A,t⟩,ho=>by have h1:=zP h t λu B=>ho u (mem_cons_of_mem _ B);obtain⟨E,y,o⟩:=ho s (by simp);rw[e]at y;cases y;have C:=h s v e o;rw[A]at C;rw[pR e];omega
theorem sU{ws:List Wy}{fs:List Int}{P:Int->Int}(h:Pu ws fs P){b:Int}:∀{c:List az}{a:Int},gW ws b c a->tU ws fs c->P b=P a+yo ws c->∀s∈c,∀v,ws[s.1]?=some v->P (too v s.2)=P (frm v s.2)+Ew v s.2
 |[],_,_,_,_,s,hs,_,_=>by cases hs|s::c,a,⟨v,e,y,A⟩,ho,he,u,hu,x,ex=>by
   have t:tU ws fs c:=λu hu=>ho u (mem_cons_of_mem _ hu);have h1:=zP h A t;obtain⟨E,B,o⟩:=ho s (by simp);rw[e]at B;cases B;have C:=h s v e o;rw[y]at C;rw[pR e]at he;rcases mem_cons.mp hu with rfl|hu;.rw[e]at ex;cases ex;rw[y];omega
   .exact sU h A t (by omega) u hu x ex
def tgt(ws:List Wy)(fs:List Int)(P:Int->Int)(s:az):Bool:=match ws[s.1]?with|some v=>jG ws fs (frm v s.2) s&&decide (P (too v s.2)=P (frm v s.2)+Ew v s.2)|none=>false
theorem GF{fs:List Int}{P:Int->Int}(e:ws[s.1]?=some v):tgt ws fs P s=(jG ws fs (frm v s.2) s&&decide (P (too v s.2)=P (frm v s.2)+Ew v s.2)):=by unfold tgt;rw[e]
def Ha(ws:List Wy)(fs:List Int)(P:Int->Int):Nat:=((gM ws.length).filter (tgt ws fs P)).length
theorem Bf{fs:List Int}{P:Int->Int}(h:ws.length<=12):Ha ws fs P<=24:=by have:=List.length_filter_le (tgt ws fs P) (gM ws.length);rw[vW]at this;unfold Ha;omega
theorem FJ{p q:az->Bool}(h:∀t,q t=true->p t=true):∀(l:List az),(l.filter q).length<=(l.filter p).length|[]=>cO|t::l=>by have e:=FJ h l;cases hq:q t with|true=>simp[hq,h t hq,e]|false=>cases hp:p t with|true=>simp[hq,hp];omega|false=>simp[hq,hp,e]
theorem GK{p q:az->Bool}{s:az}(h:∀t,q t=true->p t=true)(e:p s=true)(y:q s=false):∀{l:List az},s∈l->(l.filter q).length<(l.filter p).length
 |[],hs=>by cases hs|t::l,hs=>by
   have le:=FJ h l;rcases mem_cons.mp hs with rfl|hs;.simp[e,y];omega
   .have A:=GK h e y hs;cases hq2:q t with|true=>simp[hq2,h t hq2,A]|false=>cases hp2:p t with|true=>simp[hq2,hp2];omega|false=>simp[hq2,hp2,A]
theorem Gz{fs:List Int}(t:(c.map (·.1)).Nodup)(hs:s∈c)(e:ws[s.1]?=some v)(y:fs[s.1]?=some g):jG ws (aug (oF v g s.2) fs c) p s=false:=by
 rw[m9 e (yU t hs y)];have:oF v (g+sg (oF v g s.2) s.2) s.2=0:=by cases s.2<;>simp[oF,sg]<;>omega
 rw[this];simp
theorem Pu.aug{ws:List Wy}{fs:List Int}{P:Int->Int}(h:Pu ws fs P){a b:Int}{c:List az}{s:az}{v:Wy}{g:Int}(G:gW ws b c a)(ho:tU ws fs c)(H:(c.map (·.1)).Nodup)(he:P b=P a+yo ws c)(hs:s∈c)(e:ws[s.1]?=some v)(I:fs[s.1]?=some g):Pu ws (aug (oF v g s.2) fs c) P/\Ha ws (aug (oF v g s.2) fs c) P<Ha ws fs P:=by
 have B:=sU h G ho he;have back:∀(t u:az)(x:Wy),u∈c->u.1=t.1->t.2≠u.2->ws[t.1]?=some x->P (too x t.2)<P (frm x t.2)+Ew x t.2:=λt u x y A ne ex=>by
  have h1:=B u y x (by rw[A];exact ex);rw[(lu ne).1,(lu ne).2];have C:hsp x t.2=-hsp x u.2:=by cases h1:t.2<;>cases C:u.2<;>simp[hsp]<;>(rw[h1,C]at ne;exact absurd rfl ne)
  unfold Ew at*;omega
 refine⟨λt x ex o=>?_,?_⟩
 . rcases qR ho ex o with o|⟨u,y,A,ne⟩;.exact h t x ex o
   .have:=back t u x y A ne ex;omega
 . obtain⟨J,E,o⟩:=ho s hs;rw[e]at E;cases E;refine GK (s:=s) (λt ht=>?_) (by rw[GF e,o,B s hs v e];simp) (by rw[GF e,Gz H hs e I];rfl) (xZ (eG e).1);unfold tgt at ht ⊢;split at ht
   . rename_i x ex;simp only[and_eq_true,decide_eq_true_eq]at ht ⊢;refine⟨?_,ht.2⟩;rcases qR ho ex ht.1 with o|⟨u,y,A,ne⟩;.exact o
     .have:=back t u x y A ne ex;omega
   .cases ht
abbrev Pn:=List (Option Bool)
def jP:List Wy->Pn->Int|v::ws,some f::es=>Ew v f+jP ws es|_::ws,none::es=>jP ws es|_,_=>0
def Ec(N:Nat):List az->Pn|[]=>replicate N none|s::c=>(Ec N c).set s.1 (some s.2)
theorem ur{N:Nat}:∀{c:List az},(Ec N c).length=N|[]=>by simp[Ec]|s::c=>by rw[Ec,List.length_set,ur]
theorem Ay{N j:Nat}:∀{c:List az},j<N->j∉c.map (·.1)->(Ec N c)[j]?=some none|[],h,_=>by simp[Ec,h]|s::c,h,e=>by rw[map_cons,mem_cons,not_or]at e;rw[Ec,getElem?_set_ne (λz=>e.1 z.symm)];exact Ay h e.2
theorem xP{v:Wy}{f:Bool}:∀{j:Nat}{ws:List Wy}{es:Pn},ws[j]?=some v->es[j]?=some none->jP ws (es.set j (some f))=jP ws es+Ew v f|_,[],_,e,_=>by simp at e|_,_::_,[],_,e=>by simp at e|0,u::ws,x::es,t,y=>by simp at t y;subst t y;rw[List.set_cons_zero,jP,jP];omega|j+1,u::ws,x::es,t,y=>by have A:=xP (f:=f) (j:=j) (ws:=ws) (es:=es) (by simpa using t) (by simpa using y);rw[List.set_cons_succ];cases x with|none=>rw[jP,jP,A]|some g=>rw[jP,jP,A];omega
theorem sE:∀{ws:List Wy}{n:Nat},jP ws (replicate n none)=0|[],n=>by unfold jP;rfl|v::ws,0=>rfl|v::ws,n+1=>by rw[replicate_succ,jP,sE]
theorem uo{ws:List Wy}{b:Int}:∀{c:List az}{a:Int},gW ws b c a->(c.map (·.1)).Nodup->jP ws (Ec ws.length c)=yo ws c|[],_,_,_=>by rw[Ec,sE];simp[yo,bU]|s::c,a,⟨v,e,_,y⟩,t=>by rw[map_cons,nodup_cons]at t;rw[Ec,xP e (Ay (eG e).1 t.1),uo y t.2,pR e];omega
def rJ:Nat->List Pn|0=>[[]]|n+1=>(rJ n).map (none::·)++((rJ n).map (some true::·)++(rJ n).map (some false::·))
theorem qM:∀{n:Nat},(rJ n).length=3^n|0=>rfl|n+1=>by rw[rJ,length_append,length_append,length_map,length_map,length_map,qM,Nat.pow_succ];omega
theorem qY:∀{e:Pn},e∈rJ e.length|[]=>by simp[rJ]|x::e=>by have t:=qY (e:=e);rw[length_cons,rJ,mem_append,mem_append];cases x with|none=>exact .inl (mem_map.mpr ⟨e,t,rfl⟩)|some f=>cases f with|true=>exact .inr (.inl (mem_map.mpr ⟨e,t,rfl⟩))|false=>exact .inr (.inr (mem_map.mpr ⟨e,t,rfl⟩))
structure Lk(m:Int)(ws:List Wy)(k:Nat)(fs:List Int)(P:Int->Int)(lam:Int)(seen:List Pn):Prop where
 pt:Pu ws fs P
 z:P 0=0
 e:P (m-1)=lam
 nd:seen.Nodup
 sl:∀e∈seen,e.length=ws.length/\jP ws e<=lam
 cnt:k+Ha ws fs P<=25*(seen.length+1)
theorem Lk.few{t:Int}{k:Nat}{fs:List Int}{P:Int->Int}{seen:List Pn}(h:Lk m ws k fs P t seen)(y:ws.length<=12):k<=13286050:=by
 have h1:=ig (l2:=rJ ws.length) h.nd λe he=>by rw[<-(h.sl e he).1];exact qY
 rw[qM]at h1;have A:3^ws.length<=3^12:=Nat.pow_le_pow_right (by decide) y;have B:(3:Nat)^12=531441:=by decide
 have:=h.cnt;omega
theorem Lk.zero(A:ws.length<=12)(B:∀v∈ws,0<=v.h):Lk m ws 0 (replicate ws.length 0) (λ_=>0) 0 []:=by refine⟨λs v e ho=>?_,rfl,rfl,.nil,by simp,by have:=Bf (fs:=replicate ws.length 0) (P:=λ_=>0) A;simp;omega⟩;obtain⟨E,g,t,C,_,y⟩:=qw ho;rw[e]at t;cases t;have:=zb C;subst this;have:=B v (mem_of_getElem? e);cases hf:s.2<;>rw[hf]at y<;>simp[oF,Ew,hsp]at y ⊢;omega
def J4(F:Int->Int)(D:Int):List En->Int->Int|[],p=>F p+D|e::es,p=>if e.1=p then 7*e.2.2.2+(e.2.1:Int)else J4 F D es p
theorem nF{F:Int->Int}{D p:Int}{l:Nat}{o:Option az×Int}:∀{es:List En},(es.map (·.1)).Nodup->(p,l,o)∈es->J4 F D es p=7*o.2+l
 |[],_,h=>by cases h|e::es,t,h=>by
   rw[map_cons,nodup_cons]at t;rw[J4];rcases mem_cons.mp h with rfl|h;.rw[if_pos rfl]
   .rw[if_neg (λz=>t.1 (by rw[z];exact mem_map.mpr ⟨_,h,rfl⟩))];exact nF t.2 h
theorem vy{F:Int->Int}{D p:Int}:∀{es:List En},(¬ ∃l o,(p,l,o)∈es)->J4 F D es p=F p+D|[],_=>rfl|e::es,h=>by rw[J4,if_neg (λz=>h ⟨e.2.1,e.2.2,by rw[<-z];simp⟩)];exact vy λ⟨l,o,z⟩=>h ⟨l,o,mem_cons_of_mem _ z⟩
theorem Ju(F:Int->Int):∀(es:List En),∃D,∀p l o,(p,l,o)∈es->7*o.2+(l:Int)<=F p+D
 |[]=>⟨0,λ_ _ _ h=>by cases h⟩|e::es=>by
   obtain⟨D,h⟩:=Ju F es;refine⟨max D (7*e.2.2.2+(e.2.1:Int)-F e.1),λp l o z=>?_⟩;rcases mem_cons.mp z with rfl|z;.simp only;omega
   .have:=h p l o z;omega
theorem iJ.pts{fs:List Int}{P:Int->Int}{D:Int}(h:iJ m ws fs es)(t:HN m ws)(y:Pt ws fs F)(A:Pu ws fs P)(B:∀p l o,(p,l,o)∈es->7*o.2+(l:Int)<=P p+D):Pu ws fs (J4 P D es):=λs v e ho=>by
 by_cases c:∃l o,(frm v s.2,l,o)∈es;.obtain⟨l,o,c⟩:=c;obtain⟨l2,C,c2,c3⟩:=h.cl l o s v e c ho;rw[nF h.cm.nd c,nF h.cm.nd c2];have:=h.l5 t y c2;unfold Le at c3;unfold Ew;omega
 . rw[vy c];have h1:=A s v e ho;by_cases c2:∃l o,(too v s.2,l,o)∈es;.obtain⟨l2,C,c2⟩:=c2;rw[nF h.cm.nd c2];have:=B _ _ _ c2;omega
   .rw[vy c2];omega
theorem Lk.more{t:Int}{k:Nat}{fs:List Int}{P:Int->Int}{seen:List Pn}(h:Lk m ws k fs P t seen)(C:HN m ws)(J:Pt ws fs F)(y:iJ m ws fs es)(A:(m-1,l,o)∈es)(hc:O6 ws fs es (m-1) l o.2 0 0 0 c)(hs:s∈c)(e:ws[s.1]?=some v)(E:fs[s.1]?=some g):∃L M O,Lk m ws (k+1) (aug (oF v g s.2) fs c) L M O:=by
 have U:bU ws c=o.2:=by have:=hc.hrs;omega
 have W:c.length=l:=by have:=hc.len;omega
 have X:yo ws c=7*o.2+l:=by unfold yo;rw[U,W]
 have Y:t<=yo ws c:=by have:=zP h.pt hc.Ey hc.jf;rw[h.e,h.z]at this;omega
 by_cases q:t=yo ws c;.have B:=h.pt.aug hc.Ey hc.jf hc.nd (by rw[h.e,h.z];omega) hs e E;exact⟨P,t,seen,B.1,h.z,h.e,h.nd,h.sl,by have:=h.cnt;omega⟩
 . obtain⟨D,Z⟩:=Ju P es;have hP:=y.pts C J h.pt Z;have G:J4 P D es 0=0:=by rw[nF y.cm.nd y.cm.z];rfl
   have H:J4 P D es (m-1)=yo ws c:=by rw[nF y.cm.nd A,X]
   have B:=hP.aug hc.Ey hc.jf hc.nd (by rw[G,H];omega) hs e E;have I:=uo hc.Ey hc.nd;refine⟨J4 P D es,yo ws c,seen++[Ec ws.length c],B.1,G,H,?_,λx hx=>?_,?_⟩;.rw[nodup_append];refine⟨h.nd,by simp,λa ha b hb ab=>?_⟩;have:=(h.sl a ha).2;rw[ab,mem_singleton.mp hb,I]at this;omega
   . rcases mem_append.mp hx with hx|hx;.have:=h.sl x hx;exact⟨this.1,by omega⟩
     .rw[mem_singleton.mp hx];exact⟨ur,by rw[I];exact Int.le_refl _⟩
   .have h1:=Bf (fs:=fs) (P:=J4 P D es) C.len;have h2:=h.cnt;rw[length_append,List.length_singleton];omega
theorem za{p:Int}{l A:Nat}{o C:Option az×Int}:∀{es:List En},(es.map (·.1)).Nodup->(p,l,o)∈es->(p,A,C)∈es->l=A
 |[],_,h,_=>by cases h|e::es,t,h1,E=>by
   rw[map_cons,nodup_cons]at t;rcases mem_cons.mp h1 with B|g1<;>rcases mem_cons.mp E with y|g2;.rw[<-B]at y;cases y;rfl
   .subst B;exact absurd (mem_map.mpr ⟨_,g2,rfl⟩) t.1
   .subst y;exact absurd (mem_map.mpr ⟨_,g1,rfl⟩) t.1
   .exact za t.2 g1 g2
theorem Js{ws:List Wy}{es:List En}{b:Int}(nd:(es.map (·.1)).Nodup):∀{c:List az}{a:Int}{l:Nat}{o:Option az×Int},(a,l,o)∈es->gW ws b c a->(∀s∈c,∀v,ws[s.1]?=some v->∃E I J,(frm v s.2,E,I)∈es/\(too v s.2,E+1,J)∈es)->(nZ ws c a).Nodup/\∀q∈nZ ws c a,∃t C,(q,t,C)∈es/\l<=t
 |[],a,l,o,y,_,_=>⟨by simp[nZ],λq hq=>by rw[nZ,mem_singleton]at hq;rw[hq];exact⟨l,o,y,cO⟩⟩|s::c,a,l,o,y,⟨v,e,L,M⟩,A=>by
   obtain⟨E,I,J,h1,O⟩:=A s (by simp) v e;rw[L]at h1;have:=za nd y h1;subst this;obtain⟨G,B⟩:=Js nd O M λu U=>A u (by simp[U]);have W:iT ws s=too v s.2:=by unfold iT;rw[e]
   rw[nZ,W];refine⟨nodup_cons.mpr ⟨λz=>?_,G⟩,λq hq=>?_⟩;.obtain⟨t,C,H,X⟩:=B a z;have:=za nd y H;omega
   . rcases mem_cons.mp hq with rfl|hq;.exact⟨l,o,y,cO⟩
     .obtain⟨t,C,H,X⟩:=B q hq;exact⟨t,C,H,by omega⟩
def cD(x:List az×Int):D:=.tup [.tup (x.1.map sD),.int x.2]
theorem QZ(h:ns≠[]):∃i,ns.min?=some i/\i∈ns/\∀j∈ns,i<=j:=by cases e:ns.min? with|none=>rw[List.min?_eq_none_iff]at e;exact absurd e h|some i=>have:=List.min?_eq_some_iff.mp e;exact⟨i,rfl,this.1,this.2⟩
def XS:D->az|.tup [.int j,.bl f]=>(j.toNat,f)|_=>(0,true)
@[simp]theorem Hd{s:az}:XS (sD s)=s:=rfl
def Nz(ws:List Wy)(fs:List Int)(s:az):Int:=match ws[s.1]?,fs[s.1]?with|some v,some g=>oF v g s.2|_,_=>0
def rmD(ws:List Wy)(fs:List Int)(d:D):D:=.int (Nz ws fs (XS d))
@[simp]theorem Xj{es:List En}{p:Int}:wD false (.int p) (lG es)=some (.val (.bl (rG (es.map en) p))):=by show some (R.val (.bl ((es.map (·.1)).contains p)))=some (R.val (.bl ((J1 (es.map en)).contains p)));rw[yK]
def Chk(m:Int)(ws:List Wy)(x:List az×Int):Prop:=x.1.length<=5/\(∀s∈x.1,s.1<ws.length)/\gW ws (m-1) x.1 0/\(x.1.map (·.1)).Nodup/\(nZ ws x.1 0).Nodup
structure Stg(m:Int)(ws:List Wy)(cU:List (List az×Int))(x:List az×Int):Prop where
 iv:∃F d,ym m ws cU (flow ws.length cU) F d
 ht:∃F,Pt ws (flow ws.length cU) F/\F 0=0/\F (m-1)=bU ws x.1
 op:tU ws (flow ws.length cU) x.1
 rm:∀s∈x.1,∃v g,ws[s.1]?=some v/\(flow ws.length cU)[s.1]?=some g/\x.2<=oF v g s.2
theorem ym.ht{d:Int}{fs:List Int}(h:ym m ws cs fs F d)(t:iJ m ws fs es)(y:(m-1,l,o)∈es)(hc:O6 ws fs es (m-1) l o.2 0 0 0 c):(∃F,Pt ws fs F/\F 0=0/\F (m-1)=bU ws c)/\d<=bU ws c:=by
 obtain⟨D,A⟩:=Aa F es;have B:bU ws c=o.2:=by have:=hc.hrs;omega
 refine⟨⟨Eu F D es,t.pt h.pt A,iR t.cm.nd t.cm.z,by rw[iR t.cm.nd y,B]⟩,?_⟩;have:=nu h.pt hc.Ey hc.jf;rw[h.e,h.z]at this;omega
def Dy(m:Int)(ws:List Wy)(cs:List (List az×Int)):Prop:=cs.Pairwise (λa b=>bU ws a.1<=bU ws b.1)/\∀t x e,cs=t++x::e->Stg m ws t x
theorem Dy.snoc{y:List az×Int}(h:Dy m ws cs)(h1:∀x∈cs,bU ws x.1<=bU ws y.1)(B:Stg m ws cs y):Dy m ws (cs++[y]):=by
 refine⟨?_,λA x t e=>?_⟩;.rw[List.pairwise_append];exact⟨h.1,by simp,λa C b E=>by rw[mem_singleton.mp E];exact h1 a C⟩
 . rcases List.eq_nil_or_concat t with rfl|⟨r,z,rfl⟩;.obtain⟨G,H⟩:=List.append_inj' e rfl;cases H;subst G;exact B
   . rw[List.concat_eq_append]at e;have I:cs++[y]=(A++x::r)++[z]:=by rw[e];simp
     exact h.2 A x r (List.append_inj' I rfl).1
structure Ends(m:Int)(ws:List Wy)(cs:List (List az×Int))(fs:List Int)(F:Int->Int)(d:Int)(es:List En):Prop where
 fl:fs=flow ws.length cs
 iv:ym m ws cs fs F d
 cm:iJ m ws fs es
 no:¬ ∃l o,(m-1,l,o)∈es
 ck:∀x∈cs,Chk m ws x
 st:Dy m ws cs
inductive FcE(a0 a1 a2 a3 a4 a5 a6:Sl)(ρ:List Sl):Prop where|mk(s:Sl)(q0:ρ=[a0,a1,a2,a3,a4,a5,a6,s])(q1:fr s=true)
inductive JE(m:Int)(ws:List Wy)(M:Nat)(ρ:List Sl):Prop where|mk(cs:List (List az×Int))(fs:List Int)(es:List En)(F:Int->Int)(d:Int)(s5 s6:Sl)(q0:ρ=[.val false (aN m ws),.val false (.int (m-1)),.own false (fs.map D.int),.own false (cs.map cD),.val false (lG es),s5,s6])(q1:(fr s5=true/\fr s6=true))(q2:fs=flow ws.length cs)(q3:ym m ws cs fs F d)(q4:iJ m ws fs es)(q5:(∃P lam seen,Lk m ws cs.length fs P lam seen))(q6:cs.length+M=13286050)(q7:(∀x∈cs,Chk m ws x))(q8:Dy m ws cs)
theorem Fv(hw:13286250<=w)(h:HN m ws)(hr:∀v∈ws,0<=v.r)(k:∀cs fs F d es,cs.length<=13286050->Ends m ws cs fs F d es->Q (.own (cs.map cD)) [.val false (aN m ws)]):(run Γ w (n+4) 8 [.val false (aN m ws)]).sat Q:=by
 have hn:=h.len;have m0:=h.m0;have m1:=h.m1;refine aO (d:=f8) rfl rfl (by decide) ?_;symm;simp[f8];refine fO (λρ=>ρ=[.val false (aN m ws),.val false (.int (m-1)),.own false ((flow ws.length []).map D.int),.aW,.aW,.aW,.aW]) ?_ ?_;.simp[flow];show _<=16777216;omega
 rintro _ rfl;have hh:∀v∈ws,0<=v.h:=λv hv=>(h.ok v hv).2.2;obtain⟨b0,I0⟩:∃b,ym m ws [] (flow ws.length []) (F01 b) b:=ym.zero m0 hh hr;symm;simp;apply ak;simp;refine xY (by omega) I0.pt (.inr ⟨true,rfl⟩) h I0.fit.len λes t=>?_;simp;apply ak;simp;refine jo (JE m ws) ?_ (k:=w) (m:=13286050) (by omega) ⟨[],flow ws.length [],es,F01 b0,b0,.aW,.aW,rfl,⟨rfl,rfl⟩,rfl,I0,t,⟨_,_,_,Lk.zero hn hh⟩,by simp,by simp,by simp,λcU x ay e=>by cases cU<;>cases e⟩;rintro M _⟨cs,fs,es,F,d,s5,s6,rfl,⟨h5,h6⟩,G,H,t,⟨P,aE,seen,hS⟩,hM,O,hst⟩;have ac:=H.fit.len;by_cases hq:∃l o,(m-1,l,o)∈es
 . obtain⟨l,o,A⟩:=hq;have kt:rG (es.map en) (m-1)=true:=zT.mpr ⟨l,o,A⟩;have ae:=t.l5 h H.pt A;simp[kt];apply ak;simp;refine DG (by omega) t ae A λc hc=>?_;simp[h5];apply ak;have af:c.length<=5:=by have:=hc.len;omega
   have Nu:∀s∈c,∃v g,ws[s.1]?=some v/\fs[s.1]?=some g/\0<oF v g s.2:=λs hs=>by obtain⟨v,e,o⟩:=hc.jf s hs;obtain⟨v',g,B,E,_,e4⟩:=qw o;exact⟨v',g,B,E,e4⟩
   simp[show c.length<=16777216 by omega];refine bH (FcE _ _ _ _ _ _ _) (rmD ws fs) ⟨.aW,rfl,rfl⟩ ?_ ?_;.rintro d hd _⟨s',rfl,U⟩;obtain⟨s,hs,rfl⟩:=mem_map.mp hd;obtain⟨v,g,B,E,_⟩:=Nu s hs;simp[U,sD];refine tQ (.inr ⟨true,rfl⟩) B E ?_;simp;refine⟨?_,_,rfl,rfl⟩;show D.int (Nz ws fs (XS (sD s)))=_;rw[Hd];unfold Nz;rw[B,E]
   rintro _⟨s',rfl,U⟩;have W:(c.map sD).map (rmD ws fs)=(c.map (Nz ws fs)).map D.int:=by rw[map_map,map_map];rfl
   rw[W];have ag:c≠[]:=by rintro rfl;have:(0:Int)=m-1:=hc.Ey;omega
   obtain⟨x,ah,ai,al⟩:=QZ (ns:=c.map (Nz ws fs)) (by simpa using ag);obtain⟨s,hs,am⟩:=mem_map.mp ai;obtain⟨v,g,B,E,e3⟩:=Nu s hs;have ap:oF v g s.2=x:=by rw[<-am];unfold Nz;rw[B,E]
   have ar:0<x:=by omega
   have J:∀s∈c,∃v g,ws[s.1]?=some v/\fs[s.1]?=some g/\x<=oF v g s.2:=λu I=>by obtain⟨v,g,B,E,_⟩:=Nu u I;refine⟨v,g,B,E,?_⟩;have:=al _ (mem_map.mpr ⟨u,I,rfl⟩);unfold Nz at this;rw[B,E]at this;exact this
   have X:∀s∈c,s.1<ws.length:=λu I=>by obtain⟨v,g,B,_⟩:=Nu u I;exact(eG B).1
   obtain⟨F',L⟩:=H.more t A hc ar J;have Y:Dy m ws (cs++[(c,x)]):=by obtain⟨g1,g2⟩:=H.ht t A hc;refine hst.snoc (λy hy=>Int.le_trans (H.ch y hy).1 g2) ?_;have Z:=H;rw[G]at Z g1 J;exact⟨⟨_,_,Z⟩,g1,by rw[<-G];exact hc.jf,J⟩
   have C:=hS.more h H.pt t A hc hs B E;rw[ap]at C;obtain⟨P',UJ,JX,C⟩:=C;have aI:=C.few hn;generalize c.map (Nz ws fs)=ns at*;simp[fH,ah,h6];apply ak;simp[show cs.length<16777216 by omega];apply ak;simp;refine Jb (.inr ⟨true,rfl⟩) (λu I=>by rw[ac];exact X u I) ?_;simp;apply ak;have av:aug x fs c=flow ws.length (cs++[(c,x)]):=by rw[Gn,<-G]
   simp;refine xY (by omega) L.pt (.inr ⟨true,rfl⟩) h L.fit.len λaw ax=>?_;simp;refine⟨M-1,by omega,cs++[(c,x)],aug x fs c,aw,F',o.2,.val false (.tup (c.map sD)),.val false (.int x),by simp[cD],⟨rfl,rfl⟩,av,L,ax,⟨P',UJ,JX,by rw[length_append];exact C⟩,by simp;omega,λy hy=>?_,Y⟩;rcases mem_append.mp hy with hy|hy;.exact O y hy
   . obtain rfl:y=(c,x):=by simpa using hy
     exact⟨af,X,hc.Ey,hc.nd,(Js t.cm.nd t.cm.z hc.Ey λu I v e=>by obtain⟨l1,o1,o2,h1,h2,_⟩:=hc.lv u I v e;exact⟨l1,o1,o2,h1,h2⟩).1⟩
 .have kt:rG (es.map en) (m-1)=false:=kin_no hq;simp[kt];apply ak;simp;exact k cs fs F d es (by omega) ⟨G,H,t,hq,O,hst⟩
theorem Ir{c:Call}{x:Nat}{k d:P}{ρ:List Sl}:ev c (.Uv x k d) ρ=match ρ[x]?with
 |some (.gA _)=>(cH (isVar k) (ev c k) ρ).bind λe ρ=>(cH (isVar d) (ev c d) ρ).bind λt ρ=>match ρ[x]?with|some (.gA m)=>lift ((m.get e).bind λo=>(gF t).map λv=>.val (.int (o.getD v))) ρ|_=>.stuck
 |_=>.stuck:=(rfl)
theorem Bq{c:Call}{x:Nat}{ρ:List Sl}:ex c n (.El x false) ρ=match ρ[x]?with|some .aW=>.ok .next (ρ.set x (.gA (.k [])))|_=>.stuck:=(rfl)
theorem Ca{c:Call}{x:Nat}{k e:P}{ρ:List Sl}:ex c n (.dput x k e) ρ=(ev c e ρ).bind λr ρ=>match ρ[x]?with
 |some (.gA _)=>(cH (isVar k) (ev c k) ρ).bind λt ρ=>match ρ[x]?,r with
   |some (.gA m),.val (.int v)=>match m.put t v with|some y=>.ok .next (ρ.set x (.gA y))|none=>.stuck
   |_,_=>.stuck
 |_=>.stuck:=(rfl)
@[simp]theorem VJ{x:Nat}{k d:P}:isVar (.Uv x k d)=none:=rfl
theorem Jh:(Dc.get (.k kvs) (.int i))=some ((kvs.find? λe=>decide (e.1=i)).map (·.2)):=rfl
theorem Oi{v:Int}(h:kvs.length<lim):Dc.put (.k kvs) (.int i) v=some (.k (putD kvs i v)):=by show(if _ then _ else _)=_;rw[if_pos h]
def hsD(ws:List Wy)(d:D):D:=.int (hst ws (XS d))
theorem Bk{ws:List Wy}:∀{c:List az},(c.map (hst ws)).sum=bU ws c|[]=>rfl|s::c=>by rw[map_cons,sum_cons,Bk,bU]
inductive F2s(a b:Sl)(ρ:List Sl):Prop where|mk(s:Sl)(q0:ρ=[a,b,s])(q1:fr s=true)
theorem yw(hc:∀s∈c,s.1<ws.length)(E:c.length<=1000)(k:Q (.val (.int (bU ws c))) [.val false (aN m ws),.val false (.tup (c.map sD))]):(run Γ w (n+2) 3 [.val false (aN m ws),.val false (.tup (c.map sD))]).sat Q:=by
 refine aO (d:=f3) rfl rfl (by decide) ?_;symm;simp[f3,show c.length<=16777216 by omega];refine bH (F2s _ _) (hsD ws) ⟨.aW,rfl,rfl⟩ ?_ ?_
 . rintro d hd _⟨C,rfl,t⟩;obtain⟨s,hs,rfl⟩:=mem_map.mp hd;have B:=hc s hs;have e:ws[s.1]?=some ws[s.1]:=by simp[B]
   simp[t,sD];refine sr e ?_;simp;refine⟨?_,_,rfl,rfl⟩;show D.int (hst ws (XS (sD s)))=_;rw[Hd,dC e]
 rintro _⟨C,rfl,t⟩;have y:(c.map sD).map (hsD ws)=(c.map (hst ws)).map D.int:=by rw[map_map,map_map];rfl
 rw[y];have A:=Bk (ws:=ws) (c:=c);generalize c.map (hst ws)=ns at*;simp[fH,A];exact k
def gv(kvs:List (Int×Int))(k:Int):Int:=((kvs.find? λe=>decide (e.1=k)).map (·.2)).getD 0
def Oj(W:Int->Int->Int):Prop:=∀k a b,W k (a+b)=W k a+W k b
def cQ(W:Int->Int->Int):List (Int×Int)->Int|[]=>0|kv::r=>W kv.1 kv.2+cQ W r
theorem pC{W:Int->Int->Int}{b:List (Int×Int)}:∀{a:List (Int×Int)},cQ W (a++b)=cQ W a+cQ W b|[]=>by simp[cQ]|x::a=>by rw[cons_append,cQ,cQ,pC];omega
theorem Gb{W:Int->Int->Int}{a b:List (Int×Int)}(h:a.Perm b):cQ W a=cQ W b:=by induction h with|nil=>rfl|cons a _ e=>rw[cQ,cQ,e]|swap a b l=>rw[cQ,cQ,cQ,cQ];omega|trans _ _ h1 t=>rw[h1,t]
theorem BL{k v:Int}:∀{r:List (Int×Int)},k∉r.map (·.1)->(r.map λe=>if e.1=k then(e.1,v)else e)=r|[],_=>rfl|x::r,h=>by rw[map_cons,mem_cons,not_or]at h;rw[map_cons,BL h.2,if_neg (λz=>h.1 z.symm)]
theorem Ae{W:Int->Int->Int}(B:Oj W){k x:Int}:∀{r:List (Int×Int)},(r.map (·.1)).Nodup->k∈r.map (·.1)->cQ W (r.map λe=>if e.1=k then(e.1,gv r k+x)else e)=cQ W r+W k x
 |[],_,h=>by cases h|y::r,t,h=>by
   rw[map_cons,nodup_cons]at t;by_cases c:y.1=k
   . have A:gv (y::r) k=y.2:=by unfold gv;rw[find?_cons];simp[c]
     rw[A,map_cons,if_pos c,BL (by rw[<-c];exact t.1),cQ,cQ];show W y.1 (y.2+x)+_=_;rw[B,c];omega
   . have A:gv (y::r) k=gv r k:=by unfold gv;rw[find?_cons];simp[c]
     have C:k∈r.map (·.1):=by
      rcases mem_cons.mp h with h|h;.exact absurd h.symm c
      .exact h
     rw[A,map_cons,if_neg c,cQ,cQ,Ae B t.2 C];omega
theorem T8(h:k∉r.map (·.1)):gv r k=0:=by
 unfold gv;rw[List.find?_eq_none.mpr];.rfl
 .intro x t;simp;intro e;exact h (mem_map.mpr ⟨x,t,e⟩)
theorem O8(h:∀t∈r,0<t.2):0<=gv r k:=by unfold gv;cases e:r.find? λt=>decide (t.1=k)with|none=>simp|some x=>have:=h x (List.mem_of_find?_eq_some e);simp;omega
theorem qW{x:Int}(B:(r.map (·.1)).Nodup):((putD r k (gv r k+x)).map (·.1)).Nodup/\(putD r k (gv r k+x)).length<=r.length+1/\(∀t∈putD r k (gv r k+x),t=(k,gv r k+x)\/t∈r)/\∀W,Oj W->cQ W (putD r k (gv r k+x))=cQ W r+W k x:=by
 have E:(r.any λt=>decide (t.1=k))=true↔k∈r.map (·.1):=by rw[any_eq_true,mem_map];exact⟨λ⟨y,h1,C⟩=>⟨y,h1,by simpa using C⟩,λ⟨y,h1,C⟩=>⟨y,h1,by simpa using C⟩⟩
 unfold putD;by_cases c:k∈r.map (·.1)
 . rw[if_pos (E.mpr c)];have e:(r.map λt=>if t.1=k then(t.1,gv r k+x)else t).map (·.1)=r.map (·.1):=by rw[map_map];refine map_congr_left λy _=>?_;show(if y.1=k then _ else _:Int×Int).1=y.1;split<;>rfl
   refine⟨by rw[e];exact B,by simp,λt A=>?_,λW G=>Ae G B c⟩;obtain⟨y,H,rfl⟩:=mem_map.mp A;by_cases z:y.1=k;.rw[if_pos z,z];exact .inl rfl
   .rw[if_neg z];exact .inr H
 . rw[if_neg λz=>c (E.mp z),T8 c,Int.zero_add];refine⟨?_,by simp,λt A=>?_,λW _=>?_⟩;.rw[map_append,nodup_append];exact⟨B,by simp,λa I b J e=>c (by
      have:b=k:=by simpa using J
      rw[<-this,<-e];exact I)⟩
   . rcases mem_append.mp A with hj|hj;.exact .inr hj
     .exact .inl (mem_singleton.mp hj)
   .rw[pC];simp[cQ]
theorem T9{v:Int}(h:r.Pairwise (λa b=>a.1<b.1))(y:∀A∈r,A.1<=k):(putD r k v).Pairwise (λa b=>a.1<b.1):=by
 unfold putD;split;.rw[pairwise_map];refine h.imp λ{a b}e=>?_;split<;>split<;>exact e
 .rename_i B;rw[List.pairwise_append];refine⟨h,by simp,λa t b C=>?_⟩;have h1:=y a t;have E:a.1≠k:=λz=>B (any_eq_true.mpr ⟨a,t,by simpa using z⟩);rw[mem_singleton.mp C];show a.1<k;omega
def J6:D->Int×Int|.tup [.int a,.int b]=>(a,b)|_=>(0,0)
@[simp]theorem afa{a b:Int}:J6 (.tup [.int a,.int b])=(a,b):=rfl
structure J2(ws:List Wy)(cs:List (List az×Int))(kvs:List (Int×Int)):Prop where
 nd:(kvs.map (·.1)).Nodup
 len:kvs.length<=cs.length
 nn:∀kv∈kvs,1<=kv.1/\0<kv.2
 key:∀kv∈kvs,∃x∈cs,kv.1=bU ws x.1
 so:kvs.Pairwise (λa b=>a.1<b.1)sm:∀W,Oj W->cQ W kvs=dG (λx=>W (bU ws x.1) x.2) cs
theorem J2.put(h:J2 ws cs kvs){x:List az×Int}(h0:1<=bU ws x.1)(h1:0<x.2)(G:∀y∈cs,bU ws y.1<=bU ws x.1):J2 ws (cs++[x]) (putD kvs (bU ws x.1) (gv kvs (bU ws x.1)+x.2)):=by
 obtain⟨H,J,C,I⟩:=qW (k:=bU ws x.1) (x:=x.2) h.nd;have L:=h.len;refine⟨H,by simp;omega,λA t=>?_,λA t=>?_,T9 h.so λA t=>?_,λW E=>?_⟩
 . rcases C A t with e|e;.have:=O8 (k:=bU ws x.1) λA t=>(h.nn A t).2;rw[e];exact⟨h0,by show 0<_+_;omega⟩
   .exact h.nn A e
 . rcases C A t with e|e;.exact⟨x,by simp,by rw[e]⟩
   .obtain⟨y,B,e⟩:=h.key A e;exact⟨y,by simp[B],e⟩
 .obtain⟨y,B,e⟩:=h.key A t;rw[e];exact G y B
 .rw[I W E,h.sm W E,lz]
theorem Fx{ws:List Wy}{b:Int}(h0:∀v∈ws,0<=v.h)(t:∀v∈ws,v.h<=1000000):∀{c:List az}{a:Int},gW ws b c a->bU ws c<=1000000*(c.length:Int)
 |[],_,_=>by simp[bU]|s::c,a,⟨v,e,_,y⟩=>by
   have h1:=Fx h0 t y;have A:=t v (mem_of_getElem? e);have B:=h0 v (mem_of_getElem? e);have C:hst ws s<=1000000:=by rw[dC e];unfold hsp;split<;>omega
   rw[bU,length_cons];omega
theorem J2.few(h:J2 ws cs kvs)(A:∀x∈cs,Chk m ws x)(B:ws.length<=12):kvs.length<=531441:=by
 have h1:=ig (l2:=(rJ ws.length).map λe=>jP ws e/7) h.nd λk t=>by obtain⟨C,y,rfl⟩:=mem_map.mp t;obtain⟨x,E,e⟩:=h.key C y;obtain⟨c1,c2,c3,c4,_⟩:=A x E;refine mem_map.mpr ⟨Ec ws.length x.1,by have:=qY (e:=Ec ws.length x.1);rwa[ur]at this,?_⟩;rw[uo c3 c4,e];unfold yo;omega
 rw[length_map,length_map,qM]at h1;have G:3^ws.length<=3^12:=Nat.pow_le_pow_right (by decide) B;have H:(3:Nat)^12=531441:=by decide
 omega
@[simp]theorem XM{kvs:List (Int×Int)}:blt .JK [.dq (.k kvs)]=if kvs.length<=16777216/\kvs.Pairwise (λa b=>a.1<b.1)then some (.own (kvs.map cF))else none:=rfl
def t0(v:Wy):Bool:=decide (v.s=0\/v.t=0)
def t1(m:Int)(v:Wy):Bool:=decide (v.s=m-1\/v.t=m-1)
def sA(v:Wy):Int:=if v.s=0 then v.h else-v.h
def sB(m:Int)(v:Wy):Int:=if v.t=m-1 then v.h else-v.h
def lE(m:Int)(ws:List Wy):List Wy:=ws.filter λv=>t0 v&&t1 m v
def lA(m:Int)(ws:List Wy):List Wy:=ws.filter λv=>t0 v&&!t1 m v
def lB(m:Int)(ws:List Wy):List Wy:=ws.filter λv=>!t0 v&&t1 m v
def lC(m:Int)(ws:List Wy):List Wy:=ws.filter λv=>!t0 v&&!t1 m v
def yE(m:Int)(ws:List Wy):List Int:=(lE m ws).map sA++(lA m ws).flatMap λa=>(lB m ws).flatMap λb=>(sA a+sB m b)::(lC m ws).flatMap λc=>[sA a+(c.h+sB m b),sA a+(-c.h+sB m b)]
theorem mz{e t:Type}{f:e->List t}{k:Nat}:∀{l:List e},(∀x∈l,(f x).length=k)->(l.flatMap f).length=l.length*k|[],_=>by simp|x::l,h=>by rw[List.flatMap_cons,length_append,mz λy A=>h y (by simp[A]),h x (by simp),length_cons,Nat.succ_mul];omega
theorem Hm:(yE m ws).length=(lE m ws).length+(lA m ws).length*((lB m ws).length*((lC m ws).length*2+1)):=by unfold yE;rw[length_append,length_map,mz (k:=(lB m ws).length*((lC m ws).length*2+1)) λa _=>mz λb _=>by rw[length_cons,mz (k:=2) λc _=>rfl]]
theorem wK{m:Int}:∀{ws:List Wy},(lE m ws).length+(lA m ws).length+(lB m ws).length+(lC m ws).length=ws.length|[]=>rfl|v::ws=>by have e:=wK (m:=m) (ws:=ws);unfold lE lA lB lC at*;rw[filter_cons,filter_cons,filter_cons,filter_cons];cases t0 v<;>cases t1 m v<;>simp<;>omega
theorem Kc:∀a,a<7->∀b,b<7->∀c,c<7->∀e,e<7->e+a+b+c<=6->e+a*(b*(c*2+1))<=31:=by decide+kernel
theorem Q6(h:v.Ok m)(e:frm v f=0):hsp v f=sA v/\t0 v=true:=by have:=h.ne;unfold sA t0;cases f with|true=>have e:v.s=0:=e;exact⟨by rw[if_pos e];rfl,by simp[e]⟩|false=>have e:v.t=0:=e;exact⟨by rw[if_neg (by omega)];rfl,by simp[e]⟩
theorem Tp(h:v.Ok m)(e:too v f=m-1):hsp v f=sB m v/\t1 m v=true:=by have:=h.ne;unfold sB t1;cases f with|true=>have e:v.t=m-1:=e;exact⟨by rw[if_pos e];rfl,by simp[e]⟩|false=>have e:v.s=m-1:=e;exact⟨by rw[if_neg (by omega)];rfl,by simp[e]⟩
theorem Rx(h1:frm v f≠0)(e:too v f≠0):t0 v=false:=by unfold t0;cases f with|true=>have h1:v.s≠0:=h1;have e:v.t≠0:=e;simp[h1,e]|false=>have h1:v.t≠0:=h1;have e:v.s≠0:=e;simp[h1,e]
theorem Tw(h1:frm v f≠m-1)(e:too v f≠m-1):t1 m v=false:=by unfold t1;cases f with|true=>have h1:v.s≠m-1:=h1;have e:v.t≠m-1:=e;simp[h1,e]|false=>have h1:v.t≠m-1:=h1;have e:v.s≠m-1:=e;simp[h1,e]
theorem Q8(y:bL m ws)(m4:m<=4):∀{c:List az},gW ws (m-1) c 0->(nZ ws c 0).Nodup->bU ws c∈yE m ws
 |[],I,_=>by have:=y.m0;have I:(0:Int)=m-1:=I;omega|[s],⟨v,e,C,t⟩,_=>by have t:too v s.2=m-1:=t;have B:=mem_of_getElem? e;have o:=y.ok v B;have a:=Q6 o C;have b:=Tp o t;rw[bU,dC e,a.1];unfold yE;refine mem_append.mpr (.inl (mem_map.mpr ⟨v,mem_filter.mpr ⟨B,by rw[a.2,b.2];rfl⟩,?_⟩));show _=sA v+0;omega|[s,s2],⟨v,e,C,u,E,A,t⟩,nd=>by
   have t:too u s2.2=m-1:=t;have B:=mem_of_getElem? e;have H:=mem_of_getElem? E;have o:=y.ok v B;have W:=y.ok u H;have a:=Q6 o C;have b:=Tp W t;have J:iT ws s=too v s.2:=by unfold iT;rw[e]
   have G:iT ws s2=too u s2.2:=by unfold iT;rw[E]
   simp[nZ,J,G,t]at nd;have m0:=y.m0;have L:t1 m v=false:=Tw (f:=s.2) (by rw[C];omega) (by omega);have b2:t0 u=false:=Rx (f:=s2.2) (by rw[A];omega) (by rw[t];omega);rw[bU,bU,dC e,dC E,a.1,b.1];unfold yE;refine mem_append.mpr (.inr (mem_flatMap.mpr ⟨v,mem_filter.mpr ⟨B,by rw[a.2,L];rfl⟩,mem_flatMap.mpr ⟨u,mem_filter.mpr ⟨H,by rw[b.2,b2];rfl⟩,mem_cons.mpr (.inl ?_)⟩⟩));show sA v+(sB m u+0)=_;omega|[s,s2,s3],⟨v,e,C,u,E,A,x,M,O,t⟩,nd=>by
   have t:too x s3.2=m-1:=t;have B:=mem_of_getElem? e;have H:=mem_of_getElem? E;have X:=mem_of_getElem? M;have o:=y.ok v B;have W:=y.ok u H;have Z:=y.ok x X;have a:=Q6 o C;have b:=Tp Z t;have J:iT ws s=too v s.2:=by unfold iT;rw[e]
   have G:iT ws s2=too u s2.2:=by unfold iT;rw[E]
   have U:iT ws s3=too x s3.2:=by unfold iT;rw[M]
   simp[nZ,J,G,U,t]at nd;have m0:=y.m0;have L:t1 m v=false:=Tw (f:=s.2) (by rw[C];omega) (by omega);have b2:t0 x=false:=Rx (f:=s3.2) (by rw[O];omega) (by rw[t];omega);have c1:t0 u=false:=Rx (f:=s2.2) (by rw[A];omega) (by omega);have c2:t1 m u=false:=Tw (f:=s2.2) (by rw[A];omega) (by omega);have hc:hsp u s2.2=u.h\/hsp u s2.2=-u.h:=by unfold hsp;split<;>simp
   rw[bU,bU,bU,dC e,dC E,dC M,a.1,b.1];unfold yE;refine mem_append.mpr (.inr (mem_flatMap.mpr ⟨v,mem_filter.mpr ⟨B,by rw[a.2,L];rfl⟩,mem_flatMap.mpr ⟨x,mem_filter.mpr ⟨X,by rw[b.2,b2];rfl⟩,mem_cons.mpr (.inr (mem_flatMap.mpr ⟨u,mem_filter.mpr ⟨H,by rw[c1,c2];rfl⟩,?_⟩))⟩⟩));show sA v+(hsp u s2.2+(sB m x+0))∈_;rw[Int.add_zero];rcases hc with hc|hc<;>rw[hc]<;>simp|s::s2::s3::s4::c,I,nd=>by
   have h1:=zq (HN.of y) I ⟨by omega,by have:=y.m0;omega⟩;have Y:=ig (l2:=(List.range m.toNat).map λ(i:Nat)=>(i:Int)) nd λq hq=>by have:=h1 q hq;exact mem_map.mpr ⟨q.toNat,List.mem_range.mpr (by omega),by omega⟩
   rw[u0]at Y;simp at Y;omega
theorem J2.acg(h:J2 ws cs kvs)(A:∀x∈cs,Chk m ws x)(B:bL m ws)(m4:m<=4)(l6:ws.length<=6):kvs.length<=31:=by
 have h1:=ig (l2:=yE m ws) h.nd λk t=>by obtain⟨C,y,rfl⟩:=mem_map.mp t;obtain⟨x,E,e⟩:=h.key C y;obtain⟨_,_,c3,_,c5⟩:=A x E;rw[e];exact Q8 B m4 c3 c5
 rw[length_map,Hm]at h1;have G:=wK (m:=m) (ws:=ws);have H:=Kc (lA m ws).length (by omega) (lB m ws).length (by omega) (lC m ws).length (by omega) (lE m ws).length (by omega) (by omega);omega
inductive JBn(m:Int)(ws:List Wy)(cs:List (List az×Int))(r:List D)(ρ:List Sl):Prop where|mk(cU us:List (List az×Int))(kvs:List (Int×Int))(s2 s3 s4:Sl)(q0:ρ=[.val false (aN m ws),.gA (.k kvs),s2,s3,s4])(q1:A3 (fr s2=true) (fr s3=true) (fr s4=true))(q2:r=us.map cD)(q3:cU++us=cs)(q4:J2 ws cU kvs)
theorem tY(Y:13286250<=w)(h:bL m ws)(k:∀cs fs F d es kvs,(kvs.length<=531441/\(m<=4->ws.length<=6->kvs.length<=31))->Ends m ws cs fs F d es->J2 ws cs kvs->kvs.Pairwise (λa b=>a.1<b.1)->(∀G∈kvs,G.1<=5000000)->Q (.own (kvs.map cF)) [.val false (aN m ws)]):(run Γ w (n+5) 10 [.val false (aN m ws)]).sat Q:=by
 refine aO (d:=f10) rfl rfl (by decide) ?_;symm;simp[f10,Bq];apply ak;simp;refine Fv Y (HN.of h) (λv B=>(h.ok v B).r0) λcs fs F d es hl A=>?_;simp;refine cL (JBn m ws cs) ?_ ?_ ⟨[],cs,[],.aW,.aW,.aW,rfl,⟨rfl,rfl,rfl⟩,rfl,rfl,⟨by simp,by simp,by simp,by simp,by simp,λW _=>rfl⟩⟩;.rintro d r _⟨C,us,kvs,s2,s3,s4,rfl,⟨H,O,U⟩,hr,hd,t⟩;cases us with|nil=>cases hr|cons u us=>
     obtain⟨rfl,rfl⟩:d=cD u/\r=us.map cD:=by simpa using hr
     have I:u∈cs:=by rw[<-hd];simp
     have E:=A.ck u I;have Z:C.length<=cs.length:=by rw[<-hd];simp
     have J:=t.len;have L:(C++[u])++us=cs:=by rw[append_assoc];exact hd
     simp[cD,H,O];apply ak;simp;refine yw E.2.1 (by have:=E.1;omega) ?_;simp[U];apply ak;simp[Ca,Ir,Jh];rw[Oi (by show _<16777216;omega)];simp;refine⟨C++[u],us,_,_,_,_,rfl,⟨rfl,rfl,rfl⟩,rfl,L,t.put ((A.iv.nn λv B=>(h.ok v B).h0).2 u I) (A.iv.ch u I).2.1 λy hy=>?_⟩;have hst:=A.st.1;rw[<-hd,List.pairwise_append]at hst;exact hst.2.2 y hy u (by simp)
 . rintro _⟨C,us,kvs,s2,s3,s4,rfl,⟨H,O,U⟩,hr,hd,t⟩;have:us=[]:=by cases us with|nil=>rfl|cons _ _=>cases hr
   subst this;rw[append_nil]at hd;subst hd;have J:=t.len;simp;apply ak;simp[show kvs.length<=16777216 by omega,t.so];refine k C fs F d es kvs ⟨t.few A.ck (HN.of h).len,λm4 l6=>t.acg A.ck h m4 l6⟩ A t t.so λG M=>?_;obtain⟨x,X,e⟩:=t.key G M;have h1:=Fx (λv B=>((HN.of h).ok v B).2.2) (λv B=>(h.ok v B).h1) (A.ck x X).2.2.1;have H:=(A.ck x X).1;rw[e];omega
def vt(T k v:Int):Int:=if k<=T then v*(T-k+1)else 0
def gt(T k v:Int):Int:=if k<=T then v else 0
theorem Gp{T:Int}:Oj (vt T):=λk a b=>by
 unfold vt;split;.exact add_mul ..
 .rfl
theorem ab4{T:Int}:Oj (gt T):=λk a b=>by unfold gt;split<;>rfl
theorem Uq:Oj λ_ v=>v:=λ_ _ _=>rfl
def dO(m:Int)(ws:List Wy)(cs:List (List az×Int)):Prop:=(∀v∈ws,1<=v.h)/\∃fs F d es,Ends m ws cs fs F d es
def Rt(ws:List Wy)(cs:List (List az×Int))(T:Int):Int:=dG (λx=>gt T (bU ws x.1) x.2) cs
def Tot(cs:List (List az×Int)):Int:=dG (λx=>x.2) cs
theorem bZ.uniq{T v e:Int}(h:bZ m ws T v)(h':bZ m ws T e):v=e:=by obtain⟨q,t,y,A⟩:=h.ex;obtain⟨r,r0,r1,B⟩:=h'.ex;have:=h.le r r0 r1;have:=h'.le q t y;omega
theorem dO.least{m:Int}{ws:List Wy}{cs:List (List az×Int)}(h:dO m ws cs){T:Int}(h0:0<=T):bZ m ws T (val ws T cs):=by obtain⟨t,fs,F,d,es,e⟩:=h;exact e.iv.least e.cm e.no h0
theorem xr{H K:List az×Int->Int}:∀{cs:List (List az×Int)},dG (λx=>H x-K x) cs=dG H cs-dG K cs|[]=>rfl|x::cs=>by rw[dG,dG,dG,xr];omega
theorem um{H K:List az×Int->Int}:∀{cs:List (List az×Int)},(∀x∈cs,H x<=K x)->dG H cs<=dG K cs|[],_=>Int.le_refl _|x::cs,h=>by have h1:=h x (by simp);have t:=um (H:=H) (K:=K) (cs:=cs) λy e=>h y (by simp[e]);rw[dG,dG];omega
theorem yM{T:Int}:Rt ws cs T=val ws T cs-val ws (T-1) cs:=by
 unfold Rt val;rw[<-xr];refine o6 λx _=>?_;show gt T (bU ws x.1) x.2=vt T (bU ws x.1) x.2-vt (T-1) (bU ws x.1) x.2;unfold gt vt;by_cases c:bU ws x.1<=T-1;.rw[if_pos (by omega),if_pos (by omega),if_pos c,<-mul_sub,show T-bU ws x.1+1-(T-1-bU ws x.1+1)=1 by omega,mul_one]
 . by_cases c2:bU ws x.1<=T;.rw[if_pos c2,if_pos c2,if_neg c,show T-bU ws x.1+1=1 by omega,mul_one];omega
   .rw[if_neg c2,if_neg c2,if_neg c];rfl
theorem dO.nn{m:Int}{ws:List Wy}{cs:List (List az×Int)}(h:dO m ws cs):∀x∈cs,1<=bU ws x.1/\0<x.2:=by obtain⟨e,fs,F,d,es,t⟩:=h;exact λx y=>⟨(t.iv.nn e).2 x y,(t.iv.ch x y).2.1⟩
theorem dO.cV(h:dO m ws cs){T:Int}(h0:T<=0):val ws T cs=0:=by
 have:val ws T cs=dG (λ_=>0) cs:=o6 λx e=>by have:=(h.nn x e).1;show vt T (bU ws x.1) x.2=0;unfold vt;rw[if_neg (by omega)]
 rw[this];clear this h;induction cs with|nil=>rfl|cons x cs t=>rw[dG,t];rfl
theorem dO.val_eq(h:dO m ws cs)(h':dO m ws cs')(T:Int):val ws T cs=val ws T cs':=by
 by_cases c:0<=T;.exact(h.least c).uniq (h'.least c)
 .rw[h.cV (by omega),h'.cV (by omega)]
theorem dO.aeT(h:dO m ws cs)(h':dO m ws cs')(T:Int):Rt ws cs T=Rt ws cs' T:=by rw[yM,yM,h.val_eq h',h.val_eq h']
theorem dO.mono(h:dO m ws cs){T U:Int}(t:T<=U):Rt ws cs T<=Rt ws cs U:=um λx e=>by have:=(h.nn x e).2;unfold gt;split<;>split<;>omega
theorem dO.aeB(h:dO m ws cs){T:Int}:Rt ws cs T<=Tot cs:=um λx e=>by have:=(h.nn x e).2;unfold gt;split<;>omega
theorem dO.aeJ(h:dO m ws cs){T:Int}:0<=Rt ws cs T:=by
 have h1:=h.mono (T:=min T 0) (U:=T) (by omega);have:Rt ws cs (min T 0)=0:=by rw[yM,h.cV (by omega),h.cV (by omega)];rfl
 omega
inductive F2t(a b:Sl)(ρ:List Sl):Prop where|mk(s:Sl)(t:Sl)(q0:ρ=[a,b,s,t])(q1:fr s=true)(q2:fr t=true)
def tk:List (Int×Int)->Int->List (Int×Int)|[],_=>[]|kv::r,q=>(kv.1,min q kv.2)::tk r (q-min q kv.2)
def Pr:List (Int×Int)->Int->Int|[],q=>q|kv::r,q=>Pr r (q-min q kv.2)
def lh:List (Int×Int)->Int->Int|[],_=>0|kv::r,q=>kv.1*min q kv.2+lh r (q-min q kv.2)
def vs:List (Int×Int)->Int|[]=>0|kv::r=>kv.2+vs r
theorem Bt:∀{l:List (Int×Int)},(∀kv∈l,1<=kv.1/\0<kv.2)->0<=vs l|[],_=>Int.le_refl _|kv::r,h=>by have h1:=h kv (by simp);have t:=Bt (l:=r) λx e=>h x (by simp[e]);rw[vs];omega
theorem Og:∀{l:List (Int×Int)}{q:Int},(∀kv∈l,1<=kv.1/\0<kv.2)->0<=q->q<=vs l->Pr l q=0|[],q,_,h0,h1=>by rw[vs]at h1;rw[Pr];omega|kv::r,q,h,h0,h1=>by have t:=h kv (by simp);have hr:∀x∈r,1<=x.1/\0<x.2:=λx e=>h x (by simp[e]);have y:=Bt hr;rw[vs]at h1;rw[Pr];exact Og hr (by omega) (by omega)
theorem Mv:∀{l:List (Int×Int)},(∀kv∈l,1<=kv.1/\0<kv.2)->lh l 0=0|[],_=>rfl|kv::r,h=>by have t:=h kv (by simp);rw[lh,show min 0 kv.2=0 by omega,mul_zero,sub_zero,Mv λx e=>h x (by simp[e])];rfl
theorem Ph{T:Int}:∀{l:List (Int×Int)}{q:Int},(∀kv∈l,1<=kv.1/\0<kv.2)->0<=q->q<=vs l->(T+1)*q-cQ (vt T) l<=lh l q
 |[],q,_,h0,h1=>by
   rw[vs]at h1;have:q=0:=by omega
   subst this;simp[cQ,lh]|kv::r,q,h,h0,h1=>by
   have y:=h kv (by simp);have hr:∀x∈r,1<=x.1/\0<x.2:=λx e=>h x (by simp[e]);have A:=Bt hr;rw[vs]at h1;have B:=Ph (T:=T) (l:=r) (q:=q-min q kv.2) hr (by omega) (by omega);rw[cQ,lh];have C:(T+1)*q=(T+1)*min q kv.2+(T+1)*(q-min q kv.2):=by rw[<-mul_add];congr 1;omega
   have E:(T+1)*min q kv.2-vt T kv.1 kv.2<=kv.1*min q kv.2:=by
    unfold vt;by_cases c:kv.1<=T
    . rw[if_pos c];have t:min q kv.2*(T-kv.1+1)<=kv.2*(T-kv.1+1):=Int.mul_le_mul_of_nonneg_right (by omega) (by omega);have G:(T+1)*min q kv.2=kv.1*min q kv.2+min q kv.2*(T-kv.1+1):=by rw[mul_comm (min q kv.2),<-add_mul];congr 1;omega
      omega
    .rw[if_neg c];have t:(T+1)*min q kv.2<=kv.1*min q kv.2:=Int.mul_le_mul_of_nonneg_right (by omega) (by omega);omega
   omega
theorem xx{W:Int->Int->Int}:∀{l:List (Int×Int)},(∀kv∈l,W kv.1 kv.2=0)->cQ W l=0|[],_=>rfl|kv::r,h=>by rw[cQ,h kv (by simp),xx λx e=>h x (by simp[e])];rfl
theorem O1:∀{l:List (Int×Int)}{q:Int},(∀kv∈l,1<=kv.1/\0<kv.2)->l.Pairwise (λa b=>a.1<b.1)->0<q->q<=vs l->∃kv∈l,kv.1*q-cQ (vt (kv.1-1)) l=lh l q
 |[],q,_,_,h0,h1=>by rw[vs]at h1;omega|kv::r,q,h,y,h0,h1=>by
   have C:=h kv (by simp);have hr:∀x∈r,1<=x.1/\0<x.2:=λx t=>h x (by simp[t]);have y:=List.pairwise_cons.mp y;rw[vs]at h1;by_cases c:q<=kv.2;.refine⟨kv,by simp,?_⟩;rw[lh,show min q kv.2=q by omega,Int.sub_self,Mv hr,cQ,xx λx t=>by have:=y.1 x t;unfold vt;rw[if_neg (by omega)]];unfold vt;rw[if_neg (by omega)];omega
   . obtain⟨x,t,e⟩:=O1 (l:=r) (q:=q-kv.2) hr y.2 (by omega) (by omega);have A:=y.1 x t;refine⟨x,by simp[t],?_⟩;rw[lh,show min q kv.2=kv.2 by omega,<-e,cQ];have B:vt (x.1-1) kv.1 kv.2=kv.2*x.1-kv.2*kv.1:=by unfold vt;rw[if_pos (by omega),<-mul_sub];congr 1;omega
     rw[B,mul_sub,mul_comm x.1 kv.2,mul_comm kv.1 kv.2];omega
theorem Gf:∀{l:List (Int×Int)},cQ (λ_ v=>v) l=vs l|[]=>rfl|kv::r=>by rw[cQ,vs,Gf]
inductive JCu(a0 a1:Sl)(N:Nat)(out:List (Int×Int))(z:Int)(r:List D)(ρ:List Sl):Prop where|mk(us cU:List (Int×Int))(q:Int)(s4 s5 s6:Sl)(q0:ρ=[a0,a1,.own false (cU.map cF),.val false (.int q),s4,s5,s6])(q1:A3 (fr s4=true) (fr s5=true) (fr s6=true))(q2:r=us.map cF)(q3:cU++tk us q=out)(q4:Pr us q=z)(q5:cU.length+us.length=N)
theorem CV{q:Int}(E:kvs.length<=16000000)(hz:Pr kvs q=0)(k:Q (.own ((tk kvs q).map cF)) [.own false (kvs.map cF),.val false (.int q)]):(run Γ w (n+1) 9 [.own false (kvs.map cF),.val false (.int q)]).sat Q:=by
 refine aO (d:=f9) rfl rfl (by decide) ?_;symm;simp[f9];apply ak;simp;apply ak;simp;refine cL (JCu _ _ kvs.length (tk kvs q) 0) ?_ ?_ ⟨kvs,[],q,.aW,.aW,.aW,rfl,⟨rfl,rfl,rfl⟩,rfl,rfl,hz,by simp⟩;.rintro d r _⟨us,e,q,s4,s5,s6,rfl,⟨t,y,A⟩,hr,ho,hz,B⟩;cases us with|nil=>cases hr|cons u us=>
     obtain⟨rfl,rfl⟩:d=cF u/\r=us.map cF:=by simpa using hr
     rw[tk]at ho;rw[Pr]at hz;rw[length_cons]at B;simp[cF,t,y];apply ak;simp[A];apply ak;simp[show e.length<16777216 by omega];apply ak;simp;have C:(if u.2<q then u.2 else q)=min q u.2:=by split<;>omega
     rw[C];exact⟨us,e++[(u.1,min q u.2)],q-min q u.2,.val false (.int u.1),.val false (.int u.2),.val false (.int (min q u.2)),by rw[map_append];rfl,⟨rfl,rfl,rfl⟩,rfl,by rw[append_assoc];exact ho,hz,by simp;omega⟩
 . rintro _⟨us,e,q,s4,s5,s6,rfl,⟨t,y,A⟩,hr,ho,hz,B⟩;have:us=[]:=by cases us with|nil=>rfl|cons _ _=>cases hr
   subst this;rw[tk,append_nil]at ho;rw[Pr]at hz;subst ho;subst hz;simp;apply ak;simp;apply ak;simp;exact k
theorem Jf:∀{l:List (Int×Int)}{q:Int},(tk l q).length=l.length|[],_=>rfl|kv::r,q=>by rw[tk,length_cons,Jf,length_cons]
theorem Hs:∀{l:List (Int×Int)}{q:Int}{x:Int×Int},x∈tk l q->∃kv∈l,x.1=kv.1
 |[],_,_,h=>by cases h|kv::r,q,x,h=>by
   rw[tk,mem_cons]at h;rcases h with rfl|h;.exact⟨kv,by simp,rfl⟩
   .obtain⟨y,t,e⟩:=Hs h;exact⟨y,by simp[t],e⟩
theorem Gu:∀{l:List (Int×Int)}{q:Int},((tk l q).map λx=>x.1*x.2).sum=lh l q|[],_=>rfl|kv::r,q=>by rw[tk,lh,map_cons,sum_cons,Gu]
def mlD(d:D):D:=.int ((J6 d).1*(J6 d).2)
structure vR(m:Int)(ws:List Wy)(cs:List (List az×Int))(kvs:List (Int×Int)):Prop where
 e:dO m ws cs
 b:J2 ws cs kvs
 so:kvs.Pairwise (λa b=>a.1<b.1)le:∀kv∈kvs,kv.1<=5000000
 len:kvs.length<=531441
 few:m<=4->ws.length<=6->kvs.length<=31
theorem vR.vs{m:Int}{ws:List Wy}{cs:List (List az×Int)}{kvs:List (Int×Int)}(h:vR m ws cs kvs):T.vs kvs=Tot cs:=by rw[<-Gf];exact h.b.sm _ Uq
theorem vR.vt{m:Int}{ws:List Wy}{cs:List (List az×Int)}{kvs:List (Int×Int)}(h:vR m ws cs kvs)(U:Int):cQ (T.vt U) kvs=val ws U cs:=h.b.sm _ Gp
theorem qF{q:Int}(I:13286250<=w)(h:bL m ws)(J:0<=q)(L:∀cs kvs,vR m ws cs kvs->q<=T.vs kvs)(k:∀cs kvs,vR m ws cs kvs->Q (.val (.int (lh kvs q))) [.val false (aN m ws),.val false (.int q)]):(run Γ w (n+6) 11 [.val false (aN m ws),.val false (.int q)]).sat Q:=by
 refine aO (d:=f11) rfl rfl (by decide) ?_;symm;simp[f11];refine tY I h λcs fs F d es kvs B M C E y=>?_;have G:vR m ws cs kvs:=⟨⟨λv O=>(h.ok v O).h0,fs,F,d,es,M⟩,C,E,y,B.1,B.2⟩;simp;have B:=B.1;refine CV (by omega) (Og C.nn J (L cs kvs G)) ?_;simp[Jf,show kvs.length<=16777216 by omega];refine bH (F2t _ _) mlD ⟨.aW,.aW,rfl,rfl,rfl⟩ ?_ ?_
 . rintro d hd _⟨s,t,rfl,hs,ht⟩;obtain⟨x,U,rfl⟩:=mem_map.mp hd;obtain⟨H,A,e⟩:=Hs U;have h1:=y H A;have Y:=(C.nn H A).1;have W:jA (.int x.1) (.int x.2)=some (.val (.int (x.1*x.2))):=by show(if _ then _ else _)=_;rw[if_pos];left;omega
   simp[hs,ht,cF,mlD,W];exact⟨_,_,rfl,rfl,rfl⟩
 . rintro _⟨s,t,rfl,hs,ht⟩;have e:((tk kvs q).map cF).map mlD=((tk kvs q).map λx=>x.1*x.2).map D.int:=by rw[map_map,map_map];rfl
   rw[e];have X:=Gu (l:=kvs) (q:=q);generalize((tk kvs q).map λx=>x.1*x.2)=ns at*;simp[fH,X];exact k cs kvs G
theorem gK(h:a<=1000000000000000000000):a<big:=by show _<(1606938044258990275541962092341162602522202993782792835301376:Int);omega
theorem Im{lo hi:Int}(h0:0<=i)(h1:i<(ns.length:Int))(k:∀x∈ns,lo<=x/\x<=hi):∃r,at' (ns.map D.int) i=some (.int r)/\lo<=r/\r<=hi:=by
 have e:i.toNat<ns.length:=by omega
 refine⟨ns[i.toNat],?_,k _ (getElem_mem e)⟩;rw[yR h0 (by simpa using h1)];simp[e]
theorem fY{x y:Int}(h0:0<m)(e:m<big)(k:∀d x z:Int,0<=d->d<m->Q (.val (.int d)) [.own true [.int x,.int y,.int z],.val false (.int m)]):(run Γ w (n+2) 19 [.own true [.int x,.int y,.int z],.val false (.int m)]).sat Q:=by refine aO (d:=Zw) rfl rfl (by decide) ?_;symm;simp[Zw];refine cT (by decide) (by decide) λa x z t A=>?_;simp;refine cT (by decide) (by decide) λb x z b0 b1=>?_;simp[h0];exact k _ _ _ (emod_nonneg _ (by omega)) (emod_lt_of_pos _ h0)
theorem Um{e:Type}{xs:List e}{lo hi:Option Int}:(cut xs lo hi).length<=xs.length:=by unfold cut;simp;omega
theorem Kq{cs:List Int}{a b:Option Int}:cut (cs.map D.int) a b=(cut cs a b).map D.int:=by unfold cut;simp
theorem ab3{e:List D}{b:WM}{ps:List P}:Mh (.lst e) (part (.con .non) .non) (part (.blt b ps) (.int i))=some (.own (cut e none (some i))):=rfl
theorem uG{T:Int}:∀{l:List (Int×Int)},(∀e∈l,T<e.1)->cQ (gt T) l=0|[],_=>rfl|x::l,h=>by have h1:=h x (by simp);have t:=uG (T:=T) (l:=l) λy A=>h y (by simp[A]);show gt T x.1 x.2+cQ (gt T) l=0;rw[t];unfold gt;rw[if_neg (by omega)];rfl
theorem uc{x:Int×Int}{l:List (Int×Int)}(h:(x::l).Pairwise (λa b=>a.1<b.1)):cQ (gt x.1) (x::l)=x.2:=by have h:=List.pairwise_cons.mp h;show gt x.1 x.1 x.2+cQ (gt x.1) l=_;rw[uG h.1];unfold gt;rw[if_pos (Int.le_refl _)];omega
theorem sX:∀{a b:List (Int×Int)},a.Pairwise (λa b=>a.1<b.1)->b.Pairwise (λa b=>a.1<b.1)->(∀t∈a,0<t.2)->(∀t∈b,0<t.2)->(∀T,cQ (gt T) a=cQ (gt T) b)->a=b
 |[],[],_,_,_,_,_=>rfl|[],y::b,_,A,_,C,h=>by have h1:=h y.1;rw[uc A]at h1;have J:=C y (by simp);have L:cQ (gt y.1) []=0:=rfl;omega|x::a,[],B,_,E,_,h=>by have h1:=h x.1;rw[uc B]at h1;have J:=E x (by simp);have L:cQ (gt x.1) []=0:=rfl;omega|x::a,y::b,B,A,E,C,h=>by
   have U:=E x (by simp);have W:=C y (by simp);have G:=List.pairwise_cons.mp B;have H:=List.pairwise_cons.mp A;have lt:¬ x.1<y.1:=λz=>by
    have h1:=h x.1;rw[uc B,uG λt hkv=>?_]at h1;.omega
    . rcases mem_cons.mp hkv with rfl|hkv;.exact z
      .have:=H.1 t hkv;omega
   have M:¬ y.1<x.1:=λz=>by
    have h1:=h y.1;rw[uc A,uG λt hkv=>?_]at h1;.omega
    . rcases mem_cons.mp hkv with rfl|hkv;.exact z
      .have:=G.1 t hkv;omega
   have I:x.1=y.1:=by omega
   have O:x.2=y.2:=by have h1:=h x.1;rw[uc B,I,uc A]at h1;exact h1
   have e:x=y:=Prod.ext_iff.mpr ⟨I,O⟩;subst e;rw[sX G.2 H.2 (λt z=>E t (by simp[z])) (λt z=>C t (by simp[z])) λT=>?_];have h1:gt T x.1 x.2+cQ (gt T) a=gt T x.1 x.2+cQ (gt T) b:=h T;omega
theorem FQ{T:Int}:∀{l:List (Int×Int)},cQ (gt T) l=cQ (vt T) l-cQ (vt (T-1)) l
 |[]=>rfl|x::l=>by
   have e:=FQ (T:=T) (l:=l);have t:cQ (gt T) (x::l)=gt T x.1 x.2+cQ (gt T) l:=rfl;have y:cQ (vt T) (x::l)=vt T x.1 x.2+cQ (vt T) l:=rfl;have A:cQ (vt (T-1)) (x::l)=vt (T-1) x.1 x.2+cQ (vt (T-1)) l:=rfl;have B:gt T x.1 x.2=vt T x.1 x.2-vt (T-1) x.1 x.2:=by
    unfold gt vt;by_cases c:x.1<=T
    . by_cases d:x.1<=T-1;.rw[if_pos c,if_pos c,if_pos d,<-mul_sub,show T-x.1+1-(T-1-x.1+1)=1 by omega,mul_one]
      .rw[if_pos c,if_pos c,if_neg d,show T-x.1+1=1 by omega,mul_one];omega
    .rw[if_neg c,if_neg c,if_neg (by omega)];rfl
   omega
theorem qu{T v:Int}:vt T k v=v*max 0 (T+1-k):=by
 unfold vt;split;.congr 1;omega
 .rw[max_eq_left (by omega),mul_zero]
theorem lZ{H:Wy->Int}{b:List Wy}:∀{a:List Wy},bw H (a++b)=bw H a+bw H b|[]=>by simp[bw]|x::a=>by rw[cons_append,bw,bw,lZ];omega
theorem jl{q r:Int->Int}:∀{ws:List Wy},(∀v∈ws,q v.s=r v.s/\q v.t=r v.t)->cj q ws=cj r ws|[],_=>rfl|v::ws,h=>by have h1:=h v (by simp);have e:=jl (q:=q) (r:=r) (ws:=ws) λu y=>h u (by simp[y]);show lO q v+cj q ws=lO r v+cj r ws;rw[e];unfold lO;rw[h1.1,h1.2]
theorem R9{r s:Int}(r0:0<=r)(s0:0<=s):min r s*max 0 (a+b)<=r*max 0 a+s*max 0 b:=by have h1:min r s*max 0 a<=r*max 0 a:=Int.mul_le_mul_of_nonneg_right (by omega) (by omega);have t:min r s*max 0 b<=s*max 0 b:=Int.mul_le_mul_of_nonneg_right (by omega) (by omega);have e:min r s*max 0 (a+b)<=min r s*(max 0 a+max 0 b):=mul_le_mul_of_nonneg_left (by omega) (by omega);rw[mul_add]at e;omega
theorem vB:Dn v.d (.int 0)=some (.val (.int v.s)):=by simp[Wy.d]
theorem uW:Dn v.d (.int 1)=some (.val (.int v.t)):=by simp[Wy.d]
theorem oK:Dn v.d (.int 2)=some (.val (.int v.r)):=by simp[Wy.d]
theorem oA:Dn v.d (.int 3)=some (.val (.int v.h)):=by simp[Wy.d]
theorem tK(e:ws[j]?=some v)(k:Q (.val v.d) [.val false (aN m ws),.val false (.int j)]):(run Γ w (n+1) 12 [.val false (aN m ws),.val false (.int j)]).sat Q:=by have t:=(eG e).1;refine aO (d:=f12) rfl rfl (by decide) ?_;symm;simp[f12,t];apply ak;simp[dX e];exact k
theorem Lq{e:Type}{xs:List e}(h0:0<=k)(h1:k<(xs.length:Int)):cut xs none (some k)=xs.take k.toNat:=by unfold cut du;simp[h0];try rw[Nat.min_eq_left (by omega)]
theorem Kh{t:Type}{xs:List t}(h0:0<=k)(h1:k<(xs.length:Int)):cut xs (some (k+1)) none=xs.drop (k.toNat+1):=by
 unfold cut du;have e:(k+1).toNat=k.toNat+1:=by omega
 simp[show 0<=k+1 by omega,e];try rw[Nat.min_eq_left (by omega)]
 try rw[List.take_of_length_le (by simp)]
theorem Qw{e:Type}{ws:List e}{v:e}(h:j<ws.length):ws.take j++v::ws.drop (j+1)=ws.set j v:=by rw[List.set_eq_take_append_cons_drop,if_pos h]
theorem Dd{r:Int}(h:bL m ws)(e:ws[j]?=some v)(k:Q (.val (aN m (ws.set j ⟨v.s,v.t,r,v.h⟩))) [.val false (aN m ws),.val false (.int j),.val false (.int r)]):(run Γ w (n+2) 13 [.val false (aN m ws),.val false (.int j),.val false (.int r)]).sat Q:=by have y:=(eG e).1;have A:=h.len;have c1:=Lq (xs:=ws.map Wy.d) (k:=(j:Int)) (by omega) (by simp;omega);have c2:=Kh (xs:=ws.map Wy.d) (k:=(j:Int)) (by omega) (by simp;omega);refine aO (d:=Z4) rfl rfl (by decide) ?_;symm;simp[Z4];refine tK e ?_;simp;apply ak;simp[vB,uW,oA];apply ak;simp[Mh,part,Qx,c1,c2];refine⟨by show _<=16777216;omega,by show _<=16777216;omega,?_⟩;rw[<-Qw y]at k;simpa[aN,Wy.d]using k
def tw(m:Int)(v:Wy):Wy:=⟨m-1-v.t,m-1-v.s,v.r,v.h⟩
inductive F3n(a0 a1 a2:Sl)(ρ:List Sl):Prop where|mk(s:Sl)(q0:ρ=[a0,a1,a2,s])(q1:fr s=true)
def twD(m:Int):D->D|.tup [.int s,.int t,.int r,.int h]=>(tw m ⟨s,t,r,h⟩).d|d=>d
theorem wV(A:ws.length<=12)(q:Q (.val (aN m (ws.map (tw m)))) [.val false (aN m ws)]):(run Γ w (n+1) 14 [.val false (aN m ws)]).sat Q:=by
 have t:ws.length<=lim:=by show _<=16777216;omega
 refine aO (d:=f14) rfl rfl (by decide) ?_;symm;simp[f14];apply ak;simp[t];refine bH (F3n _ _ _) (twD m) ⟨.aW,rfl,rfl⟩ ?_ ?_;.rintro d hd _⟨s,rfl,hs⟩;obtain⟨v,_,rfl⟩:=mem_map.mp hd;simp[hs,vB,uW,oK,oA];exact⟨rfl,_,rfl,rfl⟩
 rintro _⟨s,rfl,hs⟩;have e:(ws.map Wy.d).map (twD m)=(ws.map (tw m)).map Wy.d:=by rw[map_map,map_map];rfl
 rw[e];simp;apply ak;simp;have y:aN m (ws.map (tw m))=.tup [.int m,.tup (ws.map (Wy.d ∘ tw m))]:=by simp[aN]
 rw[y]at q;exact q
theorem Hn(h:bL m ws):bL m (ws.map (tw m)):=by refine⟨h.m0,h.m1,by simpa using h.len,λv e=>?_⟩;obtain⟨u,y,rfl⟩:=mem_map.mp e;have k:=h.ok u y;have A:=k.s0;have B:=k.s1;have C:=k.t0;have E:=k.t1;have G:=k.ne;exact⟨by show 0<=m-1-u.t;omega,by show m-1-u.t<m;omega,by show 0<=m-1-u.s;omega,by show m-1-u.s<m;omega,by show m-1-u.t≠m-1-u.s;omega,k.r0,k.r1,k.h0,k.h1⟩
def mv(m x:Int):Int:=if x=m-1 then m else x
def Ax(m:Int)(w:Wy):Wy:=⟨mv m w.s,mv m w.t,w.r,w.h⟩
def nH(m:Int)(ws:List Wy)(j:Nat)(u:Wy)(t:Int):List Wy:=(ws.map (Ax m)).set j ⟨mv m u.s,m-1,u.r,t⟩++[⟨m-1,mv m u.t,u.r,u.h-t⟩]
theorem sO(q:Q (.val (.int (mv m p))) [.val false (.int (m-1)),.val false (.int p)]):(run Γ w (n+1) 15 [.val false (.int (m-1)),.val false (.int p)]).sat Q:=by
 refine aO (d:=Ww) rfl rfl (by decide) ?_;symm;unfold mv at q;by_cases h:p=m-1;.rw[if_pos h]at q;simpa[Ww,h]using(by simpa[h]using q)
 .rw[if_neg h]at q;simpa[Ww,h]using q
inductive F7(a b c d e f g:Sl)(ρ:List Sl):Prop where|mk(s:Sl)(q0:ρ=[a,b,c,d,e,f,g,s])(q1:fr s=true)
def mvD(m:Int):D->D|.tup [.int s,.int t,.int r,.int h]=>(Ax m ⟨s,t,r,h⟩).d|d=>d
theorem PJ{w:Wy}:mvD m w.d=(Ax m w).d:=rfl
theorem zy{t:Int}(I:ws.length<=12)(y:ws[j]?=some u)(t0:1<=t)(t1:t<u.h)(q:Q (.val (aN (m+1) (nH m ws j u t))) [.val false (aN m ws),.val false (.int j),.val false (.int t)]):(run Γ w (n+2) 16 [.val false (aN m ws),.val false (.int j),.val false (.int t)]).sat Q:=by
 have B:=(eG y).1;refine aO (d:=f16) rfl rfl (by decide) ?_;symm;simp[f16];refine tK y ?_;simp[oA];apply ak;simp[t0,t1];apply ak;simp;apply ak;have e:ws.length<=lim:=by show _<=16777216;omega
 have C:ws.length<lim:=by show _<16777216;omega
 simp[e];refine bH (F7 _ _ _ _ _ _ _) (mvD m) ⟨.aW,rfl,rfl⟩ ?_ ?_;.rintro d hd _⟨s,rfl,hs⟩;obtain⟨v,_,rfl⟩:=mem_map.mp hd;simp[hs,vB,uW,oK,oA];refine sO ?_;simp[vB,uW,oK,oA];refine sO ?_;simp[vB,uW,oK,oA,PJ];exact⟨rfl,_,rfl,rfl⟩
 rintro _⟨s,rfl,hs⟩;have E:(ws.map Wy.d).map (mvD m)=(ws.map (Ax m)).map Wy.d:=by simp[PJ]
 have A:at' ((ws.map (Ax m)).map Wy.d) (j:Int)=some (Ax m u).d:=dX (by simp[y]);rw[E];have G:iW ws.length (j:Int)=some j:=G8 B;simp;apply ak;rw[map_map]at A;simp[A];apply ak;simp[vB,oK,G];apply ak;simp[uW,oK,oA,C];apply ak;simp;have H:aN (m+1) (nH m ws j u t)=.tup [.int (m+1),.tup ((ws.map (Wy.d ∘ Ax m)).set j (.tup [.int (Ax m u).s,.int (m-1),.int (Ax m u).r,.int t])++[.tup [.int (m-1),.int (Ax m u).t,.int (Ax m u).r,.int ((Ax m u).h-t)]])]:=by simp[aN,nH,Wy.d,Ax,map_set]
 rw[H]at q;exact q
theorem GZ{t:Int}(h:bL m ws)(m1:m<=5)(G:ws.length<=11)(E:u∈ws)(t0:1<=t)(t1:t<u.h):bL (m+1) (nH m ws j u t):=by
 have e:∀p,0<=p->p<m->0<=mv m p/\mv m p<m+1/\mv m p≠m-1:=λp h0 h1=>by unfold mv;split<;>omega
 have y:=h.ok u E;have m0:=h.m0;have H:=y.h1;have A:=e u.s y.s0 y.s1;have B:=e u.t y.t0 y.t1;refine⟨by omega,by omega,by unfold nH;simp;omega,λv hv=>?_⟩;rcases mem_append.mp hv with hv|hv
 . rcases List.mem_or_eq_of_mem_set hv with hv|rfl;.obtain⟨v,C,rfl⟩:=mem_map.mp hv;have k:=h.ok v C;have b1:=e v.s k.s0 k.s1;have b2:=e v.t k.t0 k.t1;refine⟨b1.1,b1.2.1,b2.1,b2.2.1,?_,k.r0,k.r1,k.h0,k.h1⟩;have:=k.ne;have c1:=k.s1;have c2:=k.t1;show mv m v.s≠mv m v.t;unfold mv;split<;>split<;>omega
   .exact⟨A.1,A.2.1,by show 0<=m-1;omega,by show m-1<m+1;omega,A.2.2,y.r0,y.r1,t0,by show t<=1000000;omega⟩
 .rw[mem_singleton.mp hv];exact⟨by show 0<=m-1;omega,by show m-1<m+1;omega,B.1,B.2.1,λz=>B.2.2 z.symm,y.r0,y.r1,by show 1<=u.h-t;omega,by show u.h-t<=1000000;omega⟩
theorem gV{H:Wy->Int}{f:Wy->Wy}:∀{ws:List Wy},bw H (ws.map f)=bw (λv=>H (f v)) ws|[]=>rfl|v::ws=>by rw[map_cons,bw,bw,gV]
theorem mG{H K:Wy->Int}:∀{ws:List Wy},(∀v∈ws,H v=K v)->bw H ws=bw K ws|[],_=>rfl|v::ws,h=>by rw[bw,bw,h v (by simp),mG λu e=>h u (by simp[e])]
theorem lM{H K:Wy->Int}:∀{ws:List Wy},(∀v∈ws,H v<=K v)->bw H ws<=bw K ws|[],_=>Int.le_refl _|v::ws,h=>by have h1:=h v (by simp);have t:=lM (H:=H) (K:=K) (ws:=ws) λu e=>h u (by simp[e]);rw[bw,bw];omega
theorem xN{H:Wy->Int}:∀{ws:List Wy},bw H ws.reverse=bw H ws|[]=>rfl|v::ws=>by rw[reverse_cons,lZ,xN];show _+(H v+0)=H v+bw H ws;omega
theorem lK{H:Wy->Int}{c:Int}:∀{ws:List Wy},bw (λv=>c*H v) ws=c*bw H ws|[]=>by simp[bw]|v::ws=>by rw[bw,bw,lK,mul_add]
theorem p8{H K:Wy->Int}:∀{ws:List Wy},bw (λv=>H v+K v) ws=bw H ws+bw K ws|[]=>rfl|v::ws=>by rw[bw,bw,bw,p8];omega
theorem pK{H:Wy->Int}{u x:Wy}:∀{ws:List Wy}{j:Nat},ws[j]?=some u->bw H (ws.set j x)=bw H ws+H x-H u|[],_,e=>by simp at e|v::ws,0,e=>by simp at e;subst e;rw[List.set_cons_zero,bw,bw];omega|v::ws,j+1,e=>by rw[List.set_cons_succ,bw,bw,pK (ws:=ws) (j:=j) (by simpa using e)];omega
theorem bZ.turn{T v:Int}(h:bZ m ws T v):bZ m (ws.map (tw m)) T v:=by
 have e:∀q:Int->Int,cj q (ws.map (tw m))=cj (λp=>T+1-q (m-1-p)) ws:=λq=>by unfold cj;rw[gV];refine mG λv _=>?_;show v.r*max 0 (q (m-1-v.s)-q (m-1-v.t)-v.h)=v.r*max 0 (T+1-q (m-1-v.t)-(T+1-q (m-1-v.s))-v.h);congr 2;omega
 refine⟨?_,λq y A=>?_⟩
 . obtain⟨q,y,A,C⟩:=h.ex;refine⟨λp=>T+1-q (m-1-p),?_,?_,?_⟩;.show T+1-q (m-1-0)=0;rw[sub_zero,A];omega
   .show T+1-q (m-1-(m-1))=T+1;rw[Int.sub_self,y];omega
   . rw[e,<-C];have B:∀p,T+1-(T+1-q (m-1-(m-1-p)))=q p:=λp=>by rw[show m-1-(m-1-p)=p by omega];omega
     exact jl λv _=>⟨B v.s,B v.t⟩
 . rw[e];refine h.le _ ?_ ?_;.show T+1-q (m-1-0)=0;rw[sub_zero,A];omega
   .show T+1-q (m-1-(m-1))=T+1;rw[Int.sub_self,y];omega
theorem bZ.rev{T v:Int}(h:bZ m ws T v):bZ m ws.reverse T v:=by have e:∀q:Int->Int,cj q ws.reverse=cj q ws:=λq=>xN;refine⟨?_,λq t y=>by rw[e];exact h.le q t y⟩;obtain⟨q,t,y,A⟩:=h.ex;exact⟨q,t,y,by rw[e];exact A⟩
def tm(a b:Int)(v:Wy):Wy:=⟨v.s,v.t,v.r*a,v.h*b⟩
theorem bZ.rooms{T v c:Int}(c0:0<=c)(h:bZ m ws T v):bZ m (ws.map (tm c 1)) T (c*v):=by
 have e:∀q:Int->Int,cj q (ws.map (tm c 1))=c*cj q ws:=λq=>by unfold cj;rw[gV,<-lK];refine mG λv _=>?_;show v.r*c*max 0 (q v.t-q v.s-v.h*1)=c*(v.r*max 0 (q v.t-q v.s-v.h));rw[mul_one,mul_comm v.r c,Int.mul_assoc]
 refine⟨?_,λq y A=>by rw[e];exact mul_le_mul_of_nonneg_left (h.le q y A) c0⟩;obtain⟨q,y,A,B⟩:=h.ex;exact⟨q,y,A,by rw[e,B]⟩
def dm(f:Nat->Int):Nat->Int|0=>0|j+1=>dm f j+f j
theorem Az{f g:Nat->Int}:∀{j:Nat},(∀i,i<j->f i<=g i)->dm f j<=dm g j|0,_=>Int.le_refl _|j+1,h=>by have h1:=h j (by omega);have e:=Az (f:=f) (g:=g) (j:=j) λi hi=>h i (by omega);rw[dm,dm];omega
theorem vY{f:Nat->Int}{c:Int}:∀{j:Nat},dm (λi=>c*f i) j=c*dm f j|0=>by simp[dm]|j+1=>by rw[dm,dm,vY,mul_add]
theorem Jx{F:Nat->Wy->Int}{ws:List Wy}:∀{j:Nat},dm (λi=>bw (F i) ws) j=bw (λv=>dm (λi=>F i v) j) ws
 |0=>by
   have:bw (λ_=>0) ws=0:=by induction ws with|nil=>rfl|cons v ws e=>rw[bw,e];rfl
   exact this.symm|j+1=>by rw[dm,Jx,<-p8];rfl
theorem QT{x c:Int}{i:Nat}(hc:0<c)(hi:(i:Int)<c):(x+i)/c=if x%c+i<c then x/c else x/c+1:=by
 have h1:=emod_nonneg x (show c≠0 by omega);have t:=emod_lt_of_pos x hc;have y:=Int.mul_ediv_add_emod x c;have e:x+i=(x%c+i)+c*(x/c):=by omega
 rw[e,Int.add_mul_ediv_left _ _ (show c≠0 by omega)];split;.rw[Int.ediv_eq_zero_of_lt (by omega) (by assumption)];omega
 .rw[show x%c+i=(x%c+i-c)+c*1 by omega,Int.add_mul_ediv_left _ _ (show c≠0 by omega),Int.ediv_eq_zero_of_lt (by omega) (by omega)];omega
theorem xK{F:Int->Int}{x c:Int}(hc:0<c):∀{j:Nat},(j:Int)<=c->dm (λi=>F ((x+i)/c)) j=min (j:Int) (c-x%c)*F (x/c)+max 0 ((j:Int)-(c-x%c))*F (x/c+1)
 |0,_=>by have e:=emod_lt_of_pos x hc;rw[dm,show min ((0:Nat):Int) (c-x%c)=0 by omega,show max 0 (((0:Nat):Int)-(c-x%c))=0 by omega];simp|j+1,t=>by
   rw[dm,xK (F:=F) hc (j:=j) (by omega),QT hc (by omega)];split;.rw[show min ((j+1:Nat):Int) (c-x%c)=min (j:Int) (c-x%c)+1 by omega,show max 0 (((j+1:Nat):Int)-(c-x%c))=max 0 ((j:Int)-(c-x%c))by omega,add_mul];omega
   .rw[show min ((j+1:Nat):Int) (c-x%c)=min (j:Int) (c-x%c)by omega,show max 0 (((j+1:Nat):Int)-(c-x%c))=max 0 ((j:Int)-(c-x%c))+1 by omega,add_mul (max 0 _)];omega
theorem wU{x c:Int}(hc:0<c):dm (λi=>F ((x+i)/c)) c.toNat=(c-x%c)*F (x/c)+x%c*F (x/c+1):=by have h1:=emod_nonneg x (show c≠0 by omega);have e:=emod_lt_of_pos x hc;rw[xK hc (by omega),show min (c.toNat:Int) (c-x%c)=c-x%c by omega,show max 0 ((c.toNat:Int)-(c-x%c))=x%c by omega]
theorem xQ{f g:Nat->Int}{h:Int}:∀{j:Nat},dm (λi=>f i-g i-h) j=dm f j-dm g j-j*h|0=>by simp[dm]|j+1=>by rw[dm,dm,dm,xQ,show((j+1:Nat):Int)=(j:Int)+1 by omega,add_mul];omega
theorem Af{x c:Int}(hc:0<c):dm (λi=>(x+i)/c) c.toNat=x:=by
 have h:=wU (F:=λy=>y) (x:=x) hc;have t:=Int.mul_ediv_add_emod x c;have e:(c-x%c)*(x/c)+x%c*(x/c+1)=x:=by rw[sub_mul,mul_add,mul_one];omega
 exact h.trans e
theorem Hb{t:Nat->Int}(h:∀i,i<j->0<=t i):dm (λi=>max 0 (t i)) j=dm t j/\0<=dm t j:=by induction j with|zero=>exact⟨rfl,Int.le_refl _⟩|succ j e=>obtain⟨h1,y⟩:=e λi hi=>h i (by omega);have A:=h j (by omega);rw[dm,dm,h1];exact⟨by omega,by omega⟩
theorem Fj{t:Nat->Int}(h:∀i,i<j->t i<=0):dm (λi=>max 0 (t i)) j=0:=by induction j with|zero=>rfl|succ j e=>have y:=h j (by omega);rw[dm,e λi hi=>h i (by omega)];omega
theorem Mu{c:Int}(hc:0<c):dm (λi=>max 0 ((a+i)/c-(b+i)/c-h)) c.toNat=max 0 (a-b-h*c):=by
 have e:=xQ (f:=λi=>(a+i)/c) (g:=λi=>(b+i)/c) (h:=h) (j:=c.toNat);rw[Af hc,Af hc,show(c.toNat:Int)=c by omega,mul_comm c h]at e;by_cases z:0<=a-b-h*c
 . have p:=Hb (t:=λi=>(a+i)/c-(b+i)/c-h) (j:=c.toNat) λi hi=>by have h1:(b+i+h*c)/c<=(a+i)/c:=Int.ediv_le_ediv hc (by omega);rw[Int.add_mul_ediv_right _ _ (show c≠0 by omega)]at h1;show 0<=(a+i)/c-(b+i)/c-h;omega
   rw[p.1,e];omega
 . have p:=Fj (t:=λi=>(a+i)/c-(b+i)/c-h) (j:=c.toNat) λi hi=>by have h1:(a+i)/c<=(b+i+h*c)/c:=Int.ediv_le_ediv hc (by omega);rw[Int.add_mul_ediv_right _ _ (show c≠0 by omega)]at h1;show(a+i)/c-(b+i)/c-h<=0;omega
   rw[p];omega
theorem Kz{s c:Int}(s0:0<=s)(s1:s<=c):max 0 ((c-s)*a+s*b)<=(c-s)*max 0 a+s*max 0 b:=by have h1:(c-s)*a<=(c-s)*max 0 a:=mul_le_mul_of_nonneg_left (by omega) (by omega);have e:s*b<=s*max 0 b:=mul_le_mul_of_nonneg_left (by omega) s0;have t:0<=(c-s)*max 0 a:=mul_nonneg (by omega) (by omega);have y:0<=s*max 0 b:=mul_nonneg s0 (by omega);omega
def Dz(m:Int)(ws:List Wy)(kvs:List (Int×Int)):Prop:=∀T,-1<=T->bZ m ws T (cQ (vt T) kvs)
theorem Dz.hours{c:Int}(hc:0<c)(hr:∀v∈ws,0<=v.r)(h:Dz m ws kvs):Dz m (ws.map (tm 1 c)) (kvs.map λA=>(A.1*c,A.2)):=by
 intro T hT;have s0:=emod_nonneg (T+1) (show c≠0 by omega);have s1:=emod_lt_of_pos (T+1) hc;have h3:=Int.mul_ediv_add_emod (T+1) c;have n0:0<=(T+1)/c:=Int.ediv_nonneg (by omega) (by omega);have I:∀q:Int->Int,cj q (ws.map (tm 1 c))=bw (λv=>v.r*max 0 (q v.t-q v.s-v.h*c)) ws:=λq=>by unfold cj;rw[gV];refine mG λv _=>?_;show v.r*1*max 0 (q v.t-q v.s-v.h*c)=_;rw[mul_one]
 have ev:∀l:List (Int×Int),cQ (vt T) (l.map λA=>(A.1*c,A.2))=(c-(T+1)%c)*cQ (vt ((T+1)/c-1)) l+(T+1)%c*cQ (vt ((T+1)/c)) l:=λl=>by induction l with|nil=>simp[cQ]|cons x l O=>
    rw[map_cons,cQ,cQ,cQ,O,mul_add,mul_add];have e:vt T (x.1*c) x.2=(c-(T+1)%c)*vt ((T+1)/c-1) x.1 x.2+(T+1)%c*vt ((T+1)/c) x.1 x.2:=by
     rw[qu,qu,qu];generalize(T+1)/c=n at*;generalize(T+1)%c=s at*;obtain⟨y,U⟩:∃y,y=n-x.1:=⟨_,rfl⟩;have E:T+1-x.1*c=c*y+s:=by rw[U,mul_sub,mul_comm x.1 c];omega
     rw[E,show n-1+1-x.1=y by omega,show n+1-x.1=y+1 by omega];by_cases z:0<=y;.have C:0<=c*y:=mul_nonneg (by omega) z;rw[max_eq_right (show 0<=c*y+s by omega),max_eq_right z,max_eq_right (show 0<=y+1 by omega),<-Int.mul_assoc,<-Int.mul_assoc,mul_comm (c-s),mul_comm s,Int.mul_assoc,Int.mul_assoc,<-mul_add];congr 1;rw[sub_mul,mul_add];omega
     .have C:c*y<=c*(-1):=mul_le_mul_of_nonneg_left (by omega) (by omega);rw[max_eq_left (show c*y+s<=0 by omega),max_eq_left (show y<=0 by omega),max_eq_left (show y+1<=0 by omega)];simp
    rw[e];omega
 have B:∀q:Int->Int,q 0=0->q (m-1)=T+1->cQ (vt T) (kvs.map λA=>(A.1*c,A.2))<=cj q (ws.map (tm 1 c)):=λq G H=>by
  have E:cj q (ws.map (tm 1 c))=dm (λi=>cj (λp=>(q p+i)/c) ws) c.toNat:=by unfold cj;rw[Jx,<-cj,I];refine mG λv _=>?_;show _=dm (λi=>v.r*max 0 ((q v.t+i)/c-(q v.s+i)/c-v.h)) c.toNat;rw[vY,Mu hc]
  have J:=wU (F:=λy=>cQ (vt (y-1)) kvs) (x:=T+1) hc;rw[ev,E];rw[show(T+1)/c+1-1=(T+1)/c by omega]at J;rw[<-J];refine Az λi hi=>?_;have hd:(-1:Int)<=(T+1+i)/c-1:=by have:=Int.ediv_nonneg (show 0<=T+1+(i:Int)by omega) (show 0<=c by omega);omega
  refine(h _ hd).le _ ?_ ?_;.show(q 0+i)/c=0;rw[G];exact Int.ediv_eq_zero_of_lt (by omega) (by omega)
  .show(q (m-1)+i)/c=_;rw[H];omega
 refine⟨?_,B⟩;obtain⟨q,G,H,W⟩:=(h ((T+1)/c-1) (by omega)).ex;obtain⟨r,r0,r1,X⟩:=(h ((T+1)/c) (by omega)).ex;generalize hs:(T+1)%c=s at*;generalize hn:(T+1)/c=n at*;have L:(c-s)*q 0+s*r 0=0:=by rw[G,r0];simp
 have C:(c-s)*q (m-1)+s*r (m-1)=T+1:=by rw[H,r1,show n-1+1=n by omega,sub_mul,mul_add];omega
 refine⟨λp=>(c-s)*q p+s*r p,L,C,Int.le_antisymm ?_ (B _ L C)⟩;rw[ev,I,<-W,<-X];unfold cj;rw[<-lK,<-lK,<-p8];refine lM λv Y=>?_;have Z:=Kz (a:=q v.t-q v.s-v.h) (b:=r v.t-r v.s-v.h) s0 (show s<=c by omega);have e3:(c-s)*q v.t+s*r v.t-((c-s)*q v.s+s*r v.s)-v.h*c=(c-s)*(q v.t-q v.s-v.h)+s*(r v.t-r v.s-v.h):=by
  rw[mul_sub,mul_sub,mul_sub,mul_sub];have:(c-s)*v.h+s*v.h=v.h*c:=by rw[<-add_mul,mul_comm];congr 1;omega
  omega
 show v.r*max 0 ((c-s)*q v.t+s*r v.t-((c-s)*q v.s+s*r v.s)-v.h*c)<=(c-s)*(v.r*max 0 (q v.t-q v.s-v.h))+s*(v.r*max 0 (r v.t-r v.s-v.h));rw[e3];have M:=mul_le_mul_of_nonneg_left Z (hr v Y);rw[mul_add,<-Int.mul_assoc,<-Int.mul_assoc,mul_comm v.r (c-s),mul_comm v.r s,Int.mul_assoc,Int.mul_assoc]at M;exact M
theorem bZ.part{T v t:Int}(y:bL m ws)(e:ws[j]?=some u)(h:bZ m ws T v):bZ (m+1) (nH m ws j u t) T v:=by
 have m0:=y.m0;have A:=y.ok u (mem_of_getElem? e);have G:∀q:Int->Int,cj q (nH m ws j u t)=cj (λp=>q (mv m p)) ws-u.r*max 0 (q (mv m u.t)-q (mv m u.s)-u.h)+u.r*max 0 (q (m-1)-q (mv m u.s)-t)+u.r*max 0 (q (mv m u.t)-q (m-1)-(u.h-t)):=λq=>by unfold cj nH;rw[lZ,pK (u:=Ax m u) (by simp[e]),gV];show bw (lO λp=>q (mv m p)) ws+u.r*max 0 (q (m-1)-q (mv m u.s)-t)-u.r*max 0 (q (mv m u.t)-q (mv m u.s)-u.h)+(u.r*max 0 (q (mv m u.t)-q (m-1)-(u.h-t))+0)=_;omega
 have I:mv m 0=0:=if_neg (by omega);have J:mv m (m-1)=m:=if_pos rfl;refine⟨?_,λq C E=>?_⟩
 . obtain⟨q,C,E,L⟩:=h.ex;have B:∀p,p<m->(if mv m p=m then q (m-1)else if mv m p=m-1 then q u.s+t else q (mv m p))=q p:=λp U=>by
    unfold mv;by_cases c:p=m-1;.rw[if_pos c,if_pos rfl,c]
    .rw[if_neg c,if_neg (by omega),if_neg c]
   refine⟨λp=>if p=m then q (m-1)else if p=m-1 then q u.s+t else q p,?_,?_,?_⟩;.show(if(0:Int)=m then _ else if(0:Int)=m-1 then _ else q 0)=0;rw[if_neg (by omega),if_neg (by omega),C]
   .show(if m+1-1=m then q (m-1)else _)=T+1;rw[if_pos (by omega),E]
   .rw[G];have M:cj (λp=>if mv m p=m then q (m-1)else if mv m p=m-1 then q u.s+t else q (mv m p)) ws=cj q ws:=jl λv H=>⟨B v.s (y.ok v H).s1,B v.t (y.ok v H).t1⟩;show cj (λp=>if mv m p=m then q (m-1)else if mv m p=m-1 then q u.s+t else q (mv m p)) ws-u.r*max 0 ((if mv m u.t=m then q (m-1)else if mv m u.t=m-1 then q u.s+t else q (mv m u.t))-(if mv m u.s=m then q (m-1)else if mv m u.s=m-1 then q u.s+t else q (mv m u.s))-u.h)+u.r*max 0 ((if m-1=m then q (m-1)else if m-1=m-1 then q u.s+t else q (m-1))-(if mv m u.s=m then q (m-1)else if mv m u.s=m-1 then q u.s+t else q (mv m u.s))-t)+u.r*max 0 ((if mv m u.t=m then q (m-1)else if mv m u.t=m-1 then q u.s+t else q (mv m u.t))-(if m-1=m then q (m-1)else if m-1=m-1 then q u.s+t else q (m-1))-(u.h-t))=v;rw[M,B _ A.s1,B _ A.t1,L,if_neg (by omega),if_pos rfl,show q u.s+t-q u.s-t=0 by omega,show q u.t-(q u.s+t)-(u.h-t)=q u.t-q u.s-u.h by omega];simp
 .have h1:=h.le (λp=>q (mv m p)) (by show q (mv m 0)=0;rw[I,C]) (by show q (mv m (m-1))=T+1;rw[J,<-E];congr 1;omega);have O:=R9 (a:=q (m-1)-q (mv m u.s)-t) (b:=q (mv m u.t)-q (m-1)-(u.h-t)) A.r0 A.r0;rw[show min u.r u.r=u.r by omega,show q (m-1)-q (mv m u.s)-t+(q (mv m u.t)-q (m-1)-(u.h-t))=q (mv m u.t)-q (mv m u.s)-u.h by omega]at O;rw[G];omega
def mp(f:Int->Int)(v:Wy):Wy:=⟨f v.s,f v.t,v.r,v.h⟩
def jd(m n p:Int):Int:=if p=m-1 then m+n-3 else p
def gG(m n p:Int):Int:=if p=0 then 0 else if p=n-1 then m+n-3 else p+m-2
theorem Bo{f:Int->Int}:cj q (ws.map (mp f))=cj (λp=>q (f p)) ws:=by unfold cj;rw[gV];rfl
def v7(m:Int)(ws:List Wy)(n:Int)(us:List Wy):List Wy:=ws.map (mp (jd m n))++us.map (mp (gG m n))
theorem bZ.bes{n T v x:Int}{us:List Wy}(y:bL m ws)(A:bL n us)(h:bZ m ws T v)(k:bZ n us T x):bZ (m+n-3+1) (v7 m ws n us) T (v+x):=by
 have m0:=y.m0;have U:=A.m0;have E:∀q:Int->Int,cj q (v7 m ws n us)=cj (λp=>q (jd m n p)) ws+cj (λp=>q (gG m n p)) us:=λq=>by unfold v7;rw[show cj q (ws.map (mp (jd m n))++us.map (mp (gG m n)))=cj q (ws.map (mp (jd m n)))+cj q (us.map (mp (gG m n)))from lZ,Bo,Bo]
 refine⟨?_,λq C B=>?_⟩
 . obtain⟨q,C,B,H⟩:=h.ex;obtain⟨r,r0,r1,I⟩:=k.ex;refine⟨λp=>if p=0 then 0 else if p=m+n-3 then T+1 else if p<m-1 then q p else r (p-m+2),rfl,?_,?_⟩;.show(if m+n-3+1-1=0 then 0 else if m+n-3+1-1=m+n-3 then T+1 else _)=T+1;rw[if_neg (by omega),if_pos (by omega)]
   . rw[E,<-H,<-I];have G:∀p,0<=p->p<m->(if jd m n p=0 then 0 else if jd m n p=m+n-3 then T+1 else if jd m n p<m-1 then q (jd m n p)else r (jd m n p-m+2))=q p:=λp h0 h1=>by
      unfold jd;by_cases c:p=m-1;.rw[if_pos c,if_neg (by omega),if_pos rfl,c,B]
      . rw[if_neg c];by_cases d:p=0;.rw[if_pos d,d,C]
        .rw[if_neg d,if_neg (by omega),if_pos (by omega)]
     have hr:∀p,0<=p->p<n->(if gG m n p=0 then 0 else if gG m n p=m+n-3 then T+1 else if gG m n p<m-1 then q (gG m n p)else r (gG m n p-m+2))=r p:=λp h0 h1=>by
      unfold gG;by_cases c:p=0;.rw[if_pos c,if_pos rfl,c,r0]
      . rw[if_neg c];by_cases d:p=n-1;.rw[if_pos d,if_neg (by omega),if_pos rfl,d,r1]
        .rw[if_neg d,if_neg (by omega),if_neg (by omega),if_neg (by omega)];congr 1;omega
     have J:=jl (q:=λp=>if jd m n p=0 then 0 else if jd m n p=m+n-3 then T+1 else if jd m n p<m-1 then q (jd m n p)else r (jd m n p-m+2)) (r:=q) (ws:=ws) λv e=>⟨G v.s (y.ok v e).s0 (y.ok v e).s1,G v.t (y.ok v e).t0 (y.ok v e).t1⟩;have L:=jl (q:=λp=>if gG m n p=0 then 0 else if gG m n p=m+n-3 then T+1 else if gG m n p<m-1 then q (gG m n p)else r (gG m n p-m+2)) (r:=r) (ws:=us) λv e=>⟨hr v.s (A.ok v e).s0 (A.ok v e).s1,hr v.t (A.ok v e).t0 (A.ok v e).t1⟩;rw[<-J,<-L]
 . rw[E];have M:jd m n 0=0:=if_neg (by omega);have O:jd m n (m-1)=m+n-3:=if_pos rfl;have b1:gG m n 0=0:=if_pos rfl;have b2:gG m n (n-1)=m+n-3:=by unfold gG;rw[if_neg (by omega),if_pos rfl]
   rw[show m+n-3+1-1=m+n-3 by omega]at B;have c1:=h.le (λp=>q (jd m n p)) (by show q (jd m n 0)=0;rw[M,C]) (by show q (jd m n (m-1))=T+1;rw[O,B]);have c2:=k.le (λp=>q (gG m n p)) (by show q (gG m n 0)=0;rw[b1,C]) (by show q (gG m n (n-1))=T+1;rw[b2,B]);omega
theorem Ku{n:Int}{us:List Wy}(h:bL m ws)(k:bL n us)(C:m<=4)(E:n<=4)(G:ws.length<=6)(H:us.length<=6):bL (m+n-3+1) (v7 m ws n us):=by
 have m0:=h.m0;have I:=k.m0;refine⟨by omega,by omega,by unfold v7;simp;omega,λv hv=>?_⟩;rcases mem_append.mp hv with hv|hv
 . obtain⟨u,B,rfl⟩:=mem_map.mp hv;have o:=h.ok u B;have e:∀p,0<=p->p<m->0<=jd m n p/\jd m n p<m+n-3+1:=λp h0 h1=>by unfold jd;split<;>omega
   have y:=e u.s o.s0 o.s1;have A:=e u.t o.t0 o.t1;have:=o.ne;have c1:=o.s1;have c2:=o.t1;exact⟨y.1,y.2,A.1,A.2,by show jd m n u.s≠jd m n u.t;unfold jd;split<;>split<;>omega,o.r0,o.r1,o.h0,o.h1⟩
 . obtain⟨u,B,rfl⟩:=mem_map.mp hv;have o:=k.ok u B;have e:∀p,0<=p->p<n->0<=gG m n p/\gG m n p<m+n-3+1:=λp h0 h1=>by unfold gG;split<;>(try split)<;>omega
   have y:=e u.s o.s0 o.s1;have A:=e u.t o.t0 o.t1;have:=o.ne;have c0:=o.s0;have c1:=o.s1;have d0:=o.t0;have c2:=o.t1;exact⟨y.1,y.2,A.1,A.2,by show gG m n u.s≠gG m n u.t;unfold gG;split<;>split<;>(try split)<;>(try split)<;>omega,o.r0,o.r1,o.h0,o.h1⟩
def La(v:Wy)(r:Int):Wy:=⟨v.s,v.t,r,v.h⟩
theorem BR(e:ws[j]?=some u):cj q (ws.set j (La u (u.r+1)))=cj q ws+max 0 (q u.t-q u.s-u.h):=by unfold cj;rw[pK e];show _+(u.r+1)*max 0 (q u.t-q u.s-u.h)-u.r*max 0 (q u.t-q u.s-u.h)=_;rw[add_mul];omega
theorem bZ.rm{T v x:Int}(B:bL m ws)(e:ws[j]?=some u)(G:0<=T)(h:bZ m ws T v)(k:bZ m (ws.set j (La u (u.r+1))) T x):v<=x/\x<=v+(T+1):=by
 constructor;.obtain⟨q,y,A,C⟩:=k.ex;have:=h.le q y A;rw[BR e]at C;omega
 . obtain⟨q,y,A,C⟩:=h.ex;have h1:=k.le (λp=>max 0 (min (T+1) (q p))) (by show max 0 (min (T+1) (q 0))=0;rw[y];omega) (by show max 0 (min (T+1) (q (m-1)))=T+1;rw[A];omega);rw[BR e]at h1;have H:cj (λp=>max 0 (min (T+1) (q p))) ws<=cj q ws:=lM λv E=>by have o:=B.ok v E;have:=o.h0;exact mul_le_mul_of_nonneg_left (by show max 0 (max 0 (min (T+1) (q v.t))-max 0 (min (T+1) (q v.s))-v.h)<=max 0 (q v.t-q v.s-v.h);omega) o.r0
   have:=(B.ok u (mem_of_getElem? e)).h0;have I:max 0 ((λp=>max 0 (min (T+1) (q p))) u.t-(λp=>max 0 (min (T+1) (q p))) u.s-u.h)<=T+1:=by show max 0 (max 0 (min (T+1) (q u.t))-max 0 (min (T+1) (q u.s))-u.h)<=T+1;omega
   omega
theorem dz(C:bL m ws)(h:vR m ws cs kvs):Dz m ws kvs:=λT G=>by
 by_cases c:0<=T;.rw[h.vt];exact h.e.least c
 . have z:cQ (vt T) kvs=0:=xx λE y=>by have:=(h.b.nn E y).1;unfold vt;rw[if_neg (by omega)]
   have t:T=-1:=by omega
   subst t;have nn:∀q:Int->Int,0<=cj q ws:=λq=>by
    have:bw (λ_=>0) ws<=bw (lO q) ws:=lM λv A=>mul_nonneg (C.ok v A).r0 (by omega);have e:∀l:List Wy,bw (λ_=>0) l=0:=λl=>by induction l with|nil=>rfl|cons v l B=>rw[bw,B];rfl
    rw[e]at this;exact this
   rw[z];refine⟨⟨λ_=>0,rfl,rfl,Int.le_antisymm ?_ (nn _)⟩,λq _ _=>nn q⟩;have:bw (lO λ_=>0) ws<=bw (λ_=>0) ws:=lM λv A=>by have:=(C.ok v A).h0;show v.r*max 0 (0-0-v.h)<=0;rw[max_eq_left (by omega),mul_zero];exact Int.le_refl _
   have e:∀l:List Wy,bw (λ_=>0) l=0:=λl=>by induction l with|nil=>rfl|cons v l B=>rw[bw,B];rfl
   rw[e]at this;exact this
theorem ju(A:bL m ws)(h:vR m ws cs kvs)(so:us.Pairwise (λa b=>a.1<b.1))(nn:∀e∈us,1<=e.1/\0<e.2)(B:Dz m ws us):kvs=us:=by
 have y:∀T,cQ (vt T) kvs=cQ (vt T) us:=λT=>by
  by_cases c:-1<=T;.exact(dz A h T c).uniq (B T c)
  . rw[xx λe t=>?_,xx λe t=>?_];.have:=(nn e t).1;unfold vt;rw[if_neg (by omega)]
    .have:=(h.b.nn e t).1;unfold vt;rw[if_neg (by omega)]
 exact sX h.so so (λe z=>(h.b.nn e z).2) (λe z=>(nn e z).2) λT=>by rw[FQ,FQ,y,y]
def hs:List (Int×Int)->Int|[]=>0|kv::r=>kv.1*kv.2+hs r
theorem yP{T:Int}:∀{l:List (Int×Int)},(∀kv∈l,kv.1<=T)->cQ (vt T) l=(T+1)*vs l-hs l|[],_=>by simp[cQ,vs,hs]|kv::r,h=>by have h1:=h kv (by simp);rw[cQ,vs,hs,yP λx e=>h x (by simp[e]),vt,if_pos h1,show T-kv.1+1=T+1-kv.1 by omega,mul_sub,mul_comm kv.2,mul_comm kv.2,mul_add (T+1) kv.2];omega
theorem Cg(A:bL m ws)(B:bL m (ws.set j (La u (u.r+1))))(e:ws[j]?=some u)(h:vR m ws cs kvs)(k:vR m (ws.set j (La u (u.r+1))) cs' us):vs kvs<=vs us/\vs us<=vs kvs+1:=by
 have key:∀T,5000000<=T->(T+1)*vs kvs-hs kvs<=(T+1)*vs us-hs us/\(T+1)*vs us-hs us<=(T+1)*vs kvs-hs kvs+(T+1):=λT C=>by have:=bZ.rm A e (by omega) (dz A h T (by omega)) (dz B k T (by omega));rwa[yP λt z=>by have:=h.le t z;omega,yP λt z=>by have:=k.le t z;omega]at this
 constructor
 . by_cases c:vs kvs<=vs us;.exact c
   .have h1:=(key (max 5000000 (hs kvs-hs us)) (by omega)).1;have y:(max 5000000 (hs kvs-hs us)+1)*vs us<=(max 5000000 (hs kvs-hs us)+1)*(vs kvs-1):=mul_le_mul_of_nonneg_left (by omega) (by omega);rw[mul_sub]at y;omega
 . by_cases c:vs us<=vs kvs+1;.exact c
   .have h1:=(key (max 5000000 (hs us-hs kvs)) (by omega)).2;have y:(max 5000000 (hs us-hs kvs)+1)*(vs kvs+2)<=(max 5000000 (hs us-hs kvs)+1)*vs us:=mul_le_mul_of_nonneg_left (by omega) (by omega);rw[mul_add]at y;omega
theorem Yn{q:Int}(y:bL m ws)(B:bL m (ws.set j (La u (u.r+1))))(e:ws[j]?=some u)(h:vR m ws cs kvs)(k:vR m (ws.set j (La u (u.r+1))) cs' us)(C:0<=q)(E:q<=vs kvs):lh us q<=lh kvs q:=by
 by_cases c:q=0;.subst c;rw[Mv h.b.nn,Mv k.b.nn];exact Int.le_refl _
 .have hr:=Cg y B e h k;obtain⟨t,A,G⟩:=O1 (q:=q) k.b.nn k.so (by omega) (by omega);have H:=(k.b.nn t A).1;have h1:=Ph (T:=t.1-1) (q:=q) h.b.nn C E;have I:=(bZ.rm y e (by omega) (dz y h (t.1-1) (by omega)) (dz B k (t.1-1) (by omega))).1;rw[show t.1-1+1=t.1 by omega]at h1;omega
structure N4(m:Int)(ws:List Wy):Prop where
 ok:bL m ws
 m4:m<=4
 l6:ws.length<=6
inductive Xw(y m rr hh:Int)(i:Nat)(ρ:List Sl):Prop where|mk(x z:Int)(ws:List Wy)(s6 s7 s8:Sl)(q0:ρ=[.own true [.int x,.int y,.int z],.val false (.int 6),.val false (.int m),.val false (.int rr),.val false (.int hh),.own false (ws.map Wy.d),s6,s7,s8])(q1:A3 (fr s6=true) (fr s7=true) (fr s8=true))(q2:(∀v∈ws,v.Ok m))(q3:ws.length=i)
theorem BX{x y:Int}(k:∀(x z m:Int)(ws:List Wy),N4 m ws->Q (.val (aN m ws)) [.own true [.int x,.int y,.int z],.val false (.int 6)]):(run Γ w (n+3) 20 [.own true [.int x,.int y,.int z],.val false (.int 6)]).sat Q:=by
 refine aO (d:=ZP) rfl rfl (by decide) ?_;symm;simp[ZP];refine cT (by decide) (by decide) λb x z b0 b1=>?_;obtain⟨m,O⟩:∃m,2+b=m:=⟨_,rfl⟩;simp[O];apply ak;simp;refine cT (by decide) (by decide) λe x z C E=>?_;obtain⟨p,ep,Z,p1⟩:=Im (ns:=[4,3,8,1000000001]) (lo:=1) (hi:=1000000001) C (by simpa using E) (by simp);simp only[map_cons,map_nil]at ep;simp[ep];apply ak;simp;refine cT (by decide) (by decide) λe x z C E=>?_;obtain⟨l,L,l0,l1⟩:=Im (ns:=[3,5,4,1000000]) (lo:=1) (hi:=1000000) C (by simpa using E) (by simp);simp only[map_cons,map_nil]at L;simp[L];apply ak;simp;apply ak;simp;refine cT (by decide) (by decide) λc x z c0 c1=>?_;simp;refine cT (by decide) (by decide) λe x z C E=>?_;obtain⟨N,M,N0,N1⟩:=Im (ns:=[6,c]) (lo:=0) (hi:=6) C (by simpa using E) (by simp;omega);simp only[map_cons,map_nil]at M;simp[M,show N<=1000000000 by omega];refine⟨by omega,?_⟩;refine qp (Xw y m p l) ?_ ?_ ⟨x,z,[],.aW,.aW,.aW,rfl,⟨rfl,rfl,rfl⟩,by simp,rfl⟩
 . rintro i _ hi⟨x,z,ws,s6,s7,s8,rfl,⟨U,W,X⟩,I,Y⟩;simp[U];apply ak;simp;refine cT (by omega) (gK (by omega)) λa x z A B=>?_;simp[W];apply ak;simp;refine cT (by omega) (gK (by omega)) λb x z b0 b1=>?_;obtain⟨G,H,o2⟩:=other A B b0 b1;simp[X,show 0<m by omega];generalize(a+1+b)%m=o at*;symm;simp;refine cT (by decide) (by decide) λc x z c0 c1=>?_;have put:∀{x z a o:Int},0<=a->a<m->0<=o->o<m->a≠o->∀r h:Int,0<=r->r<p->0<=h->h<l->Xw y m p l (i+1) [.own true [.int x,.int y,.int z],.val false (.int 6),.val false (.int m),.val false (.int p),.val false (.int l),.own false (ws.map Wy.d++[.tup [.int a,.int o,.int r,.int (1+h)]]),.val false (.int i),.val false (.int a),.val false (.int o)]:=λ{x z a o}A B G H ne r h r0 r1 h0 h1=>by
    refine⟨x,z,ws++[⟨a,o,r,1+h⟩],_,_,_,by rw[map_append];rfl,⟨rfl,rfl,rfl⟩,λv hv=>?_,by simp;omega⟩;rcases mem_append.mp hv with hv|hv;.exact I v hv
    .rw[mem_singleton.mp hv];exact⟨A,B,G,H,ne,r0,by show r<=1000000000;omega,by show 1<=1+h;omega,by show 1+h<=1000000;omega⟩
   have t:ws.length<16777216:=by omega
   simp;refine⟨λ_=>?_,λ_=>?_⟩
   . symm;by_cases c:o<a
     . have J:¬ a<o:=by omega
       simp[c,J];apply ak;simp;refine fY (by omega) (gK (by omega)) λr x z r0 r1=>?_;simp;refine fY (by omega) (gK (by omega)) λh x z h0 h1=>?_;simp[t];exact put G H A B (by omega) r h r0 r1 h0 h1
     . have J:a<o:=by omega
       simp[c,J];apply ak;simp;refine fY (by omega) (gK (by omega)) λr x z r0 r1=>?_;simp;refine fY (by omega) (gK (by omega)) λh x z h0 h1=>?_;simp[t];exact put A B G H (by omega) r h r0 r1 h0 h1
   .symm;simp;refine fY (by omega) (gK (by omega)) λr x z r0 r1=>?_;simp;refine fY (by omega) (gK (by omega)) λh x z h0 h1=>?_;simp[t];exact put A B G H (by omega) r h r0 r1 h0 h1
 .rintro _⟨x,z,ws,s6,s7,s8,rfl,_,I,Y⟩;symm;simp;exact k x z m ws ⟨⟨by omega,by omega,by omega,I⟩,by omega,by omega⟩
theorem uD:∀{us:List (Int×Int)},jb (us.map cF) (us.map cF)=true|[]=>rfl|u::us=>by show((decide (u.1=u.1)&&(decide (u.2=u.2)&&true))&&jb (us.map cF) (us.map cF))=true;rw[uD];simp
theorem G4:gP 8 (.lst (us.map cF))=true:=by show(us.map cF).all (gP 7)=true;rw[all_eq_true];intro d hd;obtain⟨p,_,rfl⟩:=mem_map.mp hd;rfl
theorem xg:cm .ne (.lst (us.map cF)) (.lst (us.map cF))=some false:=by show yV _ _=_;unfold yV;rw[G4,show jg (.lst (us.map cF)) (.lst (us.map cF))=true from uD];rfl
theorem Nv:cm .eq (.lst (us.map cF)) (.lst (us.map cF))=some true:=by show uJ _ _=_;unfold uJ;rw[G4,show jg (.lst (us.map cF)) (.lst (us.map cF))=true from uD];rfl
theorem eZ(A:13286250<=w)(h:bL m ws)(k:∀cs kvs,vR m ws cs kvs->Q (.own (kvs.map cF)) [.val false (aN m ws)]):(run Γ w (n+5) 10 [.val false (aN m ws)]).sat Q:=tY A h λcs fs F d es kvs y B C e t=>k cs kvs ⟨⟨λv E=>(h.ok v E).h0,fs,F,d,es,B⟩,C,e,t,y.1,y.2⟩
inductive F3(a b c:Sl)(ρ:List Sl):Prop where|mk(s:Sl)(q0:ρ=[a,b,c,s])(q1:fr s=true)
def tmD(a b:Int):D->D|.tup [.int s,.int t,.int r,.int h]=>(tm a b ⟨s,t,r,h⟩).d|d=>d
theorem tD(B:bL m ws)(E:0<=a)(G:a<=9)(b0:0<=b)(b1:b<=9)(q:Q (.val (aN m (ws.map (tm a b)))) [.val false (aN m ws),.val false (.int a),.val false (.int b)]):(run Γ w (n+1) 23 [.val false (aN m ws),.val false (.int a),.val false (.int b)]).sat Q:=by
 have H:=B.len;have t:ws.length<=lim:=by show _<=16777216;omega
 refine aO (d:=Zz) rfl rfl (by decide) ?_;symm;simp[Zz,t];refine bH (F3 _ _ _) (tmD a b) ⟨.aW,rfl,rfl⟩ ?_ ?_
 . rintro d hd _⟨s,rfl,hs⟩;obtain⟨v,I,rfl⟩:=mem_map.mp hd;have y:jA (.int v.r) (.int a)=some (.val (.int (v.r*a))):=by show(if _ then _ else _)=_;rw[if_pos];right;omega
   have A:jA (.int v.h) (.int b)=some (.val (.int (v.h*b))):=by show(if _ then _ else _)=_;rw[if_pos];right;omega
   simp[hs,vB,uW,oK,oA,y,A];exact⟨rfl,_,rfl,rfl⟩
 rintro _⟨s,rfl,hs⟩;have e:(ws.map Wy.d).map (tmD a b)=(ws.map (tm a b)).map Wy.d:=by rw[map_map,map_map];rfl
 rw[e];simp;have C:aN m (ws.map (tm a b))=.tup [.int m,.tup (ws.map (Wy.d ∘ tm a b))]:=by simp[aN]
 rw[C]at q;exact q
@[simp]theorem Xx{e:List D}:blt .Ek [.lst e]=(e.mapM gF).map λns=>.val (.int (ns.max?.getD 0)):=rfl
theorem Jw{x:Int}(h:x∈ns):x<=ns.max?.getD 0:=by cases e:ns.max? with|none=>rw[List.max?_eq_none_iff]at e;rw[e]at h;cases h|some y=>exact(List.max?_eq_some_iff.mp e).2 x h
theorem Di{c:Int}(h:bL m ws)(c0:0<=c)(hc:∀v∈ws,v.r*c<=1000000000):bL m (ws.map (tm c 1)):=by refine⟨h.m0,h.m1,by simpa using h.len,λv t=>?_⟩;obtain⟨u,e,rfl⟩:=mem_map.mp t;have k:=h.ok u e;exact⟨k.s0,k.s1,k.t0,k.t1,k.ne,mul_nonneg k.r0 c0,hc u e,by show 1<=u.h*1;have:=k.h0;omega,by show u.h*1<=_;have:=k.h1;omega⟩
theorem CP{c:Int}(h:bL m ws)(c0:1<=c)(hc:∀v∈ws,v.h*c<=1000000):bL m (ws.map (tm 1 c)):=by refine⟨h.m0,h.m1,by simpa using h.len,λv t=>?_⟩;obtain⟨u,e,rfl⟩:=mem_map.mp t;have k:=h.ok u e;have h1:1*1<=u.h*c:=Int.mul_le_mul k.h0 c0 (by omega) (by have:=k.h0;omega);exact⟨k.s0,k.s1,k.t0,k.t1,k.ne,by show 0<=u.r*1;have:=k.r0;omega,by show u.r*1<=_;have:=k.r1;omega,by show 1<=u.h*c;omega,hc u e⟩
def G3(f:Wy->Int):D->D|.tup [.int s,.int t,.int r,.int h]=>.int (f ⟨s,t,r,h⟩)|d=>d
def scA(c:Int):D->D|.tup [.int k,.int v]=>cF (k,v*c)|d=>d
def scB(c:Int):D->D|.tup [.int k,.int v]=>cF (k*c,v)|d=>d
inductive F5(a b c:Sl)(ρ:List Sl):Prop where|mk(s:Sl)(t:Sl)(q0:ρ=[a,b,c,s,t])(q1:fr s=true)(q2:fr t=true)
theorem GQ{T c:Int}:∀{l:List (Int×Int)},cQ (vt T) (l.map λe=>(e.1,e.2*c))=c*cQ (vt T) l|[]=>by simp[cQ]|x::l=>by rw[map_cons,cQ,cQ,GQ,mul_add];show vt T x.1 (x.2*c)+_=_;rw[qu,qu,mul_comm x.2 c,Int.mul_assoc]
theorem zr{c:Int}(Y:13286250<=w)(A:bL m ws)(C:vR m ws cs kvs)(c0:2<=c)(c1:c<=9)(q:Q (.val (.bl true)) [.val false (aN m ws),.own true (kvs.map cF),.val false (.int c)]):(run Γ w (n+6) 24 [.val false (aN m ws),.own true (kvs.map cF),.val false (.int c)]).sat Q:=by
 have hl:=A.len;have Z:=C.len;have B:ws.length<=16777216:=by omega
 have y:∀x:Int,jA (.int x) (.int c)=some (.val (.int (x*c))):=λx=>by show(if _ then _ else _)=_;rw[if_pos];right;omega
 refine aO (d:=f24) rfl rfl (by decide) ?_;refine fO (λρ=>ρ=[.val false (aN m ws),.own true (kvs.map cF),.val false (.int c)]) ?_ ?_
 . simp[f24,B];refine bH (F3 _ _ _) (G3 Wy.r) ⟨.aW,rfl,rfl⟩ ?_ ?_;.rintro d hd _⟨s,rfl,hs⟩;obtain⟨v,e,rfl⟩:=mem_map.mp hd;simp[hs,oK];exact⟨rfl,_,rfl,rfl⟩
   rintro _⟨s,rfl,hs⟩;have I:(ws.map Wy.d).map (G3 Wy.r)=(ws.map Wy.r).map D.int:=by rw[map_map,map_map];rfl
   rw[I];have J:∀v∈ws,v.r<=(ws.map Wy.r).max?.getD 0:=λv e=>Jw (mem_map.mpr ⟨v,e,rfl⟩);have L:=fH (ns:=ws.map Wy.r);generalize ws.map Wy.r=rs at*;simp[L,y];intro M;have H:=Di A (show 0<=c by omega) λv e=>Int.le_trans (Int.mul_le_mul_of_nonneg_right (J v e) (by omega)) M;symm;simp;refine tD A (by omega) (by omega) (by omega) (by omega) ?_;simp;refine eZ Y H λcs' us O=>?_;have U:=ju H O (us:=kvs.map λE=>(E.1,E.2*c)) (pairwise_map.mpr C.so) (λE G=>by obtain⟨x,W,rfl⟩:=mem_map.mp G;have:=C.b.nn x W;exact⟨this.1,Int.mul_pos this.2 (by omega)⟩) λT hT=>by rw[GQ];exact(dz A C T hT).rooms (by omega)
   simp[show kvs.length<=16777216 by omega];refine bH (F5 _ _ _) (scA c) ⟨.aW,.aW,rfl,rfl,rfl⟩ ?_ ?_;.rintro d hd _⟨s,t,rfl,hs,ht⟩;obtain⟨p,hp,rfl⟩:=mem_map.mp hd;simp[hs,ht,cF,y];exact⟨rfl,_,_,rfl,rfl,rfl⟩
   rintro _⟨s,t,rfl,hs,ht⟩;have X:(kvs.map cF).map (scA c)=us.map cF:=by rw[U,map_map,map_map];rfl
   rw[X];simp[xg]
 rintro _ rfl;symm;simp[B];refine bH (F3 _ _ _) (G3 Wy.h) ⟨.aW,rfl,rfl⟩ ?_ ?_;.rintro d hd _⟨s,rfl,hs⟩;obtain⟨v,e,rfl⟩:=mem_map.mp hd;simp[hs,oA];exact⟨rfl,_,rfl,rfl⟩
 rintro _⟨s,rfl,hs⟩;have I:(ws.map Wy.d).map (G3 Wy.h)=(ws.map Wy.h).map D.int:=by rw[map_map,map_map];rfl
 rw[I];have J:∀v∈ws,v.h<=(ws.map Wy.h).max?.getD 0:=λv e=>Jw (mem_map.mpr ⟨v,e,rfl⟩);have L:=fH (ns:=ws.map Wy.h);generalize ws.map Wy.h=rs at*;simp[L,y];refine⟨λM=>?_,λ_=>?_⟩
 . have H:=CP A (show 1<=c by omega) λv e=>Int.le_trans (Int.mul_le_mul_of_nonneg_right (J v e) (by omega)) M;symm;simp;refine tD A (by omega) (by omega) (by omega) (by omega) ?_;simp;refine eZ Y H λcs' us O=>?_;have U:=ju H O (us:=kvs.map λE=>(E.1*c,E.2)) (pairwise_map.mpr (C.so.imp λ{a b}h=>Int.mul_lt_mul_of_pos_right h (by omega))) (λE G=>by obtain⟨x,W,rfl⟩:=mem_map.mp G;have h0:=C.b.nn x W;have h1:1*1<=x.1*c:=Int.mul_le_mul h0.1 (by omega) (by omega) (by omega);exact⟨h1,h0.2⟩) (Dz.hours (by omega) (λv e=>(A.ok v e).r0) (dz A C));simp[show kvs.length<=16777216 by omega];refine bH (F5 _ _ _) (scB c) ⟨.aW,.aW,rfl,rfl,rfl⟩ ?_ ?_;.rintro d hd _⟨s,t,rfl,hs,ht⟩;obtain⟨p,hp,rfl⟩:=mem_map.mp hd;simp[hs,ht,cF,y];exact⟨rfl,_,_,rfl,rfl,rfl⟩
   rintro _⟨s,t,rfl,hs,ht⟩;have X:(kvs.map cF).map (scB c)=us.map cF:=by rw[U,map_map,map_map];rfl
   rw[X];simp[Nv];exact q
 .symm;simp;exact q
def Q5:D->D|.tup [.int _,.int v]=>.int v|d=>d
theorem yz:∀{l:List (Int×Int)},(l.map (·.2)).sum=vs l|[]=>rfl|kv::r=>by rw[map_cons,sum_cons,vs,yz]
inductive G7(a b c d e f g:Sl)(ρ:List Sl):Prop where|mk(s:Sl)(t:Sl)(q0:ρ=[a,b,c,d,e,f,g,s,t])(q1:fr s=true)(q2:fr t=true)
inductive JW(a b c d e f:Sl)(A:Int)(r:List D)(ρ:List Sl):Prop where|mk(s:Sl)(q0:ρ=[a,b,c,d,e,f,s])(q1:fr s=true)(q2:∀d∈r,∃q:Int,d=.int q/\0<=q/\q<=A)
theorem qC(e:bL m ws)(h:vR m ws cs kvs)(k:vR m ws cs' us):kvs=us:=ju e h k.so k.b.nn (dz e k)
theorem Tg(h:bL m ws)(e:ws[j]?=some u)(hr:u.r≠1000000000):bL m (ws.set j (La u (u.r+1))):=by
 have k:=h.ok u (mem_of_getElem? e);refine⟨h.m0,h.m1,by simpa using h.len,λv t=>?_⟩;rcases List.mem_or_eq_of_mem_set t with t|rfl;.exact h.ok v t
 .exact⟨k.s0,k.s1,k.t0,k.t1,k.ne,by show 0<=u.r+1;have:=k.r0;omega,by show u.r+1<=_;have:=k.r1;omega,k.h0,k.h1⟩
theorem wW(I:13286250<=w)(y:bL m ws)(C:vR m ws cs kvs)(e:ws[j]?=some u)(q:Q (.val (.bl true)) [.val false (aN m ws),.own true (kvs.map cF),.val false (.int j)]):(run Γ w (n+7) 25 [.val false (aN m ws),.own true (kvs.map cF),.val false (.int j)]).sat Q:=by
 have ac:=C.len;refine aO (d:=f25) rfl rfl (by decide) ?_;symm;simp[f25,dX e,oK];refine⟨λ_=>?_,λhr=>?_⟩;.symm;simp;exact q
 have B:=Tg y e hr;symm;simp[dX e,oK];refine Dd y e ?_;have eW:ws.set j ⟨u.s,u.t,u.r+1,u.h⟩=ws.set j (La u (u.r+1)):=rfl;rw[eW];generalize E:ws.set j (La u (u.r+1))=us at*;simp;apply ak;simp[show kvs.length<=16777216 by omega];refine bH (G7 _ _ _ _ _ _ _) Q5 ⟨.aW,.aW,rfl,rfl,rfl⟩ ?_ ?_;.rintro d hd _⟨s,t,rfl,hs,ht⟩;obtain⟨p,hp,rfl⟩:=mem_map.mp hd;simp[hs,ht,cF];exact⟨rfl,_,_,rfl,rfl,rfl⟩
 rintro _⟨s,t,rfl,hs,ht⟩;have Z:∀l:List (Int×Int),(l.map cF).map Q5=(l.map (·.2)).map D.int:=λl=>by rw[map_map,map_map];rfl
 rw[Z];have J:=yz (l:=kvs);have L:=fH (ns:=kvs.map (·.2));generalize kvs.map (·.2)=n1 at*;simp[L,J];apply ak;simp;refine eZ I B λcs' ks G=>?_;have ae:=G.len;simp[show ks.length<=16777216 by omega];refine bH (G7 _ _ _ _ _ _ _) Q5 ⟨.aW,.aW,rfl,rfl,rfl⟩ ?_ ?_;.rintro d hd _⟨s,t,rfl,hs,ht⟩;obtain⟨p,hp,rfl⟩:=mem_map.mp hd;simp[hs,ht,cF];exact⟨rfl,_,_,rfl,rfl,rfl⟩
 rintro _⟨s,t,rfl,hs,ht⟩;rw[Z];have M:=yz (l:=ks);have O:=fH (ns:=ks.map (·.2));generalize ks.map (·.2)=n2 at*;simp[O,M];rw[<-E]at G B;have hR:=Cg y B e C G;have hv:=Bt C.b.nn;symm;have A:=Dh (S:=[vs kvs,vs kvs+1]) (i:=vs ks);simp only[map_cons,map_nil]at A;have hc:([vs kvs,vs kvs+1].contains (vs ks))=true:=by
  rw[contains_iff_mem];have:vs ks=vs kvs\/vs ks=vs kvs+1:=by omega
  rcases this with h|h<;>simp[h]
 rw[hc]at A;simp[A];apply ak;simp;refine cL (JW _ _ _ _ _ _ (vs kvs)) ?_ ?_ ⟨_,rfl,rfl,?_⟩;.rintro d r _⟨s,rfl,hs,hd⟩;obtain⟨x,rfl,x0,x1⟩:=hd d (by simp);simp[hs];apply ak;simp;rw[<-E];refine qF I B x0 (λU k2 W=>by rw[qC B W G];omega) λU k2 W=>?_;simp;refine qF I y x0 (λX k3 H=>by rw[qC y H C];omega) λX k3 H=>?_;have:=Yn y B e H W x0 (by rw[qC y H C];omega);simp[show ¬ lh k3 x<lh k2 x by omega];exact⟨_,rfl,rfl,λd Y=>hd d (by simp[Y])⟩
 .rintro _⟨s,rfl,hs,hd⟩;symm;simp;exact q
 . intro d hd;simp at hd;rcases hd with rfl|rfl|rfl;.exact⟨_,rfl,by omega,by omega⟩
   .exact⟨_,rfl,by omega,by omega⟩
   .exact⟨_,rfl,by omega,by omega⟩
@[simp]theorem W9{kvs:List (Int×Int)}:blt .JL [.dq (.k kvs)]=if kvs.length<64 then some (.own (nQ (kvs.map cF)))else none:=rfl
structure YS(rs us:List (Int×Int)):Prop where
 so:us.Pairwise (λa b=>a.1<b.1)nn:∀kv∈us,1<=kv.1/\0<kv.2
 sm:∀W,Oj W->cQ W us=cQ W rs
structure Ug(rs kvs:List (Int×Int)):Prop where
 nd:(kvs.map (·.1)).Nodup
 nn:∀kv∈kvs,1<=kv.1/\0<kv.2
 sm:∀W,Oj W->cQ W kvs=cQ W rs
 len:kvs.length<=rs.length
theorem Ug.nQ{rs kvs:List (Int×Int)}(h:Ug rs kvs)(H:kvs.length<64):∃us,HH.nQ (kvs.map cF)=us.map cF/\YS rs us:=by
 have B:=qJ (kvs.map cF);have hs:=qx (kvs.map cF);have C:((HH.nQ (kvs.map cF)).map J6).map cF=HH.nQ (kvs.map cF):=by rw[map_map];refine(map_congr_left λd hd=>?_).trans (List.map_id _);obtain⟨p,_,rfl⟩:=mem_map.mp (B.mem_iff.mp hd);rfl
 have t:((HH.nQ (kvs.map cF)).map J6).Perm kvs:=by have:=B.map J6;rw[map_map]at this;have e:kvs.map (J6 ∘ cF)=kvs:=(map_congr_left λp _=>rfl).trans (List.map_id _);rw[e]at this;exact this
 refine⟨(HH.nQ (kvs.map cF)).map J6,C.symm,⟨?_,λE y=>h.nn E (t.mem_iff.mp y),λW G=>by rw[Gb t,h.sm W G]⟩⟩;have nd:(((HH.nQ (kvs.map cF)).map J6).map (·.1)).Nodup:=(t.map (·.1)).nodup_iff.mpr h.nd;rw[<-C]at hs;generalize(HH.nQ (kvs.map cF)).map J6=us at*;rw[pairwise_map]at hs;have A:us.Pairwise λa b=>a.1≠b.1:=pairwise_map.mp nd;refine(hs.and A).imp λ{a b}⟨h1,h2⟩=>?_;have h1:(!aZ [b.1,b.2] [a.1,a.2])=true:=h1;simp[aZ]at h1;omega
inductive JTg(rs:List (Int×Int))(s0:Sl)(r:List D)(ρ:List Sl):Prop where|mk(cU us kvs:List (Int×Int))(s2 s3:Sl)(q0:ρ=[s0,.gA (.k kvs),s2,s3])(q1:(fr s2=true/\fr s3=true))(q2:r=us.map cF)(q3:cU++us=rs)(q4:Ug cU kvs)
theorem Ky{rs:List (Int×Int)}(J:∀r∈rs,1<=r.1/\0<r.2)(hl:rs.length<64)(k:∀us,YS rs us->Q (.own (us.map cF)) [.own false (rs.map cF)]):(run Γ w (n+1) 21 [.own false (rs.map cF)]).sat Q:=by
 refine aO (d:=f21) rfl rfl (by decide) ?_;symm;simp[f21,Bq];apply ak;simp;refine cL (JTg rs _) ?_ ?_ ⟨[],rs,[],.aW,.aW,rfl,⟨rfl,rfl⟩,rfl,rfl,⟨by simp,by simp,λW _=>rfl,by simp⟩⟩;.rintro d r _⟨A,us,kvs,s2,s3,rfl,⟨G,H⟩,hr,hd,t⟩;cases us with|nil=>cases hr|cons u us=>
     obtain⟨rfl,rfl⟩:d=cF u/\r=us.map cF:=by simpa using hr
     have L:=J u (by rw[<-hd];simp);have M:A.length<=rs.length:=by rw[<-hd];simp
     have C:=t.len;have E:(A++[u])++us=rs:=by rw[append_assoc];exact hd
     simp[cF,G,H];apply ak;simp[Ca,Ir,Jh];rw[Oi (by show _<16777216;omega)];simp;obtain⟨O,q2,U,X⟩:=qW (k:=u.1) (x:=u.2) t.nd;refine⟨A++[u],us,putD kvs u.1 (gv kvs u.1+u.2),_,_,rfl,⟨rfl,rfl⟩,rfl,E,⟨O,λB y=>?_,λW I=>?_,by simp;omega⟩⟩
     . rcases U B y with e|e;.have:=O8 (k:=u.1) λB y=>(t.nn B y).2;rw[e];exact⟨L.1,by show 0<_+_;omega⟩
       .exact t.nn B e
     .rw[X W I,t.sm W I,pC];show _=_+(W u.1 u.2+0);omega
 . rintro _⟨A,us,kvs,s2,s3,rfl,⟨G,H⟩,hr,hd,t⟩;have:us=[]:=by cases us with|nil=>rfl|cons _ _=>cases hr
   subst this;rw[append_nil]at hd;subst hd;have C:=t.len;obtain⟨us,Y,Z⟩:=t.nQ (by omega);simp;apply ak;simp[show kvs.length<64 by omega,Y];exact k us Z
inductive F6(a b c d e f:Sl)(ρ:List Sl):Prop where|mk(s:Sl)(q0:ρ=[a,b,c,d,e,f,s])(q1:fr s=true)
def mpD(f:Int->Int):D->D|.tup [.int s,.int t,.int r,.int h]=>(mp f ⟨s,t,r,h⟩).d|d=>d
def shD(m:Int):D->D|.int i=>.int (i+m-2)|d=>d
theorem places_eq(e:2<=k)(t:k<=4):D.int 0::(((List.range (k.toNat-1-1)).map λ(i:Nat)=>D.int (1+(i:Int))).map (shD m)++[D.int (m+k-3)])=(List.range k.toNat).map λ(p:Nat)=>D.int (gG m k p):=by
 obtain rfl|rfl|rfl:k=2\/k=3\/k=4:=by omega
 .show[D.int 0,.int (m+2-3)]=[.int (gG m 2 0),.int (gG m 2 1)];rfl
 .show[D.int 0,.int (1+0+m-2),.int (m+3-3)]=[.int (gG m 3 0),.int (gG m 3 1),.int (gG m 3 2)];rfl
 .show[D.int 0,.int (1+0+m-2),.int (1+1+m-2),.int (m+4-3)]=[.int (gG m 4 0),.int (gG m 4 1),.int (gG m 4 2),.int (gG m 4 3)];rfl
theorem Lz(m0:2<=m):((List.range (m.toNat-1)).map λ(i:Nat)=>D.int (i:Int))++[D.int (m+k-3)]=(List.range m.toNat).map λ(p:Nat)=>D.int (jd m k p):=by
 obtain⟨j,e⟩:∃j:Nat,m.toNat=j+1:=⟨m.toNat-1,by omega⟩;rw[e,range_succ,map_append];congr 1;.refine map_congr_left λp t=>?_;have:=List.mem_range.mp t;unfold jd;rw[if_neg (by omega)]
 .show[D.int (m+k-3)]=[D.int (jd m k j)];unfold jd;rw[if_pos (by omega)]
theorem Jc{f:Int->Int}(h0:0<=p)(h1:p<k):at' ((List.range k.toNat).map λ(p:Nat)=>D.int (f p)) p=some (.int (f p)):=by
 obtain⟨j,rfl⟩:∃j:Nat,p=j:=⟨p.toNat,by omega⟩;have e:(List.range k.toNat)[j]?=some j:=by rw[List.getElem?_range (by omega)]
 exact dX (f:=λ(p:Nat)=>D.int (f p)) e
theorem KD{us:List Wy}(h:N4 m ws)(g:N4 k us)(q:Q (.val (aN (m+k-3+1) (v7 m ws k us))) [.val false (aN m ws),.val false (aN k us)]):(run Γ w (n+1) 22 [.val false (aN m ws),.val false (aN k us)]).sat Q:=by
 have m0:=h.ok.m0;have m4:=h.m4;have E:=g.ok.m0;have G:=g.m4;have H:=h.l6;have I:=g.l6;refine aO (d:=ZX) rfl rfl (by decide) ?_;symm;simp[ZX];apply ak;simp;refine⟨by omega,λ_=>?_,by omega⟩;refine bH (F6 _ _ _ _ _ _) (shD m) ⟨.aW,rfl,rfl⟩ ?_ ?_;.rintro d hd _⟨s,rfl,hs⟩;obtain⟨i,hi,rfl⟩:=mem_map.mp hd;simp[hs];exact⟨rfl,_,rfl,rfl⟩
 rintro _⟨s,rfl,hs⟩;have J:=places_eq (m:=m) E G;have Y:(((List.range (k.toNat-1-1)).map λ(i:Nat)=>D.int (1+(i:Int))).map (shD m)).length<=10:=by simp;omega
 generalize((List.range (k.toNat-1-1)).map λ(i:Nat)=>D.int (1+(i:Int))).map (shD m)=ps at*;refine⟨by show _<=16777216;omega,?_⟩;simp[show ps.length+1+1<=16777216 by omega,J];have y:=λp=>Jc (k:=k) (p:=p) (f:=gG m k);generalize((List.range k.toNat).map λ(p:Nat)=>D.int (gG m k p))=Z at*;symm;have L:=Lz (m:=m) (k:=k) m0;simp[show m-1<=1000000000 by omega];refine⟨by omega,by omega,by show _<=16777216;omega,?_⟩;rw[L];have A:=λp=>Jc (k:=m) (p:=p) (f:=jd m k);generalize((List.range m.toNat).map λ(p:Nat)=>D.int (jd m k p))=ml at*;symm;simp[show ws.length<=16777216 by omega];refine bH (F6 _ _ _ _ _ _) (mpD (jd m k)) ⟨.aW,rfl,rfl⟩ ?_ ?_;.rintro d hd _⟨s,rfl,hs⟩;obtain⟨v,e,rfl⟩:=mem_map.mp hd;have o:=h.ok.ok v e;simp[hs,vB,uW,oK,oA,A v.s o.s0 o.s1,A v.t o.t0 o.t1];exact⟨rfl,_,rfl,rfl⟩
 rintro _⟨s,rfl,hs⟩;have M:(ws.map Wy.d).map (mpD (jd m k))=(ws.map (mp (jd m k))).map Wy.d:=by rw[map_map,map_map];rfl
 rw[M];have l3:(ws.map (mp (jd m k))).length<=6:=by simpa using H
 generalize O:ws.map (mp (jd m k))=B at*;simp;apply ak;simp[show us.length<=16777216 by omega];refine bH (F6 _ _ _ _ _ _) (mpD (gG m k)) ⟨.aW,rfl,rfl⟩ ?_ ?_;.rintro d hd _⟨s,rfl,hs⟩;obtain⟨v,e,rfl⟩:=mem_map.mp hd;have o:=g.ok.ok v e;simp[hs,vB,uW,oK,oA,y v.s o.s0 o.s1,y v.t o.t0 o.t1];exact⟨rfl,_,rfl,rfl⟩
 rintro _⟨s,rfl,hs⟩;have U:(us.map Wy.d).map (mpD (gG m k))=(us.map (mp (gG m k))).map Wy.d:=by rw[map_map,map_map];rfl
 rw[U];have l5:(us.map (mp (gG m k))).length<=6:=by simpa using I
 generalize W:us.map (mp (gG m k))=C at*;simp[show B.length+C.length<=16777216 by omega];apply ak;simp;have X:aN (m+k-3+1) (v7 m ws k us)=.tup [.int (m+k-3+1),.tup (B.map Wy.d++C.map Wy.d)]:=by rw[aN,v7,O,W,map_append]
 rw[X]at q;exact q
theorem acS{e:List D}:blt .rvs [.tup e]=some (.val (.tup e.reverse)):=rfl
theorem K8:cm .eq (.tup (ws.map Wy.d)) (.tup [])=some ws.isEmpty:=by
 show uJ _ _=_;unfold uJ;have h1:gP 8 (.tup (ws.map Wy.d))=true:=by show(ws.map Wy.d).all (gP 7)=true;rw[all_eq_true];intro d hd;obtain⟨p,_,rfl⟩:=mem_map.mp hd;rfl
 have e:gP 8 (.tup [])=true:=rfl;rw[h1,e];cases ws with|nil=>rfl|cons v ws=>rfl
inductive J34(v:Sl)(r:List D)(ρ:List Sl):Prop where|mk(s1:Sl)(s2:Sl)(s3:Sl)(s4:Sl)(s5:Sl)(q0:ρ=[v,s1,s2,s3,s4,s5])(q1:A5 (fr s1=true) (fr s2=true) (fr s3=true) (fr s4=true) (fr s5=true))(q2:∀d∈r,∃i,d=D.int i)
theorem Eb{x y:Int}(C:13286250<=w)(G:N4 m ws)(q:∀x z:Int,Q (.val (.bl true)) [.own true [.int x,.int y,.int z],.val false (aN m ws)]):(run Γ w (n+8) 26 [.own true [.int x,.int y,.int z],.val false (aN m ws)]).sat Q:=by
 have e:=G.ok;have hl:=G.l6;have m4:=G.m4;refine aO (d:=Z1) rfl rfl (by decide) ?_;symm;simp[Z1];refine eZ C e λcs kvs A=>?_;simp;apply ak;simp;refine wV (by omega) ?_;simp;refine eZ C (Hn e) λO k2 U=>?_;have W:=ju (Hn e) U A.so A.b.nn λT E=>(dz e A T E).turn;subst W;have X:D.tup [.int m,.tup (ws.map Wy.d).reverse]=aN m ws.reverse:=by rw[aN,List.map_reverse]
 have I:bL m ws.reverse:=⟨e.m0,e.m1,by simpa using e.len,λv Y=>e.ok v (List.mem_reverse.mp Y)⟩;simp[xg,acS,-List.map_reverse];rw[X];refine eZ C I λZ k3 h3=>?_;have e3:=ju I h3 A.so A.b.nn λT E=>(dz e A T E).rev;subst e3;simp[xg];apply ak;simp;refine cT (by decide) (by decide) λt x z t0 t1=>?_;simp;refine zr C e A (by omega) (by omega) ?_;simp;apply ak;simp[K8];refine⟨λH=>?_,λH=>?_⟩;.subst H;have e4:=ju e A (us:=[]) (by simp) (by simp) λT E=>⟨⟨λp=>if p=0 then 0 else T+1,rfl,if_neg (by have:=e.m0;omega),rfl⟩,λq _ _=>Int.le_refl _⟩;subst e4;symm;have:=Nv (us:=[]);rw[map_nil]at this;simp[this];exact q _ _
 have J:0<ws.length:=List.length_pos_iff.mpr H;symm;simp;refine cT (by omega) (gK (by omega)) λj x z j0 j1=>?_;obtain⟨j,rfl⟩:∃k:Nat,j=k:=⟨j.toNat,by omega⟩;have hj:j<ws.length:=by omega
 have B:ws[j]?=some ws[j]:=by simp[hj]
 generalize ws[j]=u at B;have L:=e.ok u (mem_of_getElem? B);have ac:=L.h0;have ae:=L.h1;simp;apply ak;simp[dX B,oA];refine fO (λρ=>∃x z s,ρ=[.own true [.int x,.int y,.int z],.val false (aN m ws),.own false (k3.map cF),.val false (.int j),.val false (.int u.h),s]) ?_ ?_;.simp;intro hh;symm;simp;refine fY (by omega) (gK (by omega)) λf x z f0 f1=>?_;simp;apply ak;simp;refine zy (by omega) B (by omega) (by omega) ?_;have M:=GZ (j:=j) (t:=1+f) e (by omega) (by omega) (mem_of_getElem? B) (by omega) (by omega);simp;refine eZ C M λaf k5 h5=>?_;have e5:=ju M h5 A.so A.b.nn λT E=>(dz e A T E).part e B;subst e5;simp[xg]
 rintro _⟨x,z,s,rfl⟩;symm;simp;refine wW C e A B ?_;simp;exact q _ _
inductive aco(ns:List Int)(_:Nat)(ρ:List Sl):Prop where|mk(cs:List Int)(s:Sl)(q0:ρ=[.val false (.lst (ns.map D.int)),.val false (.int 6),.own false (cs.map D.int),s])(q1:fr s=true)(q2:cs.length=6)
theorem zj(E:ns.length<=63)(k:∀cs:List Int,cs.length<=6->Q (.own (cs.map D.int)) [.val false (.lst (ns.map D.int)),.val false (.int 6)]):(run Γ w (n+1) 27 [.val false (.lst (ns.map D.int)),.val false (.int 6)]).sat Q:=by
 refine aO (d:=Z3) rfl rfl (by decide) ?_;refine fO (λρ=>ρ=[.val false (.lst (ns.map D.int)),.val false (.int 6),.own false ((replicate 6 (0:Int)).map D.int),.aW]) ?_ ?_;.simp[Z3];decide
 rintro _ rfl;symm;simp[show(ns.length:Int)<=1000000000 by omega];refine qp (aco ns) ?_ ?_ ⟨replicate 6 0,.aW,by simp,rfl,by simp⟩;.rintro i _ hi⟨cs,s,rfl,hs,e⟩;obtain⟨j,y,t⟩:∃j:Nat,(i:Int)%6=(j:Int)/\j<cs.length:=⟨i%6,by omega,by omega⟩;have A:at' (cs.map D.int) (j:Int)=some (.int cs[j]):=dX (by simp[t]);have B:at' (ns.map D.int) (i:Int)=some (.int ns[i]):=dX (by simp[hi]);have C:iW cs.length (j:Int)=some j:=G8 t;simp[hs];apply ak;simp[y,A,B,C];exact⟨cs.set j (cs[j]*1000003+ns[i]),.val false (.int i),by simp[map_set],rfl,by simpa using e⟩
 .rintro _⟨cs,s,rfl,hs,e⟩;symm;simp[ab3,Kq];exact k _ (le_trans Um (by omega))
theorem Lb(ns:List Int)(O:ns.length<=63):∃as,run Γ 100000000 40 28 [.val false (.lst (ns.map D.int))]=.ok (.val (.bl true)) as:=by
 suffices h:(run Γ 100000000 40 28 [.val false (.lst (ns.map D.int))]).sat λr _=>r=.val (.bl true)by obtain⟨a,ρ,e,rfl⟩:=sat_iff.mp h;exact⟨ρ,e⟩
 refine aO (d:=f28) rfl rfl (by decide) ?_;symm;simp[f28];refine zj O λcs U=>?_;simp;refine cL (J34 (.val false (.lst (ns.map D.int)))) ?_ ?_ ⟨_,_,_,_,_,rfl,⟨rfl,rfl,rfl,rfl,rfl⟩,λd hd=>?_⟩
 . rintro d r _⟨s1,s2,s3,s4,s5,rfl,⟨h1,W,X,Y,Z⟩,hd⟩;obtain⟨x,rfl⟩:=hd d (by simp);simp[h1];apply ak;simp;refine GX λa y c=>?_;simp[W];apply ak;simp;refine BX λx z m ws t=>?_;simp[X];apply ak;simp;refine BX λx z k us A=>?_;simp[Y];apply ak;simp;refine Eb (by decide) t λx z=>?_;simp;apply ak;simp;refine eZ (by decide) t.ok λac J B=>?_;simp;refine eZ (by decide) A.ok λae L C=>?_;have l1:=B.few t.m4 t.l6;have l2:=C.few A.m4 A.l6;simp[show J.length+L.length<=16777216 by omega];rw[<-map_append];refine Ky (rs:=J++L) (λr hr=>?_) (by simp;omega) λts G=>?_
   . rcases mem_append.mp hr with hr|hr;.exact B.b.nn r hr
     .exact C.b.nn r hr
   simp[Z];apply ak;simp;refine KD t A ?_;simp;have M:=Ku t.ok A.ok t.m4 A.m4 t.l6 A.l6;refine eZ (by decide) M λaf k3 H=>?_;have e3:=ju M H G.so G.nn λT E=>by rw[G.sm _ Gp,pC];exact(dz t.ok B T E).bes t.ok A.ok (dz A.ok C T E)
   subst e3;simp[xg];exact⟨_,_,_,_,_,rfl,⟨rfl,rfl,rfl,rfl,rfl⟩,λd I=>hd d (by simp[I])⟩
 .rintro _⟨s1,s2,s3,s4,s5,rfl,_,hd⟩;symm;simp
 .obtain⟨i,_,rfl⟩:=mem_map.mp hd;exact⟨i,rfl⟩
end T
end
structure PySem.W.Fast:Prop where(tw9702661762184776957 tw17870792233640050288 tw2519944354497092347 tw11391873751305621139 tw15040132276435174406 tw3217725452817371104 tw16226670808760962322 tw16194272308649285913 tw16101638647116883025 tw9519161294745121812 tw12717142159734089280 tw11532920736228938413 tw5746727034807258160 tw8264213979131966273 tw10936508359601970599 tw1785822652438138615 tw17724751355349188052 tw5433470869617211001 tw11080781462564932479 tw16162523999668154967 tw13632992701264516511 tw9960080380712442931 tw2598198783057961741 tw12391094634807290725 tw13590221782866970662 tw14106190917490308520 tw16278010560205804948 tw16808327610985501376 tw6927454342902461894 tw2662937641971770719 tw11070318155058225898 tw3475386646442988300 tw10443768995221523099 tw2017053519945474791 tw7217963827478983481 tw5404421736926273431 tw17285127202952173781 tw4985184317998208109 tw8237674932449684378 tw600031181070743420 tw9725362199429660794 tw17769423243212082838 tw16218533165630992122 tw16746656014092597424 tw10903832111915810767 tw203904153246555083 tw10902542228691683242 tw8871214026641549430 tw3110979432240069893 tw12210234733660823136 tw10546122238392667660 tw645878221227195723 tw6074100769907130640 tw7169016794294047638 tw4165844481870590850 tw12331392310920168376 tw199492880716453882 tw1500684143448171210 tw15235789375271850238 tw12967124258165034840 tw500767332448399400 tw8233786546275218168 tw1270958346558727373 tw7272005747167794443 tw10460293826396870625 tw12657341564610810285 tw10153276339722779352 tw17070816680711112931 tw11701515974358327381 tw5567628773962770274 tw16202979022436100766 tw13292815916707886653 tw9752526164940748187 tw9107232640245386104 tw17937350809973382280 tw11227461897088034873 tw1326537908061638886 tw13455337006016498141 tw2797415639639545693 tw1677235859633618741 tw3755505885988611234 tw15922356931865553016 tw2609107166476976591 tw16602792713775383905 tw12278611391341362918 tw4816374854822834379 tw3880981620512940146 tw15099783443691992901 tw13270007319525079826 tw3177832292822697843 tw2485783394030664970 tw16314361610190648861 tw11246876240587136747 tw15105121814209758166 tw2005661355688526093 tw10053698792745845260 tw1050516711386023945 tw14323748568041378973 tw16959099302800874169 tw12336366643877207949 tw10899489762420269945 tw9092691787418007745 tw5039549010812321263 tw2048978068758070955 tw11237010707404785838 tw1492583226237258897 tw7180041578927918523 tw13326781762594363702 tw15820520237868437472 tw432210346916476748 tw17685171433682931165 tw5603408570682039831 tw1699398520771263591 tw14684207941254514883 tw4273405303125024910 tw3612581799652010264 tw14582650730375546622 tw6500244878007007104 tw13881215528744280400 tw7331144636552383395 tw15078266692583861987 tw12078404880726577805 tw109866999135409868 tw17820190582774616334 tw13421784236979256438 tw10771473912751141502 tw12504066287333181176 tw11684344470057578673 tw10690693541102649195 tw6011828757290114838 tw4179292878384419721 tw3329841008416348012 tw9183447969035587211 tw11894199699333055237 tw6108366553372846617 tw5453986494761422992 tw3282590313671243651 tw6458821660144180560 tw1334227047627582367 tw1126240220765820963 tw7622403776424911909 tw8635050237543537938 tw5771446064057745573 tw9939596505023423705 tw17054701521566408206 tw13570935809501423993 tw5157827453922439511 tw937665939857359212 tw18166986841081618039 tw3581263479381937276 tw16933637030100343402 tw10406274193589224840 tw13106185063241762123 tw14901210378366438182 tw14757021389049712432 tw18443400869775686820 tw17915629984852797784 tw17607589169895703945 tw6093418483606638282 tw7799851254344523143 tw4108605361181944105 tw14022367631092158612 tw9920577379653886860 tw11104702066360643458 tw16047682163992271833 tw5012256216513473432 tw14950383941370050671 tw3643150510708659901 tw13122490696272995814 tw2424451265779149702 tw4134035188285614435 tw11307106077619129749 tw15305567483457554273 tw16408382042981106516 tw5328774171810664501 tw7676361727363729446 tw11488249900483174092 tw14044593013055410901 tw4101332421805489629 tw6840984671653783630 tw16503239086277268314 tw598274185391823863 tw4314180148642730782 tw7408871769166488553 tw6363153066201306982 tw12975793671267992541 tw10971362736541983617 tw13136840952709215299 tw4652386072486757666 tw4868367708538771616 tw13519283597267379563 tw7490665815767663583 tw5571548538774909896 tw10231564960914768239 tw8188291366837093009 tw13099580105395924811 tw17866882729758246012 tw10428933369292858847 tw6185014867383032454 tw14831764158676140430 tw8524711617274929894 tw5137173523467843969 tw12004178813138901600 tw17659821915731604033 tw7851428299080450415 tw9899084152196067777 tw14183738857588302078 tw6336162082582209285 tw15160293616336887434 tw15237542698554725801 tw4240846719328601547 tw1502111072624935056 tw14826880255566880991 tw3250933232889626156 tw3498352626468609937 tw3345687191811421720 tw9861204936530772671 tw4394375837692000295 tw11762978473888604883 tw6983304553908383081 tw279961596848904136 tw1387496007855678597 tw16588288440200664610 tw9256783974873287485 tw16906192044824158346 tw305898663131958816 tw5921069284748554284 tw1820076513718228504 tw16132172510589351270 tw13476416748083679894 tw11815636392024862601:True)
namespace T
open PySem L2 PySem.Spec PyProof.Rows HH
theorem Xk{P:List Value → Prop}{n:Nat}(h:∀(a:Value)(us:List Value),us.length=n → P (a::us))(us:List Value)(b:us.length=n+1):P us:=by cases us with|nil=>cases b|cons a us=>exact h a us (Nat.succ.inj b)
theorem lk0{P:List Value → Prop}(h:P [])(us:List Value)(b:us.length=0):P us:=by cases us with|nil=>exact h|cons a us=>cases b
theorem Du{P:List Value → Prop}(h:∀a,P [a]):∀us:List Value,us.length=1 → P us:=Xk λa=>lk0 (h a)
theorem lW{P:List Value → Prop}(h:∀a b,P [a,b]):∀us:List Value,us.length=2 → P us:=Xk λa=>Du (h a)
theorem uN{P:List Value → Prop}(h:∀a b c,P [a,b,c]):∀us:List Value,us.length=3 → P us:=Xk λa=>lW (h a)
theorem lk4{P:List Value → Prop}(h:∀a b c d,P [a,b,c,d]):∀us:List Value,us.length=4 → P us:=Xk λa=>uN (h a)
theorem lk5{P:List Value → Prop}(h:∀a b c d e,P [a,b,c,d,e]):∀us:List Value,us.length=5 → P us:=Xk λa=>lk4 (h a)
local macro_rules|`(term|‹$p›)=>`(λ_ _ _ _ _ _=>$p)
structure Txt(K:PySem.W.Frag):Prop where
 D0:bR K "step_places" s0
 D1:bR K "step_hours" s1
 D2:bR K "step_room" s2
 D3:bR K "steps_hours" s3
 D4:bR K "open_steps" s4
 D5:bR K "shortest_come" s5
 D6:bR K "steps_to" s6
 D7:bR K "stream_with" s7
 D8:bR K "chains_to_end" s8
 D9:bR K "cut_to_rate" s9
 D10:bR K "bends_of" rH
 D11:bR K "least_hours" ZZ
 D12:bR K "known_way" s12
 D13:bR K "with_room" s13
 D14:bR K "turned_net" s14
 D15:bR K "end_moved" s15
 D16:bR K "parted_net" s16
 D17:bR K "_law_pool" s17
 D18:bR K "_law_next" s18
 D19:bR K "_law_wide" s19
 D20:bR K "_law_net" s20
 D21:bR K "_law_together" s21
 D22:bR K "_law_beside" s22
 D23:bR K "_law_times" s23
 D24:bR K "_law_scaled" s24
 D25:bR K "_law_widened" s25
 D26:bR K "_law_right" s26
 D27:bR K "_law_folded" s27
 D28:bR K "law" s28
 dZ:PySem.W.nsIn K mainGlobals "len"=some none
 gO:PySem.W.nsIn K mainGlobals "list"=some none
 ir:PySem.W.nsIn K mainGlobals "max"=some none
 iY:PySem.W.nsIn K mainGlobals "min"=some none
 cZ:PySem.W.nsIn K mainGlobals "range"=some none
 kY:PySem.W.nsIn K mainGlobals "reversed"=some none
 il:PySem.W.nsIn K mainGlobals "sorted"=some none
 jZ:PySem.W.nsIn K mainGlobals "sum"=some none
 bW:PySem.W.nsIn K mainGlobals "tuple"=some none
noncomputable def kj{K:PySem.W.Frag}(T:Txt K):Nat->Addr:=λk=>0
structure Oks(Pg:Program)(w:World)(K:PySem.W.Frag)(mg:Str->Option Value)(base:Heap)(cl:Nat->Addr)(n:Nat):Prop where
 c0:aX Pg w K mg base n (run Γ 100000000 n) 0 "step_places" 2
 c1:aX Pg w K mg base n (run Γ 100000000 n) 1 "step_hours" 2
 c2:aX Pg w K mg base n (run Γ 100000000 n) 2 "step_room" 3
 c3:aX Pg w K mg base n (run Γ 100000000 n) 3 "steps_hours" 2
 c4:aX Pg w K mg base n (run Γ 100000000 n) 4 "open_steps" 2
 c5:aX Pg w K mg base n (run Γ 100000000 n) 5 "shortest_come" 3
 c6:aX Pg w K mg base n (run Γ 100000000 n) 6 "steps_to" 3
 c7:aX Pg w K mg base n (run Γ 100000000 n) 7 "stream_with" 3
 c8:aX Pg w K mg base n (run Γ 100000000 n) 8 "chains_to_end" 1
 c9:aX Pg w K mg base n (run Γ 100000000 n) 9 "cut_to_rate" 2
 Qi:aX Pg w K mg base n (run Γ 100000000 n) 10 "bends_of" 1
 c11:aX Pg w K mg base n (run Γ 100000000 n) 11 "least_hours" 2
 c12:aX Pg w K mg base n (run Γ 100000000 n) 12 "known_way" 2
 c13:aX Pg w K mg base n (run Γ 100000000 n) 13 "with_room" 3
 c14:aX Pg w K mg base n (run Γ 100000000 n) 14 "turned_net" 1
 c15:aX Pg w K mg base n (run Γ 100000000 n) 15 "end_moved" 2
 c16:aX Pg w K mg base n (run Γ 100000000 n) 16 "parted_net" 3
 c17:aX Pg w K mg base n (run Γ 100000000 n) 17 "_law_pool" 1
 Zu:aX Pg w K mg base n (run Γ 100000000 n) 18 "_law_next" 2
 c19:aX Pg w K mg base n (run Γ 100000000 n) 19 "_law_wide" 2
 c20:aX Pg w K mg base n (run Γ 100000000 n) 20 "_law_net" 2
 c21:aX Pg w K mg base n (run Γ 100000000 n) 21 "_law_together" 1
 c22:aX Pg w K mg base n (run Γ 100000000 n) 22 "_law_beside" 2
 c23:aX Pg w K mg base n (run Γ 100000000 n) 23 "_law_times" 3
 c24:aX Pg w K mg base n (run Γ 100000000 n) 24 "_law_scaled" 3
 c25:aX Pg w K mg base n (run Γ 100000000 n) 25 "_law_widened" 3
 c26:aX Pg w K mg base n (run Γ 100000000 n) 26 "_law_right" 2
 c27:aX Pg w K mg base n (run Γ 100000000 n) 27 "_law_folded" 2
 c28:aX Pg w K mg base n (run Γ 100000000 n) 28 "law" 1
set_option maxHeartbeats 0 in
theorem Jj{Pg:Program}{w:World}{K:PySem.W.Frag}{mg:Str->Option Value}{base:Heap}(T:Txt K)(X:K.In base)(G:base.Ns mainGlobals mg):∀n,Oks Pg w K mg base (kj T) n
 |0=>{
   c0:=cB (ps:=["net","step"]) X G T.D0 rfl ‹lW λ_ _=>rfl›
   c1:=cB (ps:=["net","step"]) X G T.D1 rfl ‹lW λ_ _=>rfl›
   c2:=cB (ps:=["net","stream","step"]) X G T.D2 rfl ‹uN λ_ _ _=>rfl›
   c3:=cB (ps:=["net","steps"]) X G T.D3 rfl ‹lW λ_ _=>rfl›
   c4:=cB (ps:=["net","stream"]) X G T.D4 rfl ‹lW λ_ _=>rfl›
   c5:=cB (ps:=["net","stream","begun"]) X G T.D5 rfl ‹uN λ_ _ _=>rfl›
   c6:=cB (ps:=["net","come","place"]) X G T.D6 rfl ‹uN λ_ _ _=>rfl›
   c7:=cB (ps:=["stream","steps","loads"]) X G T.D7 rfl ‹uN λ_ _ _=>rfl›
   c8:=cB (ps:=["net"]) X G T.D8 rfl ‹Du λ_=>rfl›
   c9:=cB (ps:=["pairs","rate"]) X G T.D9 rfl ‹lW λ_ _=>rfl›
   Qi:=cB (ps:=["net"]) X G T.D10 rfl ‹Du λ_=>rfl›
   c11:=cB (ps:=["net","rate"]) X G T.D11 rfl ‹lW λ_ _=>rfl›
   c12:=cB (ps:=["net","number"]) X G T.D12 rfl ‹lW λ_ _=>rfl›
   c13:=cB (ps:=["net","number","room"]) X G T.D13 rfl ‹uN λ_ _ _=>rfl›
   c14:=cB (ps:=["net"]) X G T.D14 rfl ‹Du λ_=>rfl›
   c15:=cB (ps:=["end","place"]) X G T.D15 rfl ‹lW λ_ _=>rfl›
   c16:=cB (ps:=["net","number","hours"]) X G T.D16 rfl ‹uN λ_ _ _=>rfl›
   c17:=cB (ps:=["cell"]) X G T.D17 rfl ‹Du λ_=>rfl›
   Zu:=cB (ps:=["pool","base"]) X G T.D18 rfl ‹lW λ_ _=>rfl›
   c19:=cB (ps:=["pool","base"]) X G T.D19 rfl ‹lW λ_ _=>rfl›
   c20:=cB (ps:=["pool","most"]) X G T.D20 rfl ‹lW λ_ _=>rfl›
   c21:=cB (ps:=["pairs"]) X G T.D21 rfl ‹Du λ_=>rfl›
   c22:=cB (ps:=["one","other"]) X G T.D22 rfl ‹lW λ_ _=>rfl›
   c23:=cB (ps:=["net","rooms","hours"]) X G T.D23 rfl ‹uN λ_ _ _=>rfl›
   c24:=cB (ps:=["net","bends","times"]) X G T.D24 rfl ‹uN λ_ _ _=>rfl›
   c25:=cB (ps:=["net","bends","number"]) X G T.D25 rfl ‹uN λ_ _ _=>rfl›
   c26:=cB (ps:=["pool","net"]) X G T.D26 rfl ‹lW λ_ _=>rfl›
   c27:=cB (ps:=["script","most"]) X G T.D27 rfl ‹lW λ_ _=>rfl›
   c28:=cB (ps:=["script"]) X G T.D28 rfl ‹Du λ_=>rfl›}|n+1=>have a:=Jj (Pg:=Pg) (w:=w) (base:=base) T X G n
   {c0:=cz (ps:=["net","step"]) X G T.D0 rfl rfl ‹lW λ_ _=>rfl› λ_ _ F=>d0 (cl:=kj T) F
    c1:=cz (ps:=["net","step"]) X G T.D1 rfl rfl ‹lW λ_ _=>rfl› λ_ _ F=>d1 (cl:=kj T) F
    c2:=cz (ps:=["net","stream","step"]) X G T.D2 rfl rfl ‹uN λ_ _ _=>rfl› λ_ _ F=>d2 (cl:=kj T) F
    c3:=cz (ps:=["net","steps"]) X G T.D3 rfl rfl ‹lW λ_ _=>rfl› λ_ _ F=>d3 (cl:=kj T) F (mg_none_of X G T.jZ) a.c1
    c4:=cz (ps:=["net","stream"]) X G T.D4 rfl rfl ‹lW λ_ _=>rfl› λ_ _ F=>d4 (cl:=kj T) F (mg_none_of X G T.dZ) (mg_none_of X G T.cZ) a.c0 a.c2
    c5:=cz (ps:=["net","stream","begun"]) X G T.D5 rfl rfl ‹uN λ_ _ _=>rfl› λ_ _ F=>d5 (cl:=kj T) F (mg_none_of X G T.dZ) (mg_none_of X G T.gO) a.c4 a.c1 a.c0
    c6:=cz (ps:=["net","come","place"]) X G T.D6 rfl rfl ‹uN λ_ _ _=>rfl› λ_ _ F=>d6 (cl:=kj T) F (mg_none_of X G T.kY) (mg_none_of X G T.bW) a.c0
    c7:=cz (ps:=["stream","steps","loads"]) X G T.D7 rfl rfl ‹uN λ_ _ _=>rfl› λ_ _ F=>d7 (cl:=kj T) F (mg_none_of X G T.gO)
    c8:=cz (ps:=["net"]) X G T.D8 rfl rfl ‹Du λ_=>rfl› λ_ _ F=>d8 (cl:=kj T) F (mg_none_of X G T.dZ) (mg_none_of X G T.iY) a.c5 a.c2 a.c6 a.c7
    c9:=cz (ps:=["pairs","rate"]) X G T.D9 rfl rfl ‹lW λ_ _=>rfl› λ_ _ F=>d9 (cl:=kj T) F (mg_none_of X G T.iY)
    Qi:=cz (ps:=["net"]) X G T.D10 rfl rfl ‹Du λ_=>rfl› λ_ _ F=>d10 (cl:=kj T) F (mg_none_of X G T.il) a.c8 a.c3
    c11:=cz (ps:=["net","rate"]) X G T.D11 rfl rfl ‹lW λ_ _=>rfl› λ_ _ F=>d11 (cl:=kj T) F (mg_none_of X G T.jZ) a.Qi a.c9
    c12:=cz (ps:=["net","number"]) X G T.D12 rfl rfl ‹lW λ_ _=>rfl› λ_ _ F=>d12 (cl:=kj T) F (mg_none_of X G T.dZ)
    c13:=cz (ps:=["net","number","room"]) X G T.D13 rfl rfl ‹uN λ_ _ _=>rfl› λ_ _ F=>d13 (cl:=kj T) F a.c12
    c14:=cz (ps:=["net"]) X G T.D14 rfl rfl ‹Du λ_=>rfl› λ_ _ F=>d14 (cl:=kj T) F (mg_none_of X G T.bW)
    c15:=cz (ps:=["end","place"]) X G T.D15 rfl rfl ‹lW λ_ _=>rfl› λ_ _ F=>d15 (cl:=kj T) F
    c16:=cz (ps:=["net","number","hours"]) X G T.D16 rfl rfl ‹uN λ_ _ _=>rfl› λ_ _ F=>d16 (cl:=kj T) F (mg_none_of X G T.bW) a.c15 a.c12
    c17:=cz (ps:=["cell"]) X G T.D17 rfl rfl ‹Du λ_=>rfl› λ_ _ F=>d17 (cl:=kj T) F (mg_none_of X G T.ir)
    Zu:=cz (ps:=["pool","base"]) X G T.D18 rfl rfl ‹lW λ_ _=>rfl› λ_ _ F=>d18 (cl:=kj T) F
    c19:=cz (ps:=["pool","base"]) X G T.D19 rfl rfl ‹lW λ_ _=>rfl› λ_ _ F=>d19 (cl:=kj T) F a.Zu
    c20:=cz (ps:=["pool","most"]) X G T.D20 rfl rfl ‹lW λ_ _=>rfl› λ_ _ F=>d20 (cl:=kj T) F (mg_none_of X G T.ir) (mg_none_of X G T.iY) (mg_none_of X G T.cZ) (mg_none_of X G T.bW) a.Zu a.c19
    c21:=cz (ps:=["pairs"]) X G T.D21 rfl rfl ‹Du λ_=>rfl› λ_ _ F=>d21 (cl:=kj T) F (mg_none_of X G T.il)
    c22:=cz (ps:=["one","other"]) X G T.D22 rfl rfl ‹lW λ_ _=>rfl› λ_ _ F=>d22 (cl:=kj T) F (mg_none_of X G T.gO) (mg_none_of X G T.cZ) (mg_none_of X G T.bW)
    c23:=cz (ps:=["net","rooms","hours"]) X G T.D23 rfl rfl ‹uN λ_ _ _=>rfl› λ_ _ F=>d23 (cl:=kj T) F (mg_none_of X G T.bW)
    c24:=cz (ps:=["net","bends","times"]) X G T.D24 rfl rfl ‹uN λ_ _ _=>rfl› λ_ _ F=>d24 (cl:=kj T) F (mg_none_of X G T.ir) a.c23 a.Qi
    c25:=cz (ps:=["net","bends","number"]) X G T.D25 rfl rfl ‹uN λ_ _ _=>rfl› λ_ _ F=>d25 (cl:=kj T) F (mg_none_of X G T.jZ) a.Qi a.c11 a.c13
    c26:=cz (ps:=["pool","net"]) X G T.D26 rfl rfl ‹lW λ_ _=>rfl› λ_ _ F=>d26 (cl:=kj T) F (mg_none_of X G T.dZ) a.Zu a.c24 a.c19 a.c25 a.Qi a.c16 a.c14
    c27:=cz (ps:=["script","most"]) X G T.D27 rfl rfl ‹lW λ_ _=>rfl› λ_ _ F=>d27 (cl:=kj T) F (mg_none_of X G T.dZ) (mg_none_of X G T.ir) (mg_none_of X G T.iY) (mg_none_of X G T.cZ)
    c28:=cz (ps:=["script"]) X G T.D28 rfl rfl ‹Du λ_=>rfl› λ_ _ F=>d28 (cl:=kj T) F a.c22 a.c27 a.c20 a.c17 a.c26 a.c21 a.Qi}
set_option maxHeartbeats 0 in
theorem Tz{Pg:Program}{w:World}{K:PySem.W.Frag}{mg:Str->Option Value}{h:Heap}{i:Addr}(T:Txt K)(X:K.In h)(G:h.Ns mainGlobals mg)(g:mg "law"=some (.ref i)):∃fd:FuncData,(∀(s:Shared)(u:Value),BindsTo s fd ⟨[u],[]⟩ [("script",u)])/\∀base:Heap,K.In base->base.Ns mainGlobals mg->mY Pg w K mg base Fy 40 i fd ["script"] (Mm K 1 (run Γ 100000000 40 28)):=by
 obtain⟨f,fd,a,F⟩:=T.D28.ex;have e:=g.symm.trans (mg_of X G a);cases e;refine⟨fd,λs u=>?_,λbase j l=>?_⟩;.obtain⟨oc,q,kV,m,r,t,cdv,ct,o,rfl,lk,p⟩:=F.ex;exact .of_eq rfl
 .have b:=Jj (Pg:=Pg) (w:=w) (base:=base) T j l 39;exact d28 (cl:=kj T) (k:=39) (n:=100000000) (c:=run Γ 100000000 39) F b.c22 b.c27 b.c20 b.c17 b.c26 b.c21 b.Qi
end T
open PySem PySem.W PyProof.Rows
set_option maxRecDepth 100000 in
set_option maxHeartbeats 0 in
theorem PySem.Challenge.cw_hourhaul_k34_whole_bends_of_changed_nets_holds : PySem.Challenge.rw_hourhaul_k34_whole_bends_of_changed_nets.Holds := by
 w_on;o_law;k_head;(case hw=>w_witness2);k_fill;refine L2.Fw (l:=PySem.Challenge.rw_hourhaul_k34_whole_bends_of_changed_nets) (n:=63) (k:=40) (x:="script") (CX:=L2.Fy) (sp:=λK=>HH.Mm K 1 (HH.run T.Γ 100000000 40 28)) rfl (by decide) rfl ⟨rfl,by decide,by decide⟩ (λw h Y=>PySem.W.kIn_of Y) ?F ?S ?C;case F=>
  intro w mg j h f G b;refine T.Tz ?T f G b;constructor;iterate 29(· refine' HH.R1 ?a ?l ?c ?k;case a|l|c|k=>k_is)
  iterate 9(· k_is)
 case S=>intro K H a ns g m i;obtain⟨as,e⟩:=T.Lb ns g;exact HH.Dv i e
 case C=>exact λH s e o z=>z
